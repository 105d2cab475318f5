import PyProof.Rows.All
import Wide.All
import OpenK.AllK
import Wide.FinOn
import Lean
import PyProof.EqAt
import PyProof.EqKinds
import PyProof.TupleCall
import PySem.Challenge.RW_holebook_k61_a_bent_pair_away
set_option Elab.async false
set_option linter.all false
set_option maxRecDepth 100000

namespace L2
open PySem PySem.Spec PyProof.Rows


abbrev Key := Sum Int Str
def keyIs : Key → Value → Bool
  | .inl k, v => Value.isInt k v
  | .inr x, v => Value.isStrOf x v
def keyH (w : World) : Key → Int
  | .inl k => hashInt k
  | .inr x => hashStr w x
theorem keyIs_shape : ∀ {k : Key} {v : Value}, keyIs k v = true → (∃ i t, k = Sum.inl i ∧ v = Value.int i t) ∨ (∃ x t, k = Sum.inr x ∧ v = Value.str x t)
  | .inl i, v, h => by
    obtain ⟨t, e⟩ := Value.isInt_shape (k := i) (v := v) h
    exact .inl ⟨i, t, rfl, e⟩
  | .inr x, v, h => by
    obtain ⟨t, e⟩ := Value.isStrOf_shape (x := x) (v := v) h
    exact .inr ⟨x, t, rfl, e⟩
theorem keyIs_int (i : Int) (t : Tok) : keyIs (.inl i) (.int i t) = true := by simp [keyIs, Value.isInt]
theorem keyIs_str (x : Str) (t : Tok) : keyIs (.inr x) (.str x t) = true := by simp [keyIs, Value.isStrOf]
theorem key_ll (a b : Int) : decide ((Sum.inl a : Key) = Sum.inl b) = (a == b) := by
  by_cases e : a = b
  · subst e; simp
  · have h : ¬ (Sum.inl a : Key) = Sum.inl b := fun q => e (Sum.inl.inj q)
    rw [decide_eq_false h]
    exact (beq_eq_false_iff_ne.mpr e).symm
theorem key_rr (a b : Str) : decide ((Sum.inr a : Key) = Sum.inr b) = decide (a = b) := by
  by_cases e : a = b
  · subst e; simp
  · have h : ¬ (Sum.inr a : Key) = Sum.inr b := fun q => e (Sum.inr.inj q)
    rw [decide_eq_false h, decide_eq_false e]
theorem key_lr (a : Int) (b : Str) : decide ((Sum.inl a : Key) = Sum.inr b) = false := decide_eq_false (fun q => nomatch q)
theorem key_rl (a : Str) (b : Int) : decide ((Sum.inr a : Key) = Sum.inl b) = false := decide_eq_false (fun q => nomatch q)

def mixKind (prog : Program) (w : World) : PySem.KeyKind prog w Key where
  is := keyIs
  hash := keyH w
  inj := fun v a b ha hb => by
    rcases keyIs_shape ha with ⟨i, t, rfl, rfl⟩ | ⟨x, t, rfl, rfl⟩
    · rcases keyIs_shape hb with ⟨j, u, rfl, e⟩ | ⟨y, u, rfl, e⟩
      · injection e with e1 _; rw [e1]
      · exact nomatch e
    · rcases keyIs_shape hb with ⟨j, u, rfl, e⟩ | ⟨y, u, rfl, e⟩
      · exact nomatch e
      · injection e with e1 _; rw [e1]
  byValue := fun k v h => by
    rcases keyIs_shape h with ⟨i, t, rfl, rfl⟩ | ⟨x, t, rfl, rfl⟩ <;> rfl
  pyHash := fun hv h => by
    rcases keyIs_shape hv with ⟨i, t, rfl, rfl⟩ | ⟨x, t, rfl, rfl⟩
    · exact wpAny_pyHash_int h
    · exact wpAny_pyHash_str h
  eqBool := fun hu hv h => by
    rcases keyIs_shape hu with ⟨i, t, rfl, rfl⟩ | ⟨x, t, rfl, rfl⟩
    · rcases keyIs_shape hv with ⟨j, u, rfl, rfl⟩ | ⟨y, u, rfl, rfl⟩
      · rw [key_ll] at h; exact wpAny_eqBool_int h
      · rw [key_lr] at h; exact SeqAt.EqAt.int_str i t y u _ _ _ _ h
    · rcases keyIs_shape hv with ⟨j, u, rfl, rfl⟩ | ⟨y, u, rfl, rfl⟩
      · rw [key_rl] at h; exact SeqAt.EqAt.str_int x t j u _ _ _ _ h
      · rw [key_rr] at h; exact wpAny_eqBool_str h
  «strs» := fun k x t v h => by
    rcases keyIs_shape h with ⟨i, u, rfl, e⟩ | ⟨y, u, rfl, e⟩
    · exact nomatch e
    · injection e with e1 _
      subst e1
      cases v <;> rfl

theorem mixKind_int (prog : Program) (w : World) (i : Int) (t : Tok) : (mixKind prog w).is (.inl i) (.int i t) = true := keyIs_int i t
theorem mixKind_str (prog : Program) (w : World) (x : Str) (t : Tok) : (mixKind prog w).is (.inr x) (.str x t) = true := keyIs_str x t
end L2

namespace L2
open PySem PySem.Spec PyProof.Rows


inductive V where
  | non | bl (b : Bool) | int (i : Int) | str (x : Str) | byt (b : Array UInt8) | flt (b : UInt64) | ref (a : Addr) | ty (n : String)
  deriving DecidableEq

def RelV : V → Value → Prop
  | .non, u => u = Value.none
  | .bl b, u => u = Value.bool b
  | .int i, u => ∃ t, u = Value.int i t
  | .str x, u => ∃ t, u = Value.str x t
  | .byt b, u => ∃ t, u = Value.bytes b t
  | .flt b, u => ∃ t, u = Value.float b t
  | .ref a, u => u = Value.ref a
  | .ty n, u => u = Value.type n

abbrev Vals : List V → List Value → Prop := Paired RelV
theorem Vals.length {xs : List V} {us : List Value} (r : Vals xs us) : xs.length = us.length := Paired.length r
theorem Vals.get : ∀ {xs : List V} {us : List Value} {i : Nat} {x : V}, Vals xs us → xs[i]? = some x → ∃ u, us[i]? = some u ∧ RelV x u
  | _, _, _, _, .nil, e => by simp at e
  | _, _, 0, _, .cons r _, e => by simp at e; subst e; exact ⟨_, rfl, r⟩
  | _, _, i + 1, x, .cons _ t, e => by
    obtain ⟨u, h1, h2⟩ := Vals.get (i := i) (x := x) t (by simpa using e)
    exact ⟨u, by simpa using h1, h2⟩
theorem Vals.set {x : V} {u : Value} (r : RelV x u) : ∀ {xs : List V} {us : List Value} (i : Nat), Vals xs us → Vals (xs.set i x) (us.set i u)
  | _, _, _, .nil => .nil
  | _, _, 0, .cons _ t => .cons r t
  | _, _, i + 1, .cons q t => .cons q (Vals.set r i t)
theorem Vals.append : ∀ {xs ys : List V} {us ws : List Value}, Vals xs us → Vals ys ws → Vals (xs ++ ys) (us ++ ws)
  | _, _, _, _, .nil, s => s
  | _, _, _, _, .cons r t, s => .cons r (Vals.append t s)
theorem Vals.take : ∀ {xs : List V} {us : List Value} (n : Nat), Vals xs us → Vals (xs.take n) (us.take n)
  | _, _, 0, _ => .nil
  | _, _, _ + 1, .nil => .nil
  | _, _, n + 1, .cons r t => .cons r (Vals.take n t)
theorem Vals.drop : ∀ {xs : List V} {us : List Value} (n : Nat), Vals xs us → Vals (xs.drop n) (us.drop n)
  | _, _, 0, r => r
  | _, _, _ + 1, .nil => .nil
  | _, _, n + 1, .cons _ t => Vals.drop n t
theorem Vals.none_of : ∀ {xs : List V} {us : List Value} {i : Nat}, Vals xs us → xs[i]? = none → us[i]? = none := fun {xs us i} r e => by
  have h1 := r.length
  have h2 : xs.length ≤ i := List.getElem?_eq_none_iff.mp e
  exact List.getElem?_eq_none_iff.mpr (by omega)

def RelO : Option V → Option Value → Prop
  | some v, some u => RelV v u
  | none, none => True
  | _, _ => False
def KV {κ : Type} : List (κ × V) → List (κ × Value) → Prop := Paired fun (p : κ × V) (q : κ × Value) => p.1 = q.1 ∧ RelV p.2 q.2


def kV : Key → V
  | .inl i => .int i
  | .inr x => .str x


inductive HO where
  
  | lst (xs : List V)
  
  | tup (xs : List V)
  
  | dK (kvs : List (Key × V)) | dT (kvs : List (List Key × V))
  
  | set (S : Int → Bool) (n : Nat)
  
  | ins (C dx : Addr) (fs : List (Str × V))
  
  | own (x : Addr)
  
  | xd (fs : List (Str × V))
  
  | met (f x : Addr)
  
  | rng (lo hi : Int)
  
  | frz (o : Obj) (u : HO)
  
  | tbl (ps : Array Value)
  
  | ext (φ : Heap → Prop)

abbrev Hp := Addr → Option HO
def upd (H : Hp) (a : Addr) (o : HO) : Hp := fun b => if b = a then some o else H b
theorem upd_same {H : Hp} {a : Addr} {o : HO} : upd H a o a = some o := by unfold upd; rw [if_pos rfl]
theorem upd_ne {H : Hp} {a b : Addr} {o : HO} (h : b ≠ a) : upd H a o b = H b := by unfold upd; rw [if_neg h]
theorem ne_of {H : Hp} {a b : Addr} {o u : HO} (h : H a = some o) (h' : H b = some u) (d : o ≠ u) : a ≠ b := by
  intro e; subst e; rw [h] at h'; exact d (Option.some.inj h')
theorem ne_of_none {H : Hp} {a b : Addr} {o : HO} (h : H a = some o) (h' : H b = none) : a ≠ b := by
  intro e; subst e; rw [h] at h'; cases h'


def IsTupN (h : Heap) (a : Addr) (items : Array Value) : Prop := ∃ o, h.get? a = some o ∧ o.cls = .type "tuple" ∧ o.dict = none ∧ ∃ n, o.data = .seq items n
theorem IsTupN.tup {h : Heap} {a : Addr} {items : Array Value} (x : IsTupN h a items) : IsTup h a items := let ⟨o, e, c, _, d⟩ := x; ⟨o, e, c, d⟩
theorem IsTupN.lt {h : Heap} {a : Addr} {items : Array Value} (x : IsTupN h a items) : a < h.objs.size := x.tup.lt
theorem IsTupN.keep {h h' : Heap} {a : Addr} {items : Array Value} (x : IsTupN h a items) (k : ∀ o, h.get? a = some o → h'.get? a = some o) : IsTupN h' a items := let ⟨o, e, r⟩ := x; ⟨o, k o e, r⟩
theorem IsTupN.new (h : Heap) (items : Array Value) : IsTupN (h.push { cls := .type "tuple", data := .seq items }) h.objs.size items := ⟨_, Heap.get?_push_size _ rfl, rfl, rfl, _, rfl⟩
section
variable (P : Program) (w : World)
def ObjOk (H : Hp) (h : Heap) (a : Addr) : HO → Prop
  | .lst xs => xs.length ≤ sizeLine ∧ ∃ (its : List Value) (n : Nat), Vals xs its ∧ h.get? a = some { cls := .type "list", data := .seq its.toArray n }
  | .tup xs => xs.length ≤ sizeLine ∧ ∃ its : List Value, Vals xs its ∧ IsTupN h a its.toArray
  | .dK kvs => kvs.length ≤ sizeLine ∧ (a == sysModules) = false ∧ ∃ vs, KV kvs vs ∧ h.DictOf (mixKind P w) a vs
  | .dT kvs => kvs.length ≤ sizeLine ∧ (a == sysModules) = false ∧ ∃ xs : List (List Key × Addr × Value),
      Paired (fun (p : List Key × V) (q : List Key × Addr × Value) => p.1 = q.1 ∧ H q.2.1 = some (.tup (p.1.map kV)) ∧ RelV p.2 q.2.2) kvs xs ∧
      ∃ o es ep, h.get? a = some o ∧ o.ExactDict ∧ o.data = .dict es ep ∧ es.toList = xs.map (entryOfKey (tupleKind (mixKind P w))) ∧ (xs.map (·.1)).Nodup
  | .set S n => h.SetOf (intKind P w) a S n
  | .ins C dx fs => H dx = some (.own a) ∧ fs.length ≤ 1000 ∧ dx ≠ a ∧ h.get? a = some (PySem.W.instObj C dx) ∧
      ∃ mA, h.Ns1 dx mA ∧ (∀ f, RelO (fs.lookup f) (mA f)) ∧ PySem.Within mA (fs.map (·.1))
  | .own _ => ∃ o, h.get? a = some o
  | .xd fs => ∃ mA, h.Ns1 a mA ∧ ∀ f, RelO (fs.lookup f) (mA f)
  | .rng lo hi => ∃ t u v, h.get? a = some { cls := .type "range", data := .fields #[.int lo t, .int hi u, .int 1 v] }
  | .frz o u => h.get? a = some o ∧ ObjOk H h a u
  | .tbl ps => h.get? a = some { cls := .none, data := .fields ps }
  | .met f x => h.get? a = some (PySem.W.methodObj (.ref f) (.ref x))
  | .ext φ => φ h ∧ (∃ o, h.get? a = some o) ∧ ∀ h1 h2 : Heap, φ h1 → (∀ o, h1.get? a = some o → h2.get? a = some o) → φ h2

def HOk (H : Hp) (h : Heap) : Prop := ∀ a o, H a = some o → ObjOk P w H h a o
end

section
variable {P : Program} {w : World} {H H' : Hp} {h h' : Heap} {a : Addr} {o : HO}
theorem ObjOk.lt (x : ObjOk P w H h a o) : a < h.objs.size := by
  cases o with
  | lst xs => obtain ⟨_, _, _, _, e⟩ := x; exact Heap.lt_size e
  | tup xs => obtain ⟨_, _, _, p⟩ := x; exact p.lt
  | dK kvs => obtain ⟨_, _, _, _, o, _, _, e, _⟩ := x; exact Heap.lt_size e
  | dT kvs => obtain ⟨_, _, _, _, o, _, _, e, _⟩ := x; exact Heap.lt_size e
  | set S n => obtain ⟨o, _, _, _, e, _⟩ := x; exact Heap.lt_size e
  | ins C dx fs => obtain ⟨_, _, _, e, _⟩ := x; exact Heap.lt_size e
  | own y => obtain ⟨_, e⟩ := x; exact Heap.lt_size e
  | xd fs => obtain ⟨_, ⟨_, _, _, e, _⟩, _⟩ := x; exact Heap.lt_size e
  | rng lo hi => obtain ⟨_, _, _, e⟩ := x; exact Heap.lt_size e
  | frz ob u => obtain ⟨e, _⟩ := x; exact Heap.lt_size e
  | tbl ps => exact Heap.lt_size (show h.get? a = some _ from x)
  | met f y => exact Heap.lt_size (show h.get? a = some _ from x)
  | ext φ => obtain ⟨_, ⟨_, e⟩, _⟩ := x; exact Heap.lt_size e
theorem Paired.mapP {α β : Type} {F G : α → β → Prop} : ∀ {l₁ : List α} {l₂ : List β}, Paired F l₁ l₂ → (∀ a b, F a b → G a b) → Paired G l₁ l₂
  | _, _, .nil, _ => .nil
  | _, _, .cons r t, f => .cons (f _ _ r) (Paired.mapP t f)
theorem ObjOk.stay (x : ObjOk P w H h a o) (k : ∀ b u, (b = a ∨ H b = some (.own a)) → h.get? b = some u → h'.get? b = some u)
    (ho : ∀ b, H b = some (.own a) → H' b = some (.own a)) (ht : ∀ b xs, H b = some (.tup xs) → H' b = some (.tup xs)) : ObjOk P w H' h' a o := by
  induction o with
  | lst xs => obtain ⟨z, its, n, r, e⟩ := x; exact ⟨z, its, n, r, k _ _ (.inl rfl) e⟩
  | tup xs => obtain ⟨z, its, r, ob, e, c⟩ := x; exact ⟨z, its, r, ob, k _ _ (.inl rfl) e, c⟩
  | dK kvs => obtain ⟨z, y, vs, r, ob, es, ep, e, c⟩ := x; exact ⟨z, y, vs, r, ob, es, ep, k _ _ (.inl rfl) e, c⟩
  | dT kvs =>
    obtain ⟨z, y, xs, r, ob, es, ep, e, c⟩ := x
    exact ⟨z, y, xs, Paired.mapP r fun p q z => ⟨z.1, ht _ _ z.2.1, z.2.2⟩, ob, es, ep, k _ _ (.inl rfl) e, c⟩
  | set S n => obtain ⟨ob, es, ep, t, e, c⟩ := x; exact ⟨ob, es, ep, t, k _ _ (.inl rfl) e, c⟩
  | ins C dx fs =>
    obtain ⟨d, z, ne, e, mA, ⟨od, es, ep, e2, c⟩, r⟩ := x
    exact ⟨ho _ d, z, ne, k _ _ (.inl rfl) e, mA, ⟨od, es, ep, k _ _ (.inr d) e2, c⟩, r⟩
  | own y => obtain ⟨ob, e⟩ := x; exact ⟨ob, k _ _ (.inl rfl) e⟩
  | xd fs => obtain ⟨mA, ⟨od, es, ep, e, c⟩, r⟩ := x; exact ⟨mA, ⟨od, es, ep, k _ _ (.inl rfl) e, c⟩, r⟩
  | rng lo hi => obtain ⟨t, u, v, e⟩ := x; exact ⟨t, u, v, k _ _ (.inl rfl) e⟩
  | frz ob u ih => obtain ⟨e, q⟩ := x; exact ⟨k _ _ (.inl rfl) e, ih q⟩
  | tbl ps =>
    have e : h.get? a = some { cls := .none, data := .fields ps } := x
    show h'.get? a = some { cls := .none, data := .fields ps }
    exact k a _ (.inl rfl) e
  | met f y =>
    have e : h.get? a = some (PySem.W.methodObj (.ref f) (.ref y)) := x
    show h'.get? a = some (PySem.W.methodObj (.ref f) (.ref y))
    exact k a _ (.inl rfl) e
  | ext φ => obtain ⟨p, ⟨o, e⟩, st⟩ := x; exact ⟨st _ _ p fun o q => k _ _ (.inl rfl) q, ⟨o, k _ _ (.inl rfl) e⟩, st⟩
theorem HOk.lt (x : HOk P w H h) (e : H a = some o) : a < h.objs.size := (x a o e).lt
theorem HOk.fresh (x : HOk P w H h) (e : h.objs.size ≤ a) : H a = none := by
  cases q : H a with
  | none => rfl
  | some u => exact absurd (Nat.lt_of_lt_of_le (x.lt q) e) (Nat.lt_irrefl _)

theorem HOk.kept (x : HOk P w H h) (k : ∀ b u, h.get? b = some u → h'.get? b = some u) : HOk P w H h' := fun a o e =>
  (x a o e).stay (fun b u _ q => k b u q) (fun _ q => q) fun _ _ q => q

theorem HOk.laid (x : HOk P w H h) (k : ∀ b u, h.get? b = some u → h'.get? b = some u) (hp : h.objs.size ≤ a) (new : ObjOk P w (upd H a o) h' a o) : HOk P w (upd H a o) h' := fun b u e => by
  have hn := x.fresh hp
  by_cases hb : b = a
  · subst hb; rw [upd_same] at e; cases e; exact new
  · rw [upd_ne hb] at e
    exact (x b u e).stay (fun c v _ q => k c v q) (fun c q => by rw [upd_ne (ne_of_none q hn)]; exact q) fun c xs q => by rw [upd_ne (ne_of_none q hn)]; exact q
end


def Rd (H : Hp) (a : Addr) (u : HO) : Prop := H a = some u ∨ ∃ o, H a = some (.frz o u)
theorem Rd.of {H : Hp} {a : Addr} {u : HO} (h : H a = some u) : Rd H a u := .inl h
theorem Rd.ok {P : Program} {w : World} {H : Hp} {h : Heap} {a : Addr} {u : HO} (r : Rd H a u) (x : HOk P w H h) : ObjOk P w H h a u := by
  rcases r with r | ⟨o, r⟩
  · exact x a u r
  · obtain ⟨_, q⟩ := x a _ r
    exact q

def Mut : Option HO → Prop
  | some (.lst _) => True
  | some (.dK _) => True
  | some (.dT _) => True
  | some (.set _ _) => True
  | some (.ins _ _ _) => True
  | some (.ext _) => True
  | _ => False
section
variable {P : Program} {w : World} {H : Hp} {h h' : Heap} {x e : Addr} {o' : HO}

theorem HOk.write (ok : HOk P w H h) (mu : Mut (H x)) (he : e = x ∨ H e = some (.own x)) (k : ∀ b u, b ≠ e → h.get? b = some u → h'.get? b = some u) (heo : ∃ u, h'.get? e = some u)
    (new : ObjOk P w (upd H x o') h' x o') : HOk P w (upd H x o') h' := fun b u q => by
  have nown : ∀ c y, H c = some (.own y) → c ≠ x := fun c y r z => by subst z; rw [r] at mu; exact mu
  have ntup : ∀ c xs, H c = some (.tup xs) → c ≠ x := fun c xs r z => by subst z; rw [r] at mu; exact mu
  by_cases hb : b = x
  · subst hb; rw [upd_same] at q; cases q; exact new
  · rw [upd_ne hb] at q
    by_cases hbe : b = e
    · have q' : H b = some (.own x) := by
        rcases he with z | z
        · exact absurd (hbe.trans z) hb
        · rw [hbe]; exact z
      rw [q] at q'; cases q'
      obtain ⟨v, hv⟩ := heo
      exact ⟨v, by rw [hbe]; exact hv⟩
    · refine (ok b u q).stay (fun c v hc r => k c v ?_ r) (fun c r => by rw [upd_ne (nown c b r)]; exact r) fun c xs r => by rw [upd_ne (ntup c xs r)]; exact r
      rcases hc with rfl | hc
      · exact hbe
      · rintro rfl
        rcases he with z | z
        · exact nown c b hc z
        · rw [hc] at z; cases z; exact hb rfl
end


structure Un (fs ex : List Addr) (H H' : Hp) (h h' : Heap) : Prop where
  keep : ∀ b o, h.get? b = some o → H b = none → b ∉ fs → b ∉ ex → h'.get? b = some o
  slot : ∀ b o, h.get? b = some o → H b = none → b ∈ fs → b ∉ ex → ∃ sl, h'.get? b = some { o with slots := sl }
  free : ∀ b o, h.get? b = some o → H b = none → b ∉ ex → H' b = none
  there : ∀ b o, h.get? b = some o → b ∉ ex → ∃ o', h'.get? b = some o'
  tups : ∀ b xs, H b = some (.tup xs) → H' b = some (.tup xs)
  frzs : ∀ b o u, H b = some (.frz o u) → H' b = some (.frz o u)
  tbls : ∀ b ps, H b = some (.tbl ps) → ∃ more, H' b = some (.tbl (ps ++ more))
section
variable {fs fs' ex ex' : List Addr} {H H1 H2 : Hp} {h h1 h2 h' : Heap} {a x e : Addr} {o : HO}
theorem Un.any (u : Un fs ex H H1 h h1) {b : Addr} {ob : Obj} (q : h.get? b = some ob) (n : H b = none) (hx : b ∉ ex) : ∃ sl, h1.get? b = some { ob with slots := sl } := by
  by_cases hb : b ∈ fs
  · exact u.slot b ob q n hb hx
  · exact ⟨ob.slots, u.keep b ob q n hb hx⟩
theorem Un.trans (a : Un fs ex H H1 h h1) (b : Un fs ex H1 H2 h1 h2) : Un fs ex H H2 h h2 where
  keep := fun c ob q n hc hx => b.keep c ob (a.keep c ob q n hc hx) (a.free c ob q n hx) hc hx
  slot := fun c ob q n hc hx => by
    obtain ⟨sl, e1⟩ := a.slot c ob q n hc hx
    obtain ⟨sl', e2⟩ := b.slot c _ e1 (a.free c ob q n hx) hc hx
    exact ⟨sl', e2⟩
  free := fun c ob q n hx => by
    obtain ⟨o', e1⟩ := a.there c ob q hx
    exact b.free c o' e1 (a.free c ob q n hx) hx
  there := fun c ob q hx => by
    obtain ⟨o', e1⟩ := a.there c ob q hx
    exact b.there c o' e1 hx
  tups := fun c xs q => b.tups c xs (a.tups c xs q)
  frzs := fun c ob xs q => b.frzs c ob xs (a.frzs c ob xs q)
  tbls := fun c ps q => by
    obtain ⟨m1, e1⟩ := a.tbls c ps q
    obtain ⟨m2, e2⟩ := b.tbls c _ e1
    exact ⟨m1 ++ m2, by rw [e2, Array.append_assoc]⟩
theorem Un.kept (k : ∀ b u, h.get? b = some u → h'.get? b = some u) : Un fs ex H H h h' :=
  ⟨fun b ob q _ _ _ => k b ob q, fun b ob q _ _ _ => ⟨ob.slots, k b ob q⟩, fun _ _ _ n _ => n, fun b ob q _ => ⟨ob, k b ob q⟩, fun _ _ q => q, fun _ _ _ q => q, fun _ ps q => ⟨#[], by rw [q]; simp⟩⟩
theorem Un.refl : Un fs ex H H h h := Un.kept fun _ _ q => q
theorem Un.laid (k : ∀ b u, h.get? b = some u → h'.get? b = some u) (hp : h.objs.size ≤ a) (hn : H a = none) : Un fs ex H (upd H a o) h h' where
  keep := fun b u q _ _ _ => k b u q
  slot := fun b u q _ _ _ => ⟨u.slots, k b u q⟩
  free := fun b u q n _ => by rw [upd_ne (Nat.ne_of_lt (Nat.lt_of_lt_of_le (Heap.lt_size q) hp))]; exact n
  there := fun b u q _ => ⟨u, k b u q⟩
  tups := fun b xs q => by rw [upd_ne (ne_of_none q hn)]; exact q
  frzs := fun b u xs q => by rw [upd_ne (ne_of_none q hn)]; exact q
  tbls := fun b ps q => ⟨#[], by rw [upd_ne (ne_of_none q hn), q]; simp⟩
theorem Un.write (mu : Mut (H x)) (he : e = x ∨ H e = some (.own x)) (k : ∀ b u, b ≠ e → h.get? b = some u → h'.get? b = some u) (heo : ∃ u, h'.get? e = some u) : Un fs ex H (upd H x o) h h' := by
  have hx : ∀ b, H b = none → b ≠ x := fun b n z => by subst z; rw [n] at mu; exact mu
  have hb : ∀ b, H b = none → b ≠ e := fun b n z => by
    subst z
    rcases he with r | r
    · exact hx b n r
    · rw [n] at r; cases r
  have hm : ∀ b u, H b = some u → ¬ Mut (some u) → b ≠ x := fun b u q nm z => by subst z; rw [q] at mu; exact nm mu
  refine ⟨fun b u q n _ _ => k b u (hb b n) q, fun b u q n _ _ => ⟨u.slots, k b u (hb b n) q⟩, fun b u q n _ => by rw [upd_ne (hx b n)]; exact n, fun b u q _ => ?_,
    fun b xs q => by rw [upd_ne (hm b _ q fun z => z)]; exact q, fun b u xs q => by rw [upd_ne (hm b _ q fun z => z)]; exact q, fun b ps q => ⟨#[], by rw [upd_ne (hm b _ q fun z => z), q]; simp⟩⟩
  by_cases hbe : b = e
  · subst hbe; exact heo
  · exact ⟨u, k b u hbe q⟩
theorem Un.mono (u : Un fs ex H H1 h h1) (hs : ∀ b ∈ fs, b ∈ fs') (hx : ∀ b ∈ ex, b ∈ ex') : Un fs' ex' H H1 h h1 :=
  ⟨fun b ob q n hb he => u.keep b ob q n (fun z => hb (hs b z)) fun z => he (hx b z), fun _ _ q n _ he => u.any q n fun z => he (hx _ z), fun b ob q n he => u.free b ob q n fun z => he (hx b z), fun b ob q he => u.there b ob q fun z => he (hx b z), u.tups, u.frzs, u.tbls⟩
end


def trk (h : Heap) (H : Hp) : List Addr := (List.range h.objs.size).filter fun a => (H a).isSome
def hidT (h : Heap) (H : Hp) : Heap := PySem.W.hideAll h (trk h H)
theorem hidT_size (h : Heap) (H : Hp) : (hidT h H).objs.size = h.objs.size := PySem.W.hideAll_size _ _
theorem hidT_get {h : Heap} {H : Hp} {b : Addr} {o : Obj} (e : h.get? b = some o) (n : H b = none) : (hidT h H).get? b = some o :=
  PySem.W.hideAll_get _ e fun hm => by
    have q : (H b).isSome = true := (List.mem_filter.mp hm).2
    rw [n] at q; simp at q
theorem of_hidT {h : Heap} {H : Hp} {b : Addr} {o : Obj} (e : (hidT h H).get? b = some o) : h.get? b = some o ∧ H b = none := by
  have e' : h.get? b = some o := PySem.W.of_hideAll (trk h H) e
  refine ⟨e', ?_⟩
  cases q : H b with
  | none => rfl
  | some x =>
    have hm : b ∈ trk h H := List.mem_filter.mpr ⟨List.mem_range.mpr (Heap.lt_size e'), by simp [q]⟩
    have z : (hidT h H).get? b = none := PySem.W.hideAll_none (trk h H) hm
    rw [z] at e; cases e


def allNews (g h : Heap) (L : Addr) : List (Addr × Obj) := (List.range h.objs.size).filterMap fun a => if a = L ∨ (g.get? a).isSome = true then none else (h.get? a).map fun o => (a, o)
def rest (g h : Heap) (L d : Addr) : List (Addr × Obj) := (allNews g h L).filter fun p => decide (p.1 ≠ d)
end L2

namespace L2
open PySem PySem.Spec PyProof.Rows


structure Mod (K : PySem.W.Frag) (mg : Str → Option Value) (base : Heap) : Prop where
  kin : K.In base
  glob : base.Ns mainGlobals mg
  blt : ∃ mb, base.Ns builtinsNs mb ∧ ∀ x : Str, x ≠ "__name__" → mb x = bootBuiltins x
  nolimit : base.NoLimit


structure Cx where
  prog : Program
  w : World
  K : PySem.W.Frag
  mg : Str → Option Value
  base : Heap
  A : Around
  N : List Str
  s₀ : Shared
  H₀ : Hp
  env : Env
  outer : List Env
  stack : List Env
  ex : List Addr
  fn : Str → Bool
  calm : Bool
  pn : List (Addr × Obj)
  xe : Value → Shared → Prop

def frs (l : List Env) : List Addr := l.filterMap (·.frame)
abbrev Cx.fs (X : Cx) : List Addr := frs X.outer

def Vis (sc : Scope) (x : Str) : Prop := sc.names.lookup x = some .local ∨ sc.names.lookup x = some .cell ∨ sc.names.lookup x = some .free
def Loc (sc : Scope) (x : Str) : Prop := sc.names.lookup x = some .local ∨ sc.names.lookup x = some .cell
def Look (env : Env) (h : Heap) (m : Str → Option Value) (x : Str) (u : Value) : Prop :=
  (env.kindOf x = some .local ∧ m x = some u) ∨ ((env.kindOf x = some .cell ∨ env.kindOf x = some .free) ∧ ∃ c, env.cells.lookup x = some c ∧ h.IsCell c (some u))

structure Cx.Ok (X : Cx) : Prop where
  mod : Mod X.K X.mg X.base
  kind : X.env.scope.kind = .function
  glob : X.env.globals = mainGlobals
  blt : X.env.builtins = builtinsNs
  above : X.s₀.heap.objs.size ≤ X.env.locals
  inj : ∀ x y c, X.env.cells.lookup x = some c → X.env.cells.lookup y = some c → x = y
  has : ∀ x, (X.env.kindOf x = some .cell ∨ X.env.kindOf x = some .free) → ∃ c, X.env.cells.lookup x = some c
  cab : ∀ x c, X.fn x = true → X.env.cells.lookup x = some c → X.s₀.heap.objs.size ≤ c
  hd : X.calm = true → X.A.handled = none
  frames : X.A.frames = some X.stack
  stk : X.stack = X.outer ∨ (X.stack = X.env :: X.outer ∧ X.env.frame = some X.env.locals)
  exf : ∀ b ∈ X.ex, b ≠ X.env.locals ∧ ∀ x c, X.env.cells.lookup x = some c → c ≠ b
  bs : ∀ b o, X.base.get? b = some o → X.s₀.heap.get? b = some o ∧ X.H₀ b = none
  bsz : X.base.objs.size ≤ X.s₀.heap.objs.size
  noex : ∀ b o, X.base.get? b = some o → b ∉ X.ex
  exfs : ∀ b ∈ X.ex, b ∉ X.fs
  funs : X.s₀.heap.FunFrames X.base X.outer
  frf : ∀ b ∈ X.fs, X.H₀ b = none

structure Inv (X : Cx) (pins : List (Addr × Obj)) (σ : List (Option V)) (H : Hp) (s : Shared) : Prop where
  ok : X.Ok
  os : s.os = X.s₀.os
  bare : AllBare s.gens
  base : Un X.fs X.ex X.H₀ H X.s₀.heap s.heap
  loc : ∃ m, s.heap.Ns X.env.locals m ∧ ∀ (i : Nat) (x : Str) (v : V), X.N[i]? = some x → σ[i]? = some (some v) → Vis X.env.scope x → ∃ u, RelV v u ∧ Look X.env s.heap m x u
  cell : ∀ x c, X.env.cells.lookup x = some c → ∃ v, s.heap.IsCell c v
  free : H X.env.locals = none
  freeC : ∀ x c, X.env.cells.lookup x = some c → H c = none
  pin : ∀ p ∈ X.pn ++ pins, s.heap.get? p.1 = some p.2 ∧ H p.1 = none ∧ p.1 ≠ X.env.locals ∧ p.1 ∉ X.fs ∧ ∀ v, p.2.data ≠ .cell v
  hok : HOk X.prog X.w H s.heap
  len : σ.length = X.N.length

section
variable {X : Cx} {pins : List (Addr × Obj)} {σ : List (Option V)} {H H' : Hp} {s : Shared} {h' : Heap}

theorem Cx.Ok.nofr (ok : X.Ok) {b : Addr} {o : Obj} (e : X.base.get? b = some o) : b ∉ X.fs := fun hb => by
  have := (ok.funs.mem hb).1
  rw [e] at this; cases this
theorem Inv.bs (I : Inv X pins σ H s) : ∀ b o, X.base.get? b = some o → s.heap.get? b = some o ∧ H b = none := fun b o e =>
  ⟨I.base.keep b o (I.ok.bs b o e).1 (I.ok.bs b o e).2 (I.ok.nofr e) (I.ok.noex b o e), I.base.free b o (I.ok.bs b o e).1 (I.ok.bs b o e).2 (I.ok.noex b o e)⟩
theorem Inv.bk (I : Inv X pins σ H s) : ∀ b o, X.base.get? b = some o → s.heap.get? b = some o := fun b o e => (I.bs b o e).1
theorem Inv.mod (I : Inv X pins σ H s) : Mod X.K X.mg X.base := I.ok.mod
theorem Inv.kIn (I : Inv X pins σ H s) : X.K.In s.heap := I.ok.mod.kin.keeps I.bk
theorem Inv.nolimit (I : Inv X pins σ H s) : s.heap.NoLimit := I.ok.mod.nolimit.keeps I.bk

theorem Inv.fr (I : Inv X pins σ H s) : ∃ m, Fr X.base X.env.locals s.heap m :=
  let ⟨m, hn, _⟩ := I.loc
  ⟨m, hn, I.bk, Nat.le_trans I.ok.bsz I.ok.above⟩
theorem Inv.lt (I : Inv X pins σ H s) : X.env.locals < s.heap.objs.size := let ⟨_, hn, _⟩ := I.loc; hn.lt
theorem Inv.sz (I : Inv X pins σ H s) : X.s₀.heap.objs.size ≤ s.heap.objs.size := Nat.le_trans I.ok.above (Nat.le_of_lt I.lt)
theorem Inv.nofs (I : Inv X pins σ H s) {a : Addr} (h : s.heap.objs.size ≤ a) : a ∉ X.fs := fun hb => by
  obtain ⟨_, o, ho, _⟩ := I.ok.funs.mem hb
  exact absurd (Nat.lt_of_lt_of_le (Heap.lt_size ho) (Nat.le_trans I.sz h)) (Nat.lt_irrefl _)
theorem Inv.cne (I : Inv X pins σ H s) : ∀ x c, X.env.cells.lookup x = some c → c ≠ X.env.locals := fun x c e z => by
  obtain ⟨v, o, ho, hd⟩ := I.cell x c e
  obtain ⟨m, ⟨o', es, ep, ho', hd', _⟩, _⟩ := I.loc
  rw [z, ho'] at ho; cases ho; rw [hd'] at hd; cases hd
theorem Inv.funs (I : Inv X pins σ H s) : s.heap.FunFrames X.base X.outer := by
  have all : ∀ (l : List Env), (∀ b ∈ frs l, b ∈ X.fs) → X.s₀.heap.FunFrames X.base l → s.heap.FunFrames X.base l := by
    intro l
    induction l with
    | nil => intro _ _; trivial
    | cons env r ih =>
      intro hs hl
      obtain ⟨hk, ⟨L, o, hf, hn, ho, hd⟩, hr⟩ := hl
      have hL : L ∈ X.fs := hs L (by unfold frs; rw [List.filterMap_cons, hf]; exact List.mem_cons_self)
      obtain ⟨sl, e⟩ := I.base.slot L o ho (I.ok.frf L hL) hL fun z => I.ok.exfs L z hL
      exact ⟨hk, ⟨L, _, hf, hn, e, hd⟩, ih (fun b hb => hs b (by unfold frs; rw [List.filterMap_cons, hf]; exact List.mem_cons_of_mem _ hb)) hr⟩
  exact all X.outer (fun _ hb => hb) I.ok.funs


theorem Inv.stack (I : Inv X pins σ H s) : s.heap.FunFrames X.base X.stack := by
  rcases I.ok.stk with e | ⟨e, hf⟩
  · rw [e]; exact I.funs
  · rw [e]
    obtain ⟨m, hn, _⟩ := I.loc
    refine .cons (by rw [I.ok.kind]; decide) hf hn ?_ I.funs
    exact Heap.get?_none_of_le (Nat.le_trans I.ok.bsz I.ok.above)
theorem Inv.stkSub (I : Inv X pins σ H s) : ∀ b ∈ frs X.stack, b ∈ X.env.locals :: X.fs := fun b hb => by
  rcases I.ok.stk with e | ⟨e, hf⟩
  · rw [e] at hb; exact List.mem_cons_of_mem _ hb
  · rw [e] at hb
    unfold frs at hb
    rw [List.filterMap_cons, hf] at hb
    exact hb
theorem Inv.stkFree (I : Inv X pins σ H s) : ∀ b ∈ frs X.stack, H b = none := fun b hb => by
  rcases List.mem_cons.mp (I.stkSub b hb) with e | hb
  · rw [e]; exact I.free
  · obtain ⟨_, o, ho, _⟩ := I.ok.funs.mem hb
    exact I.base.free b o ho (I.ok.frf b hb) fun z => I.ok.exfs b z hb


theorem Inv.step {g' : Array GenState} {t' : Nat} {d' : Drawn} {ch : List Addr} (I : Inv X pins σ H s)
    (hch : ∀ b ∈ ch, (b ∈ X.ex ∨ X.s₀.heap.objs.size ≤ b) ∧ b ≠ X.env.locals ∧ (∀ x c, X.env.cells.lookup x = some c → c ≠ b) ∧ ∀ p ∈ X.pn ++ pins, p.1 ≠ b)
    (keep : ∀ b o, b ≠ X.env.locals → b ∉ X.fs → b ∉ ch → s.heap.get? b = some o → H b = none → h'.get? b = some o)
    (slot : ∀ b o, b ≠ X.env.locals → b ∈ X.fs → b ∉ ch → s.heap.get? b = some o → H b = none → ∃ sl, h'.get? b = some { o with slots := sl }) (free : ∀ b o, b ∉ ch → s.heap.get? b = some o → H b = none → H' b = none)
    (there : ∀ b o, b ∉ ch → s.heap.get? b = some o → ∃ o', h'.get? b = some o')
    (tups : ∀ b xs, H b = some (.tup xs) → H' b = some (.tup xs)) (frzs : ∀ b o u, H b = some (.frz o u) → H' b = some (.frz o u)) (tbls : ∀ b ps, H b = some (.tbl ps) → ∃ more, H' b = some (.tbl (ps ++ more)))
    (ns : ∀ m, s.heap.Ns X.env.locals m → h'.Ns X.env.locals m) (hok : HOk X.prog X.w H' h') (hg : AllBare g') :
    Inv X pins σ H' { s with heap := h', gens := g', drawn := d', toks := t' } := by
  have neL : ∀ b o, X.s₀.heap.get? b = some o → b ≠ X.env.locals := fun b o e => Nat.ne_of_lt (Nat.lt_of_lt_of_le (Heap.lt_size e) I.ok.above)
  have neC : ∀ b o, X.s₀.heap.get? b = some o → b ∉ X.ex → b ∉ ch := fun b o e hx hb => by
    rcases (hch b hb).1 with z | z
    · exact hx z
    · exact absurd (Nat.lt_of_lt_of_le (Heap.lt_size e) z) (Nat.lt_irrefl _)
  have cellK : ∀ x c, X.env.cells.lookup x = some c → ∀ v, s.heap.IsCell c v → h'.IsCell c v := fun x c e v ⟨o, ho, hd⟩ => by
    have nch : c ∉ ch := fun z => (hch c z).2.2.1 x c e rfl
    by_cases hc : c ∈ X.fs
    · obtain ⟨sl, q⟩ := slot c o (I.cne x c e) hc nch ho (I.freeC x c e)
      exact ⟨_, q, hd⟩
    · exact ⟨o, keep c o (I.cne x c e) hc nch ho (I.freeC x c e), hd⟩
  refine ⟨I.ok, I.os, hg, ⟨fun b o e n hb hx => ?_, fun b o e n hb hx => ?_, fun b o e n hx => ?_, fun b o e hx => ?_, fun b xs e => tups b xs (I.base.tups b xs e), fun b o xs e => frzs b o xs (I.base.frzs b o xs e), fun b ps e => ?_⟩, ?_, fun x c e => ?_, ?_, fun x c e => ?_, fun p hp => ?_, hok, I.len⟩
  · exact keep b o (neL b o e) hb (neC b o e hx) (I.base.keep b o e n hb hx) (I.base.free b o e n hx)
  · obtain ⟨sl, e1⟩ := I.base.slot b o e n hb hx
    obtain ⟨sl', e2⟩ := slot b _ (neL b o e) hb (neC b o e hx) e1 (I.base.free b o e n hx)
    exact ⟨sl', e2⟩
  · obtain ⟨o', e1⟩ := I.base.there b o e hx
    exact free b o' (neC b o e hx) e1 (I.base.free b o e n hx)
  · obtain ⟨o', e1⟩ := I.base.there b o e hx
    exact there b o' (neC b o e hx) e1
  · obtain ⟨m1, e1⟩ := I.base.tbls b ps e
    obtain ⟨m2, e2⟩ := tbls b _ e1
    exact ⟨m1 ++ m2, by rw [e2, Array.append_assoc]⟩
  · obtain ⟨m, hn, hl⟩ := I.loc
    refine ⟨m, ns m hn, fun i x v e1 e2 e3 => ?_⟩
    obtain ⟨u, r, l⟩ := hl i x v e1 e2 e3
    refine ⟨u, r, ?_⟩
    rcases l with l | ⟨k, c, e, z⟩
    · exact .inl l
    · exact .inr ⟨k, c, e, cellK x c e _ z⟩
  · obtain ⟨v, z⟩ := I.cell x c e
    exact ⟨v, cellK x c e v z⟩
  · obtain ⟨m, ⟨o, _, _, ho, _⟩, _⟩ := I.loc
    exact free _ o (fun z => (hch _ z).2.1 rfl) ho I.free
  · obtain ⟨v, o, ho, hd⟩ := I.cell x c e
    exact free c o (fun z => (hch c z).2.2.1 x c e rfl) ho (I.freeC x c e)
  · obtain ⟨e, n, ne, nf, d⟩ := I.pin p hp
    have nch : p.1 ∉ ch := fun z => (hch p.1 z).2.2.2 p hp rfl
    exact ⟨keep p.1 p.2 ne nf nch e n, free p.1 p.2 nch e n, ne, nf, d⟩

theorem Inv.un {t' : Nat} (I : Inv X pins σ H s) (u : Un X.fs [] H H' s.heap h') (hok : HOk X.prog X.w H' h') : Inv X pins σ H' { s with heap := h', toks := t' } := by
  obtain ⟨m, ⟨o, es, ep, ho, r⟩, _⟩ := id I.loc
  obtain ⟨sl, hL⟩ := u.any ho I.free (by simp)
  exact I.step (g' := s.gens) (d' := s.drawn) (ch := []) (fun _ z => nomatch z) (fun b o _ hb _ e n => u.keep b o e n hb (by simp)) (fun b o _ hb _ e n => u.slot b o e n hb (by simp)) (fun b o _ e n => u.free b o e n (by simp)) (fun b o _ e => u.there b o e (by simp)) u.tups u.frzs u.tbls (fun m' hm => by
    obtain ⟨o', es', ep', ho', r'⟩ := hm
    rw [ho] at ho'; cases ho'
    exact ⟨_, es', ep', hL, r'⟩) hok I.bare

theorem Inv.call {g' : Array GenState} {t' : Nat} {d' : Drawn} {ch : List Addr} (I : Inv X pins σ H s) (u : Un (frs X.stack) ch H H' s.heap h') (hok : HOk X.prog X.w H' h') (hg : AllBare g')
    (hch : ∀ b ∈ ch, (b ∈ X.ex ∨ X.s₀.heap.objs.size ≤ b) ∧ b ≠ X.env.locals ∧ (∀ x c, X.env.cells.lookup x = some c → c ≠ b) ∧ ∀ p ∈ X.pn ++ pins, p.1 ≠ b) :
    Inv X pins σ H' { s with heap := h', gens := g', drawn := d', toks := t' } := by
  obtain ⟨m, ⟨o, es, ep, ho, r⟩, _⟩ := id I.loc
  obtain ⟨sl, hL⟩ := u.any ho I.free fun z => (hch _ z).2.1 rfl
  exact I.step (ch := ch) hch (fun b o hL hb hc e n => u.keep b o e n (fun z => (List.mem_cons.mp (I.stkSub b z)).elim hL hb) hc) (fun b o _ _ hc e n => u.any e n hc) (fun b o hc e n => u.free b o e n hc) (fun b o hc e => u.there b o e hc) u.tups u.frzs u.tbls (fun m' hm => by
    obtain ⟨o', es', ep', ho', r'⟩ := hm
    rw [ho] at ho'; cases ho'
    exact ⟨_, es', ep', hL, r'⟩) hok hg

theorem Inv.turned {t' : Nat} {it : Addr} (I : Inv X pins σ H s) (k : ∀ b o, b ≠ it → s.heap.get? b = some o → h'.get? b = some o) (hn : H it = none) (hL : it ≠ X.env.locals)
    (h1 : it ∈ X.ex ∨ X.s₀.heap.objs.size ≤ it) (h2 : ∀ x c, X.env.cells.lookup x = some c → c ≠ it) (h3 : ∀ p ∈ X.pn ++ pins, p.1 ≠ it) : Inv X pins σ H { s with heap := h', toks := t' } := by
  have nit : ∀ b u, H b = some u → b ≠ it := fun b u e z => by rw [z, hn] at e; cases e
  refine I.step (g' := s.gens) (d' := s.drawn) (ch := [it]) (fun b hb => ?_) (fun b o _ _ hc e _ => k b o (fun z => hc (by simp [z])) e) (fun b o _ _ hc e _ => ⟨o.slots, k b o (fun z => hc (by simp [z])) e⟩) (fun _ _ _ _ n => n)
    (fun b o hc e => ⟨o, k b o (fun z => hc (by simp [z])) e⟩) (fun _ _ e => e) (fun _ _ _ e => e) (fun b ps e => ⟨#[], by rw [e]; simp⟩) (fun m hm => ?_) (fun b u e => ?_) I.bare
  · have e : b = it := by simpa using hb
    subst e
    exact ⟨h1, hL, h2, h3⟩
  · obtain ⟨o, es, ep, ho, r⟩ := hm
    exact ⟨o, es, ep, k _ o (Ne.symm hL) ho, r⟩
  · refine (I.hok b u e).stay (fun c v hc q => k c v ?_ q) (fun _ q => q) fun _ _ q => q
    rcases hc with z | z
    · rw [z]; exact nit b u e
    · exact nit c _ z
theorem Inv.tok (I : Inv X pins σ H s) (t : Nat) : Inv X pins σ H { s with toks := t } := I.un (h' := s.heap) (t' := t) Un.refl I.hok

theorem Inv.kept {t' : Nat} (I : Inv X pins σ H s) (k : ∀ b u, s.heap.get? b = some u → h'.get? b = some u) : Inv X pins σ H { s with heap := h', toks := t' } := I.un (Un.kept k) (I.hok.kept k)

theorem Inv.laid {a : Addr} {o : HO} {t' : Nat} (I : Inv X pins σ H s) (k : ∀ b u, s.heap.get? b = some u → h'.get? b = some u) (hp : s.heap.objs.size ≤ a) (new : ObjOk X.prog X.w (upd H a o) h' a o) :
    Inv X pins σ (upd H a o) { s with heap := h', toks := t' } := I.un (Un.laid k hp (I.hok.fresh hp)) (I.hok.laid k hp new)

theorem Inv.write {x e : Addr} {o : HO} {t' : Nat} (I : Inv X pins σ H s) (mu : Mut (H x)) (he : e = x ∨ H e = some (.own x)) (k : ∀ b u, b ≠ e → s.heap.get? b = some u → h'.get? b = some u) (heo : ∃ u, h'.get? e = some u)
    (new : ObjOk X.prog X.w (upd H x o) h' x o) : Inv X pins σ (upd H x o) { s with heap := h', toks := t' } := I.un (Un.write mu he k heo) (I.hok.write mu he k heo new)

theorem Inv.pins_of {pins' : List (Addr × Obj)} (I : Inv X pins σ H s) (h : ∀ p ∈ pins', s.heap.get? p.1 = some p.2 ∧ H p.1 = none ∧ p.1 ≠ X.env.locals ∧ p.1 ∉ X.fs ∧ ∀ v, p.2.data ≠ .cell v) : Inv X pins' σ H s :=
  ⟨I.ok, I.os, I.bare, I.base, I.loc, I.cell, I.free, I.freeC, fun p hp => (List.mem_append.mp hp).elim (fun z => I.pin p (List.mem_append_left _ z)) (h p), I.hok, I.len⟩

theorem nodup_ix {N : List Str} (hN : N.Nodup) {i j : Nat} {x : Str} (a : N[i]? = some x) (b : N[j]? = some x) : i = j := by
  obtain ⟨h1, e1⟩ := List.getElem?_eq_some_iff.mp a
  obtain ⟨h2, e2⟩ := List.getElem?_eq_some_iff.mp b
  exact (List.getElem_inj hN).mp (e1.trans e2.symm)


theorem store_ok2 {M : Model} {A : Around} {E : Value → Shared → Prop} {i : Nat} {x : Str} {v : V} {u : Value} {Q : Unit → Shared → Prop} (I : Inv X pins σ H s) (hN : X.N.Nodup) (hi : X.N[i]? = some x) (hx : Loc X.env.scope x) (r : RelV v u)
    (h : ∀ s', Inv X pins (σ.set i (some v)) H s' → (∃ a, Heap.SameBut a s.heap s'.heap ∧ (a = X.env.locals ∨ X.env.cells.lookup x = some a)) → Q () s') (hf : X.fn x = true ∨ X.env.scope.names.lookup x = some .local := by first | exact .inl rfl | exact .inr rfl | assumption) : wpAny M A (storeName X.env x u) Q E s := by
  obtain ⟨m, hn, hl⟩ := id I.loc
  have hcls : (X.env.scope.kind == .class || (X.env.scope.kind == .module && X.env.locals != X.env.globals)) = false := by rw [I.ok.kind]; rfl
  have hiσ : i < σ.length := by rw [I.len]; exact (List.getElem?_eq_some_iff.mp hi).1
  have cne := I.cne
  have tracked : ∀ {a : Addr} {h' : Heap}, (∃ o, s.heap.get? a = some o ∧ H a = none) → Heap.SameBut a s.heap h' → HOk X.prog X.w H h' := fun {a h'} ha hs b ob e => by
    obtain ⟨_, _, hfree⟩ := ha
    refine (I.hok b ob e).stay (fun c w' hc q => (hs.2 c ?_).trans q) (fun _ q => q) fun _ _ q => q
    rintro rfl
    rcases hc with rfl | hc
    · rw [hfree] at e; cases e
    · rw [hfree] at hc; cases hc
  rcases hx with hk | hk
  · refine wpAny_storeName_local hk hn (fun h' hn' hs => ?_) hcls
    obtain ⟨oL, _, _, hoL, _⟩ := id hn
    refine h _ ⟨I.ok, I.os, I.bare, ⟨fun b o e n hb hx => ?_, fun b o e n hb hx => ?_, I.base.free, fun b o e hx => ?_, I.base.tups, I.base.frzs, I.base.tbls⟩, ⟨_, hn', fun j y v' e1 e2 e3 => ?_⟩, fun y c e => ?_, I.free, I.freeC, fun p hp => ?_, tracked ⟨oL, hoL, I.free⟩ hs, by simpa using I.len⟩ ⟨_, hs, .inl rfl⟩
    · exact (hs.2 b (Nat.ne_of_lt (Nat.lt_of_lt_of_le (Heap.lt_size e) I.ok.above))).trans (I.base.keep b o e n hb hx)
    · obtain ⟨sl, e1⟩ := I.base.slot b o e n hb hx
      exact ⟨sl, (hs.2 b (Nat.ne_of_lt (Nat.lt_of_lt_of_le (Heap.lt_size e) I.ok.above))).trans e1⟩
    · obtain ⟨o', e1⟩ := I.base.there b o e hx
      exact ⟨o', (hs.2 b (Nat.ne_of_lt (Nat.lt_of_lt_of_le (Heap.lt_size e) I.ok.above))).trans e1⟩
    · by_cases hj : j = i
      · subst hj
        rw [hi] at e1; cases e1
        rw [List.getElem?_set_self hiσ] at e2
        cases e2
        exact ⟨u, r, .inl ⟨hk, by simp⟩⟩
      · rw [List.getElem?_set_ne (Ne.symm hj)] at e2
        obtain ⟨u', r', q⟩ := hl j y v' e1 e2 e3
        refine ⟨u', r', ?_⟩
        rcases q with ⟨k, e⟩ | ⟨k, c, e, z⟩
        · refine .inl ⟨k, ?_⟩
          have : y ≠ x := fun e => hj (nodup_ix hN e1 (e ▸ hi))
          simp [this, e]
        · exact .inr ⟨k, c, e, z.sameBut hs (cne y c e)⟩
    · obtain ⟨w', z⟩ := I.cell y c e
      exact ⟨w', z.sameBut hs (cne y c e)⟩
    · obtain ⟨e, n, ne, nf, d⟩ := I.pin p hp
      exact ⟨(hs.2 p.1 ne).trans e, n, ne, nf, d⟩
  · have hfn : X.fn x = true := by
      rcases hf with z | z
      · exact z
      · rw [z] at hk; cases hk
    obtain ⟨c, hc⟩ := I.ok.has x (.inl hk)
    obtain ⟨w', z⟩ := I.cell x c hc
    refine wpAny_storeName_cell I.ok.kind hk hc z (fun h' hc' hs => ?_)
    obtain ⟨oc, hoc, hocd⟩ := id z
    refine h { s with heap := h' } ⟨I.ok, I.os, I.bare, ⟨fun b o e n hb hx => ?_, fun b o e n hb hx => ?_, I.base.free, fun b o e hx => ?_, I.base.tups, I.base.frzs, I.base.tbls⟩, ⟨m, hn.sameBut hs (Ne.symm (cne x c hc)), fun j y v' e1 e2 e3 => ?_⟩, fun y c' e => ?_, I.free, I.freeC, fun p hp => ?_, tracked ⟨oc, hoc, I.freeC x c hc⟩ hs, by simpa using I.len⟩ ⟨c, hs, .inr hc⟩
    · exact (hs.2 b (Nat.ne_of_lt (Nat.lt_of_lt_of_le (Heap.lt_size e) (I.ok.cab x c hfn hc)))).trans (I.base.keep b o e n hb hx)
    · obtain ⟨sl, e1⟩ := I.base.slot b o e n hb hx
      exact ⟨sl, (hs.2 b (Nat.ne_of_lt (Nat.lt_of_lt_of_le (Heap.lt_size e) (I.ok.cab x c hfn hc)))).trans e1⟩
    · obtain ⟨o', e1⟩ := I.base.there b o e hx
      exact ⟨o', (hs.2 b (Nat.ne_of_lt (Nat.lt_of_lt_of_le (Heap.lt_size e) (I.ok.cab x c hfn hc)))).trans e1⟩
    · by_cases hj : j = i
      · subst hj
        rw [hi] at e1; cases e1
        rw [List.getElem?_set_self hiσ] at e2
        cases e2
        exact ⟨u, r, .inr ⟨.inl hk, c, hc, hc'⟩⟩
      · rw [List.getElem?_set_ne (Ne.symm hj)] at e2
        obtain ⟨u', r', q⟩ := hl j y v' e1 e2 e3
        refine ⟨u', r', ?_⟩
        rcases q with q | ⟨k, c', e, z'⟩
        · exact .inl q
        · refine .inr ⟨k, c', e, z'.sameBut hs ?_⟩
          rintro rfl
          exact hj (nodup_ix hN e1 (I.ok.inj _ _ _ e hc ▸ hi))
    · by_cases hcc : c' = c
      · subst hcc; exact ⟨_, hc'⟩
      · obtain ⟨w2, z2⟩ := I.cell y c' e
        exact ⟨w2, z2.sameBut hs hcc⟩
    · obtain ⟨e, n, ne, nf, d⟩ := I.pin p hp
      refine ⟨(hs.2 p.1 ?_).trans e, n, ne, nf, d⟩
      intro q
      rw [q, hoc] at e
      have q' : oc = p.2 := Option.some.inj e
      exact d w' (by rw [← q']; exact hocd)
theorem store_ok {M : Model} {A : Around} {E : Value → Shared → Prop} {i : Nat} {x : Str} {v : V} {u : Value} {Q : Unit → Shared → Prop} (I : Inv X pins σ H s) (hN : X.N.Nodup) (hi : X.N[i]? = some x) (hx : Loc X.env.scope x) (r : RelV v u)
    (h : ∀ s', Inv X pins (σ.set i (some v)) H s' → Q () s') (hf : X.fn x = true ∨ X.env.scope.names.lookup x = some .local := by first | exact .inl rfl | exact .inr rfl | assumption) : wpAny M A (storeName X.env x u) Q E s :=
  store_ok2 I hN hi hx r (fun s' I' _ => h s' I') hf

theorem Inv.call' {s' : Shared} {ch : List Addr} (I : Inv X pins σ H s) (ho : s'.os = s.os) (u : Un (frs X.stack) ch H H' s.heap s'.heap) (hok : HOk X.prog X.w H' s'.heap) (hg : AllBare s'.gens)
    (hch : ∀ b ∈ ch, (b ∈ X.ex ∨ X.s₀.heap.objs.size ≤ b) ∧ b ≠ X.env.locals ∧ (∀ x c, X.env.cells.lookup x = some c → c ≠ b) ∧ ∀ p ∈ X.pn ++ pins, p.1 ≠ b) : Inv X pins σ H' s' := by
  obtain ⟨h', g', d', t', o'⟩ := s'
  have e : o' = s.os := ho
  subst e
  exact I.call (g' := g') (t' := t') (d' := d') u hok hg hch
end



abbrev XK := Value → Option Addr → Hp → Prop
abbrev St := List (Option V)
abbrev VK := V → Hp → Prop

abbrev TE := St → Hp → VK → Prop
abbrev TT := St → Hp → (Bool → Hp → Prop) → Prop
abbrev TA := St → Hp → (List V → Hp → Prop) → Prop

structure Ends where
  nx : St → Hp → Prop
  rt : VK
  bk : St → Hp → Prop := fun _ _ => False
  ct : St → Hp → Prop := fun _ _ => False
abbrev TS := Ends → St → Hp → Prop

def EP (X : Cx) (pins : List (Addr × Obj)) (σ : St) (Q : VK) (u : Value) (s' : Shared) : Prop := ∃ v H', Inv X pins σ H' s' ∧ RelV v u ∧ Q v H'
def TP (X : Cx) (pins : List (Addr × Obj)) (σ : St) (Q : Bool → Hp → Prop) (b : Bool) (s' : Shared) : Prop := ∃ H', Inv X pins σ H' s' ∧ Q b H'
def AP (X : Cx) (pins : List (Addr × Obj)) (σ : St) (Q : List V → Hp → Prop) (us : List Value) (s' : Shared) : Prop := ∃ vs H', Inv X pins σ H' s' ∧ Vals vs us ∧ Q vs H'
def SP (X : Cx) (pins : List (Addr × Obj)) (D : Ends) (f : Flow) (s' : Shared) : Prop :=
  match f with
  | .next => ∃ σ' H', Inv X pins σ' H' s' ∧ D.nx σ' H'
  | .brk => ∃ σ' H', Inv X pins σ' H' s' ∧ D.bk σ' H'
  | .cont => ∃ σ' H', Inv X pins σ' H' s' ∧ D.ct σ' H'
  | .ret u => ∃ v σ' H', Inv X pins σ' H' s' ∧ RelV v u ∧ D.rt v H'

def PE (X : Cx) (e : Expr) (t : TE) : Prop :=
  ∀ (pins : List (Addr × Obj)) (s : Shared) (σ : St) (H : Hp) (Q : VK), Inv X pins σ H s → t σ H Q → wpAny (model X.prog X.w) X.A (eval e X.env) (EP X pins σ Q) X.xe s
def PT (X : Cx) (e : Expr) (t : TT) : Prop :=
  ∀ (pins : List (Addr × Obj)) (s : Shared) (σ : St) (H : Hp) (Q : Bool → Hp → Prop), Inv X pins σ H s → t σ H Q → wpAny (model X.prog X.w) X.A (isTrue e X.env (eval e X.env)) (TP X pins σ Q) X.xe s

def PW (X : Cx) (e : Expr) (t : TT) : Prop :=
  ∀ (whole : Sem Value) (pins : List (Addr × Obj)) (s : Shared) (σ : St) (H : Hp) (Q : Bool → Hp → Prop), Inv X pins σ H s → t σ H Q → wpAny (model X.prog X.w) X.A (isTrue e X.env whole) (TP X pins σ Q) X.xe s
theorem PW.pt {X : Cx} {e : Expr} {t : TT} (h : PW X e t) : PT X e t := h _

def PA (X : Cx) (es : List Expr) (t : TA) : Prop :=
  ∀ (pos : Pos) (pins : List (Addr × Obj)) (s : Shared) (σ : St) (H : Hp) (Q : List V → Hp → Prop), Inv X pins σ H s → t σ H Q → wpAny (model X.prog X.w) X.A (spliced (backTo pos (starEach es X.env))) (AP X pins σ Q) X.xe s
def PS (X : Cx) (st : Stmt) (t : TS) : Prop :=
  ∀ (pins : List (Addr × Obj)) (s : Shared) (σ : St) (H : Hp) (D : Ends), Inv X pins σ H s → t D σ H → wpAny (model X.prog X.w) X.A (exec st X.env) (SP X pins D) X.xe s
def PSs (X : Cx) (st : List Stmt) (t : TS) : Prop :=
  ∀ (pins : List (Addr × Obj)) (s : Shared) (σ : St) (H : Hp) (D : Ends), Inv X pins σ H s → t D σ H → wpAny (model X.prog X.w) X.A (execs st X.env) (SP X pins D) X.xe s

theorem thn {α : Type} {t : Sem α} {Q Q' : α → Shared → Prop} {M : Model} {A : Around} {E : Value → Shared → Prop} {s : Shared} (h : wpAny M A t Q E s) (hQ : ∀ a s, Q a s → Q' a s) : wpAny M A t Q' E s := wpAny_mono h hQ fun _ _ x => x
end L2

namespace L2
open PySem PySem.Spec PyProof.Rows
section
variable {X : Cx}


def tVar (i : Nat) : TE := fun σ H Q => ∃ v, σ[i]? = some (some v) ∧ Q v H
def tC (v : V) : TE := fun _ H Q => Q v H
theorem pe_var {i : Nat} {x : Str} {pos : Pos} (hN : X.N[i]? = some x) (hv : Vis X.env.scope x) (hd : (x == ("__debug__" : Str)) = false := by decide) (hcd : (x == ("__classdict__" : Str)) = false := by decide) : PE X (.Name x pos) (tVar i) := by
  intro pins s σ H Q I h
  obtain ⟨v, e, h⟩ := h
  obtain ⟨m, hn, hl⟩ := I.loc
  obtain ⟨u, r, l⟩ := hl i x v hN e hv
  have fin : EP X pins σ Q u s := ⟨v, H, I, r, h⟩
  rcases l with ⟨hk, hm⟩ | ⟨hk, c, hc, hcell⟩
  · exact wpAny_Name (wpAny_loadName_local I.ok.kind hk hn hm fin) hd
  · rcases hk with hk | hk
    · exact wpAny_Name (wpAny_loadName_cell I.ok.kind hk hc hcell fin) hd
    · exact wpAny_Name (wpAny_loadName_free I.ok.kind hk hc hcell fin hcd) hd
theorem pe_int {i j pos} : PE X (.Constant (.int i) j pos) (tC (.int i)) := fun _ _ _ H _ I h => wpAny_Constant_int ⟨.int i, H, I.tok _, ⟨_, rfl⟩, h⟩
theorem pe_bl {b j pos} : PE X (.Constant (.bool b) j pos) (tC (.bl b)) := fun _ _ _ H _ I h => Constant_bool ⟨.bl b, H, I, rfl, h⟩
theorem pe_non {j pos} : PE X (.Constant .none j pos) (tC .non) := fun _ _ _ H _ I h => Constant_none ⟨.non, H, I, rfl, h⟩
theorem pe_str {x j pos} : PE X (.Constant (.str x) j pos) (tC (.str x)) := fun _ _ _ H _ I h => Calls.Constant_str ⟨.str x, H, I.tok _, ⟨_, rfl⟩, h⟩


def Gl (X : Cx) (x : Str) : Prop := X.env.kindOf x = some .globalImplicit
theorem ld_glob {E : Value → Shared → Prop} {pins : List (Addr × Obj)} {s : Shared} {σ : St} {H : Hp} {x : Str} {u : Value} {pos : Pos} {Q : Value → Shared → Prop} (I : Inv X pins σ H s) (hg : Gl X x) (hm : X.mg x = some u) (h : Q u s)
    (hd : (x == ("__debug__" : Str)) = false := by decide) : wpAny (model X.prog X.w) X.A (eval (.Name x pos) X.env) Q E s :=
  Calls.Name_function_global I.ok.kind hg (Calls.loadGlobal_global (by rw [I.ok.glob]; exact I.mod.glob.keeps I.bk) hm h) hd
theorem ld_blt {E : Value → Shared → Prop} {pins : List (Addr × Obj)} {s : Shared} {σ : St} {H : Hp} {x : Str} {u : Value} {pos : Pos} {Q : Value → Shared → Prop} (I : Inv X pins σ H s) (hg : Gl X x) (hm : X.mg x = none) (hv : bootBuiltins x = some u) (h : Q u s)
    (hn : x ≠ "__name__" := by decide) (hd : (x == ("__debug__" : Str)) = false := by decide) : wpAny (model X.prog X.w) X.A (eval (.Name x pos) X.env) Q E s := by
  obtain ⟨mb, h1, h2⟩ := I.mod.blt
  exact Calls.Name_function_global I.ok.kind hg (Calls.loadGlobal_builtin (by rw [I.ok.glob]; exact I.mod.glob.keeps I.bk) hm (by rw [I.ok.blt]; exact h1.keeps I.bk) ((h2 x hn).trans hv) h) hd

theorem pe_glob {x : Str} {v : V} {u : Value} {pos : Pos} (hg : Gl X x) (hm : X.mg x = some u) (r : RelV v u) (hd : (x == ("__debug__" : Str)) = false := by decide) : PE X (.Name x pos) (tC v) :=
  fun _ _ _ H _ I h => ld_glob I hg hm ⟨v, H, I, r, h⟩ hd
theorem pe_bltn {x : Str} {v : V} {u : Value} {pos : Pos} (hg : Gl X x) (hm : X.mg x = none) (hv : bootBuiltins x = some u) (r : RelV v u) (hn : x ≠ "__name__" := by decide) (hd : (x == ("__debug__" : Str)) = false := by decide) : PE X (.Name x pos) (tC v) :=
  fun _ _ _ H _ I h => ld_blt I hg hm hv ⟨v, H, I, r, h⟩ hn hd



def t2I (ta tb : TE) (k : Int → Int → Hp → Prop) : St → Hp → Prop := fun σ H => ta σ H fun x H1 => tb σ H1 fun y H2 => ∃ i j, x = .int i ∧ y = .int j ∧ k i j H2
def tAdd (ta tb : TE) : TE := fun σ H Q => t2I ta tb (fun i j H2 => Q (.int (i + j)) H2) σ H
def tSub (ta tb : TE) : TE := fun σ H Q => t2I ta tb (fun i j H2 => Q (.int (i - j)) H2) σ H

def tMul (ta tb : TE) : TE := fun σ H Q => t2I ta tb (fun i j H2 => (-(2 ^ 64) < i ∧ i < 2 ^ 64) ∧ Q (.int (i * j)) H2) σ H
variable {a b : Expr} {ta tb : TE} {pos : Pos}
def PC (X : Cx) (op : CmpOp) (a b : Expr) (t : TE) : Prop :=
  ∀ (pins : List (Addr × Obj)) (s : Shared) (σ : St) (H : Hp) (Q : VK), Inv X pins σ H s → t σ H Q →
    wpAny (model X.prog X.w) X.A (eval a X.env) (fun v s₁ => wpAny (model X.prog X.w) X.A (eval b X.env) (fun u s₂ => wpAny (model X.prog X.w) X.A (compareOp op v u) (EP X pins σ Q) X.xe s₂) X.xe s₁) X.xe s
def tCmp (p : Int → Int → Bool) (ta tb : TE) : TE := fun σ H Q => t2I ta tb (fun i j H2 => Q (.bl (p i j)) H2) σ H
abbrev tLt : TE → TE → TE := tCmp fun i j => decide (i < j)
abbrev tLe : TE → TE → TE := tCmp fun i j => decide (i ≤ j)
abbrev tGt : TE → TE → TE := tCmp fun i j => decide (j < i)
abbrev tGe : TE → TE → TE := tCmp fun i j => decide (j ≤ i)
abbrev tEqI : TE → TE → TE := tCmp fun i j => decide (i = j)
abbrev tNeI : TE → TE → TE := tCmp fun i j => !decide (i = j)

def tIsN (ta : TE) : TE := fun σ H Q => ta σ H fun x H1 => Q (.bl (decide (x = .non))) H1
def tNotN (ta : TE) : TE := fun σ H Q => ta σ H fun x H1 => Q (.bl (!decide (x = .non))) H1
def tB (t : TE) : TT := fun σ H Q => t σ H fun x H1 => ∃ c, x = .bl c ∧ Q c H1
theorem pt_val {e : Expr} {t : TE} (h : PE X e t) (he : ∀ whole, isTrue e X.env whole = (do let v ← whole; standAt e.pos; holding [v] (truthy v)) := by intro _; rfl) : PT X e (tB t) := by
  intro pins s σ H Q I hw
  refine isTrue_plain (thn (h pins s σ H _ I hw) fun v s1 ⟨x, H1, I1, r1, q1⟩ => ?_) (he _)
  obtain ⟨d, rfl, q⟩ := q1
  cases r1
  exact wpAny_truthy_bool ⟨H1, I1, q⟩


variable {tA tB' : TT} {rest : List Expr}
def tAnd (t u : TT) : TT := fun σ H Q => t σ H fun c H1 => if c = true then u σ H1 Q else Q false H1
def tOr (t u : TT) : TT := fun σ H Q => t σ H fun c H1 => if c = true then Q true H1 else u σ H1 Q
def tNot (t : TT) : TT := fun σ H Q => t σ H fun c H1 => Q (!c) H1
theorem pw_and1 (ha : PT X a tA) : PW X (.BoolOp .And [a] pos) tA := by
  intro wh pins s σ H Q I h
  refine isTrue_and (thn (ha pins s σ H Q I h) fun c s1 e => ?_)
  cases c with
  | true => exact isTrue_and_nil e
  | false => exact e
theorem pw_or1 (ha : PT X a tA) : PW X (.BoolOp .Or [a] pos) tA := by
  intro wh pins s σ H Q I h
  refine isTrue_or (thn (ha pins s σ H Q I h) fun c s1 e => ?_)
  cases c with
  | false => exact isTrue_or_nil e
  | true => exact e
theorem pw_and (ha : PT X a tA) (hb : PW X (.BoolOp .And (b :: rest) pos) tB') : PW X (.BoolOp .And (a :: b :: rest) pos) (tAnd tA tB') := by
  intro wh pins s σ H Q I h
  refine isTrue_and (thn (ha pins s σ H _ I h) fun c s1 ⟨H1, I1, q1⟩ => ?_)
  cases c with
  | true => exact hb wh pins s1 σ H1 Q I1 q1
  | false => exact ⟨H1, I1, q1⟩
theorem pw_or (ha : PT X a tA) (hb : PW X (.BoolOp .Or (b :: rest) pos) tB') : PW X (.BoolOp .Or (a :: b :: rest) pos) (tOr tA tB') := by
  intro wh pins s σ H Q I h
  refine isTrue_or (thn (ha pins s σ H _ I h) fun c s1 ⟨H1, I1, q1⟩ => ?_)
  cases c with
  | true => exact ⟨H1, I1, q1⟩
  | false => exact hb wh pins s1 σ H1 Q I1 q1
theorem pt_not (ha : PT X a tA) : PT X (.UnaryOp .Not a pos) (tNot tA) := by
  intro pins s σ H Q I h
  exact isTrue_not (ha pins s σ H (fun c H1 => Q (!c) H1) I h)

def tAndV (ta tb : TE) : TE := fun σ H Q => ta σ H fun x H1 => ∃ c, x = .bl c ∧ if c = true then tb σ H1 Q else Q (.bl false) H1
def tOrV (ta tb : TE) : TE := fun σ H Q => ta σ H fun x H1 => ∃ c, x = .bl c ∧ if c = true then Q (.bl true) H1 else tb σ H1 Q
def tNotV (ta : TE) : TE := fun σ H Q => ta σ H fun x H1 => ∃ c, x = .bl c ∧ Q (.bl (!c)) H1
theorem pe_one {op} {t : TE} (h : PE X a t) : PE X (.BoolOp op [a] pos) t := fun pins s σ H Q I hw => BoolOp_one (h pins s σ H Q I hw)
theorem pe_and (ha : PE X a ta) (hb : PE X (.BoolOp .And (b :: rest) pos) tb) : PE X (.BoolOp .And (a :: b :: rest) pos) (tAndV ta tb) := by
  intro pins s σ H Q I h
  refine BoolOp_and (thn (ha pins s σ H _ I h) fun v s1 ⟨x, H1, I1, r1, q1⟩ => ?_)
  obtain ⟨c, rfl, q1⟩ := q1
  cases r1
  refine wpAny_truthy_bool ?_
  cases c with
  | true => exact hb pins s1 σ H1 Q I1 q1
  | false => exact ⟨.bl false, H1, I1, rfl, q1⟩
theorem pe_not (ha : PE X a ta) : PE X (.UnaryOp .Not a pos) (tNotV ta) := by
  intro pins s σ H Q I h
  refine UnaryOp_ (thn (ha pins s σ H _ I h) fun v s1 ⟨x, H1, I1, r1, q1⟩ => ?_)
  obtain ⟨c, rfl, q1⟩ := q1
  cases r1
  exact not_of (wpAny_truthy_bool ⟨.bl (!c), H1, I1, rfl, q1⟩)

def tIf (t : TT) (ta tb : TE) : TE := fun σ H Q => t σ H fun c H1 => if c = true then ta σ H1 Q else tb σ H1 Q
end
end L2

namespace L2
open PySem PySem.Spec PyProof.Rows


def SqL (K : PySem.W.Frag) (H : Hp) (a : Addr) (xs : List V) : Prop :=
  Rd H a (.lst xs) ∨
    ∃ (o : Obj) (its : Array Value) (n : Nat), K.lookup a = some o ∧ o.cls = .type "list" ∧ o.dict = none ∧ o.data = .seq its n ∧ its.size ≤ sizeLine ∧ Vals xs its.toList
def SqT (K : PySem.W.Frag) (H : Hp) (a : Addr) (xs : List V) : Prop :=
  Rd H a (.tup xs) ∨
    ∃ (o : Obj) (its : Array Value) (n : Nat), K.lookup a = some o ∧ o.cls = .type "tuple" ∧ o.dict = none ∧ o.data = .seq its n ∧ its.size ≤ sizeLine ∧ Vals xs its.toList
def absV : Value → Option V
  | .none => some .non
  | .bool b => some (.bl b)
  | .int i _ => some (.int i)
  | .str x _ => some (.str x)
  | .bytes b _ => some (.byt b)
  | .float b _ => some (.flt b)
  | .ref a => some (.ref a)
  | .type n => some (.ty n)
  | _ => none
theorem RelV.abs {x : V} {u : Value} (r : RelV x u) : absV u = some x := by
  cases x with
  | non => cases r; rfl
  | bl _ => cases r; rfl
  | int _ => obtain ⟨t, rfl⟩ := r; rfl
  | str _ => obtain ⟨t, rfl⟩ := r; rfl
  | byt _ => obtain ⟨t, rfl⟩ := r; rfl
  | flt _ => obtain ⟨t, rfl⟩ := r; rfl
  | ref _ => cases r; rfl
  | ty _ => cases r; rfl
theorem RelV.inj {x y : V} {u : Value} (r : RelV x u) (q : RelV y u) : x = y := Option.some.inj (r.abs.symm.trans q.abs)
theorem Vals.inj : ∀ {xs ys : List V} {us : List Value}, Vals xs us → Vals ys us → xs = ys
  | _, _, _, .nil, .nil => rfl
  | _, _, _, .cons r t, .cons r' t' => by rw [r.inj r', Vals.inj t t']
section
variable {X : Cx} {pins : List (Addr × Obj)} {σ : St} {H : Hp} {s : Shared} {a : Addr} {xs ys : List V}
theorem SqL.of {K : PySem.W.Frag} (h : H a = some (.lst xs)) : SqL K H a xs := .inl (.inl h)
theorem SqT.of {K : PySem.W.Frag} (h : H a = some (.tup xs)) : SqT K H a xs := .inl (.inl h)
theorem Inv.list (I : Inv X pins σ H s) (h : SqL X.K H a xs) : ∃ its : List Value, Vals xs its ∧ PlainL s.heap a its.toArray ∧ xs.length ≤ sizeLine := by
  rcases h with h | ⟨o, its, n, hk, hc, hd, hs, hz, r⟩
  · obtain ⟨z, its, n, r, e⟩ := h.ok I.hok
    exact ⟨its, r, ⟨_, n, e, rfl, rfl, rfl⟩, z⟩
  · refine ⟨its.toList, r, ⟨o, n, I.kIn a o hk, hc, hd, by simpa using hs⟩, ?_⟩
    have e := r.length
    simp only [Array.length_toList] at e
    omega
theorem Inv.tuple (I : Inv X pins σ H s) (h : SqT X.K H a xs) : ∃ its : List Value, Vals xs its ∧ IsTup s.heap a its.toArray ∧ xs.length ≤ sizeLine := by
  rcases h with h | ⟨o, its, n, hk, hc, _, hs, hz, r⟩
  · obtain ⟨z, its, r, p⟩ := h.ok I.hok
    exact ⟨its, r, p.tup, z⟩
  · refine ⟨its.toList, r, ⟨o, I.kIn a o hk, hc, n, by simpa using hs⟩, ?_⟩
    have e := r.length
    simp only [Array.length_toList] at e
    omega
theorem Inv.list_inj (I : Inv X pins σ H s) (h : SqL X.K H a xs) (h' : SqL X.K H a ys) : xs = ys := by
  obtain ⟨its, r, ⟨o, n, e, _, _, d⟩, _⟩ := I.list h
  obtain ⟨its', r', ⟨o', n', e', _, _, d'⟩, _⟩ := I.list h'
  rw [e] at e'; cases e'
  rw [d] at d'
  injection d' with d1 _
  have : its = its' := by simpa using congrArg Array.toList d1
  subst this
  exact r.inj r'
theorem Inv.tuple_inj (I : Inv X pins σ H s) (h : SqT X.K H a xs) (h' : SqT X.K H a ys) : xs = ys := by
  obtain ⟨its, r, ⟨o, e, _, n, d⟩, _⟩ := I.tuple h
  obtain ⟨its', r', ⟨o', e', _, n', d'⟩, _⟩ := I.tuple h'
  rw [e] at e'; cases e'
  rw [d] at d'
  injection d' with d1 _
  have : its = its' := by simpa using congrArg Array.toList d1
  subst this
  exact r.inj r'
end


abbrev Cx.wish (X : Cx) (E : Value → Shared → Prop) : Cx := { X with xe := E }

abbrev Cx.nox (X : Cx) : Cx := X.wish fun _ _ => False
theorem Cx.Ok.wish {X : Cx} (ok : X.Ok) (E : Value → Shared → Prop) : (X.wish E).Ok :=
  ⟨ok.mod, ok.kind, ok.glob, ok.blt, ok.above, ok.inj, ok.has, ok.cab, ok.hd, ok.frames, ok.stk, ok.exf, ok.bs, ok.bsz, ok.noex, ok.exfs, ok.funs, ok.frf⟩
theorem Cx.Ok.unwish {X : Cx} {E : Value → Shared → Prop} (ok : (X.wish E).Ok) : X.Ok :=
  ⟨ok.mod, ok.kind, ok.glob, ok.blt, ok.above, ok.inj, ok.has, ok.cab, ok.hd, ok.frames, ok.stk, ok.exf, ok.bs, ok.bsz, ok.noex, ok.exfs, ok.funs, ok.frf⟩
section
variable {X : Cx} {pins : List (Addr × Obj)} {σ : St} {H : Hp} {s : Shared} {E : Value → Shared → Prop}
theorem Inv.wish (I : Inv X pins σ H s) (E : Value → Shared → Prop) : Inv (X.wish E) pins σ H s := ⟨I.ok.wish E, I.os, I.bare, I.base, I.loc, I.cell, I.free, I.freeC, I.pin, I.hok, I.len⟩
theorem Inv.unwish (I : Inv (X.wish E) pins σ H s) : Inv X pins σ H s := ⟨I.ok.unwish, I.os, I.bare, I.base, I.loc, I.cell, I.free, I.freeC, I.pin, I.hok, I.len⟩
theorem SP.unwish {D : Ends} {f : Flow} {s' : Shared} (h : SP (X.wish E) pins D f s') : SP X pins D f s' := by
  cases f with
  | next => obtain ⟨σ', H', I, q⟩ := h; exact ⟨σ', H', I.unwish, q⟩
  | brk => obtain ⟨σ', H', I, q⟩ := h; exact ⟨σ', H', I.unwish, q⟩
  | cont => obtain ⟨σ', H', I, q⟩ := h; exact ⟨σ', H', I.unwish, q⟩
  | ret u => obtain ⟨v, σ', H', I, r, q⟩ := h; exact ⟨v, σ', H', I.unwish, r, q⟩
theorem PE.nox {e : Expr} {t : TE} (h : PE X.nox e t) : PE X e t := fun pins s σ H Q I hw =>
  wpAny_mono (h pins s σ H Q (I.wish _) hw) (fun _ _ ⟨v, H', I', r, q⟩ => ⟨v, H', I'.unwish, r, q⟩) fun _ _ z => False.elim z
theorem PT.nox {e : Expr} {t : TT} (h : PT X.nox e t) : PT X e t := fun pins s σ H Q I hw =>
  wpAny_mono (h pins s σ H Q (I.wish _) hw) (fun _ _ ⟨H', I', q⟩ => ⟨H', I'.unwish, q⟩) fun _ _ z => False.elim z
theorem PSs.nox {st : List Stmt} {t : TS} (h : PSs X.nox st t) : PSs X st t := fun pins s σ H D I hw =>
  wpAny_mono (h pins s σ H D (I.wish _) hw) (fun _ _ q => q.unwish) fun _ _ z => False.elim z
end


section
variable {X : Cx} {st : Stmt} {rest : List Stmt} {t u : TS} {e : Expr} {te : TE} {pos : Pos}
def tNext : TS := fun D σ H => D.nx σ H
def tSeq (t u : TS) : TS := fun D σ H => t { D with nx := u D } σ H
theorem pss_nil : PSs X [] tNext := fun _ _ σ H _ I h => wpAny_execs_nil ⟨σ, H, I, h⟩
theorem pss_cons (h1 : PS X st t) (h2 : PSs X rest u) : PSs X (st :: rest) (tSeq t u) := by
  intro pins s σ H D I h
  refine wpAny_execs_cons (thn (h1 pins s σ H { D with nx := u D } I h) fun f s1 q => ?_)
  cases f with
  | next =>
    obtain ⟨σ', H', I', q⟩ := q
    exact h2 pins s1 σ' H' D I' q
  | ret v => exact q
  | brk => exact q
  | cont => exact q
theorem pss_one (h1 : PS X st t) : PSs X [st] t := by
  intro pins s σ H D I h
  refine wpAny_execs_cons (thn (h1 pins s σ H D I h) fun f s1 q => ?_)
  cases f with
  | next => exact wpAny_execs_nil q
  | ret v => exact q
  | brk => exact q
  | cont => exact q
def tBreak : TS := fun D σ H => D.bk σ H
def tCont : TS := fun D σ H => D.ct σ H
theorem Inv.quiet {pins : List (Addr × Obj)} {σ : St} {H : Hp} {s : Shared} (I : Inv X pins σ H s) : interactive X.env = false := by simp [interactive, I.ok.kind]

def tDrop (te : TE) : TS := fun D σ H => te σ H fun _ H1 => D.nx σ H1
theorem ps_expr (he : PE X e te) (hs : swapsWith e none pos.line X.env = pure false := by rfl) : PS X (.Expr e pos) (tDrop te) := by
  intro pins s σ H D I h
  exact wpAny_Expr_any (thn (he pins s σ H _ I h) fun v s1 ⟨x, H1, I1, r1, q1⟩ => ⟨σ, H1, I1, q1⟩) I.quiet hs
def tRet (te : TE) : TS := fun D σ H => te σ H D.rt
theorem ps_ret (he : PE X e te) : PS X (.Return (some e) pos) (tRet te) := by
  intro pins s σ H D I h
  exact wpAny_Return_some (thn (he pins s σ H _ I h) fun v s1 ⟨x, H1, I1, r1, q1⟩ => ⟨x, σ, H1, I1, r1, q1⟩)
def tRetN : TS := fun D _ H => D.rt .non H
def tIfS (c : TT) (t u : TS) : TS := fun D σ H => c σ H fun b H1 => if b = true then t D σ H1 else u D σ H1
theorem ps_if {c : Expr} {a b : List Stmt} {tc : TT} (hc : PT X c tc) (ha : PSs X a t) (hb : PSs X b u) : PS X (.If c a b pos) (tIfS tc t u) := by
  intro pins s σ H D I h
  refine wpAny_If (thn (hc pins s σ H _ I h) fun d s1 ⟨H1, I1, q1⟩ => ?_)
  cases d with
  | true => exact ha pins s1 σ H1 D I1 q1
  | false => exact hb pins s1 σ H1 D I1 q1

def tNever : TS := fun _ _ _ => False
end


abbrev TG := V → St → Hp → (St → Hp → Prop) → Prop
abbrev TGs := List V → St → Hp → (St → Hp → Prop) → Prop
def PG (X : Cx) (target : Expr) (t : TG) : Prop :=
  ∀ (pins : List (Addr × Obj)) (s : Shared) (σ : St) (H : Hp) (v : V) (u : Value) (Q : St → Hp → Prop), Inv X pins σ H s → RelV v u → t v σ H Q →
    wpAny (model X.prog X.w) X.A (assign target X.env u) (fun _ s' => ∃ σ' H', Inv X pins σ' H' s' ∧ Q σ' H') X.xe s

def PGs (X : Cx) (ts : List Expr) (t : TGs) : Prop :=
  ∀ (pins : List (Addr × Obj)) (s : Shared) (σ : St) (H : Hp) (vs : List V) (us : List Value) (Q : St → Hp → Prop), Inv X pins σ H s → Vals vs us → t vs σ H Q →
    wpAny (model X.prog X.w) X.A (assignInOrder ((assignEach ts X.env).map (·.2)) us) (fun _ s' => ∃ σ' H', Inv X pins σ' H' s' ∧ Q σ' H') X.xe s

abbrev TSet := V → V → V → Hp → (Hp → Prop) → Prop
def PSet (X : Cx) (t : TSet) : Prop :=
  ∀ (pins : List (Addr × Obj)) (s : Shared) (σ : St) (H : Hp) (o i v : V) (ov iv u : Value) (Q : Hp → Prop), Inv X pins σ H s → RelV o ov → RelV i iv → RelV v u → t o i v H Q →
    wpAny (model X.prog X.w) X.A (setItem ov iv u) (fun _ s' => ∃ H', Inv X pins σ H' s' ∧ Q H') X.xe s

abbrev TIp := V → V → Hp → VK → Prop
def PIp (X : Cx) (op : Operator) (t : TIp) : Prop :=
  ∀ (pins : List (Addr × Obj)) (s : Shared) (σ : St) (H : Hp) (x y : V) (v u : Value) (Q : VK), Inv X pins σ H s → RelV x v → RelV y u → t x y H Q →
    wpAny (model X.prog X.w) X.A (inplaceOp op v u) (EP X pins σ Q) X.xe s
section
variable {X : Cx} {pos : Pos}
def gName (i : Nat) : TG := fun v σ H Q => Q (σ.set i (some v)) H
theorem pg_name {i : Nat} {x : Str} (hN : X.N.Nodup) (hi : X.N[i]? = some x) (hx : Loc X.env.scope x) (hf : X.fn x = true ∨ X.env.scope.names.lookup x = some .local := by first | exact .inl rfl | exact .inr rfl | assumption) : PG X (.Name x pos) (gName i) := by
  intro pins s σ H v u Q I r h
  exact wpAny_assign_Name (store_ok I hN hi hx r (fun s' I' => ⟨_, H, I', h⟩) hf)
def gNil : TGs := fun vs σ H Q => vs = [] ∧ Q σ H
def gCons (t : TG) (u : TGs) : TGs := fun vs σ H Q => ∃ v r, vs = v :: r ∧ t v σ H fun σ' H' => u r σ' H' Q
theorem pgs_nil : PGs X [] gNil := by
  intro pins s σ H vs us Q I r h
  obtain ⟨e, h⟩ := h
  subst e
  cases r
  exact assignInOrder_nil ⟨σ, H, I, h⟩
theorem pgs_cons {e : Expr} {es : List Expr} {t : TG} {u : TGs} (h1 : PG X e t) (h2 : PGs X es u)
    (hs : (assignEach (e :: es) X.env).map (·.2) = assign e X.env :: (assignEach es X.env).map (·.2) := by rfl) : PGs X (e :: es) (gCons t u) := by
  intro pins s σ H vs us Q I r h
  obtain ⟨v, vr, e1, h⟩ := h
  subst e1
  cases r with
  | cons r rr =>
    rw [hs]
    refine assignInOrder_cons (thn (h1 pins s σ H _ _ _ I r h) fun _ s1 ⟨σ1, H1, I1, q1⟩ => ?_)
    exact h2 pins s1 σ1 H1 _ _ Q I1 rr q1

def gTup (K : PySem.W.Frag) (n : Nat) (t : TGs) : TG := fun v σ H Q => ∃ a xs, v = .ref a ∧ SqT K H a xs ∧ xs.length = n ∧ t xs σ H Q
theorem pg_tup {es : List Expr} {k : Nat} {t : TGs} {n : Nat} (hc : X.calm = true) (h : PGs X es t)
    (hn : (assignEach es X.env).length = n := by rfl) (hst : (assignEach es X.env).findIdx? (·.1) = none := by rfl) : PG X (.Tuple es k pos) (gTup X.K n t) := by
  intro pins s σ H v u Q I r hw
  obtain ⟨a, xs, e1, hq, hl, hw⟩ := hw
  subst e1
  cases r
  obtain ⟨its, rv, ht, hz⟩ := I.tuple hq
  refine assign_Tuple_tuple (I.ok.hd hc) ht (by simp [hn, ← hl, rv.length]) hst fun h' hx => ?_
  have I1 : Inv X pins σ H { s with heap := h' } := I.kept (t' := s.toks) fun b o e => hx b o (Nat.ne_of_lt (Heap.lt_size e)) e
  exact h pins _ σ H xs _ Q I1 (by simpa using rv) hw

def gSub (to ti : TE) (t : TSet) : TG := fun v σ H Q => to σ H fun o H1 => ti σ H1 fun i H2 => t o i v H2 fun H3 => Q σ H3
def tAsg (te : TE) (g : TG) : TS := fun D σ H => te σ H fun x H1 => g x σ H1 D.nx
theorem ps_set {i : Nat} {x : Str} {e : Expr} {te : TE} {pos' : Pos} (hN : X.N.Nodup) (hi : X.N[i]? = some x) (hx : Loc X.env.scope x) (he : PE X e te) (hs : swapsWith e (some (.Name x pos')) pos.line X.env = pure false := by rfl) (hf : X.fn x = true ∨ X.env.scope.names.lookup x = some .local := by first | exact .inl rfl | exact .inr rfl | assumption) :
    PS X (.Assign [.Name x pos'] e pos) (tAsg te (gName i)) := by
  intro pins s σ H D I h
  refine wpAny_Assign_Name (thn (he pins s σ H _ I h) fun v s1 ⟨y, H1, I1, r1, q1⟩ => ?_) hs
  exact store_ok I1 hN hi hx r1 (fun s2 I2 => ⟨_, H1, I2, q1⟩) hf

def tPar (i j : Nat) (ta : TA) : TS := fun D σ H => ta σ H fun vs H1 => ∃ v w, vs = [v, w] ∧ D.nx ((σ.set i (some v)).set j (some w)) H1
def tAug (i : Nat) (te : TE) (ti : TIp) : TS := fun D σ H => ∃ x, σ[i]? = some (some x) ∧ te σ H fun y H1 => ti x y H1 fun z H2 => D.nx (σ.set i (some z)) H2
def tAugS (to ti te : TE) (tget : V → V → Hp → VK → Prop) (tip : TIp) (tset : TSet) : TS := fun D σ H => to σ H fun o H1 => ti σ H1 fun i H2 => tget o i H2 fun x H3 => te σ H3 fun y H4 => tip x y H4 fun z H5 => tset o i z H5 fun H6 => D.nx σ H6

def PGet (X : Cx) (t : V → V → Hp → VK → Prop) : Prop :=
  ∀ (pins : List (Addr × Obj)) (s : Shared) (σ : St) (H : Hp) (o i : V) (ov iv : Value) (Q : VK), Inv X pins σ H s → RelV o ov → RelV i iv → t o i H Q →
    wpAny (model X.prog X.w) X.A (getItem ov iv) (EP X pins σ Q) X.xe s
def ipI (f : Int → Int → Int) : TIp := fun x y H Q => ∃ i j, x = .int i ∧ y = .int j ∧ Q (.int (f i j)) H
end


section
variable {X : Cx} {pos : Pos}

def tWhile (c : TT) (tb : TS) : TS := fun D σ H => ∃ W : Nat → St → Hp → Prop, (∃ m, W m σ H) ∧ ∀ m σ H, W m σ H →
  c σ H fun b H1 => if b = true then ∃ N : St → Hp → Prop, (∀ σ' H', N σ' H' → ∃ m', m' < m ∧ W m' σ' H') ∧ tb { D with nx := N, ct := N, bk := D.nx } σ H1 else D.nx σ H1
end



structure It where
  go : Nat → Hp → Prop
  yld : Nat → Hp → V → Hp → Prop
  stop : Nat → Hp → Prop

def FpOk (X : Cx) (pins : List (Addr × Obj)) (H : Hp) (b : Addr) : Prop :=
  H b = none ∧ b ≠ X.env.locals ∧ b ∉ X.fs ∧ (b ∈ X.ex ∨ X.s₀.heap.objs.size ≤ b) ∧ (∀ x c, X.env.cells.lookup x = some c → c ≠ b) ∧ ∀ p ∈ X.pn ++ pins, p.1 ≠ b
theorem Inv.fpOk {X : Cx} {pins : List (Addr × Obj)} {σ : St} {H H' : Hp} {s : Shared} {b : Addr} (I : Inv X pins σ H s) (hb : s.heap.objs.size ≤ b) (hn : H' b = none) : FpOk X pins H' b := by
  refine ⟨hn, Nat.ne_of_gt (Nat.lt_of_lt_of_le I.lt hb), I.nofs hb, .inr (Nat.le_trans I.sz hb), fun x c e z => ?_, fun p hp z => ?_⟩
  · obtain ⟨v, q⟩ := I.cell x c e
    exact absurd (Nat.lt_of_lt_of_le q.lt (by rw [z]; exact hb)) (Nat.lt_irrefl _)
  · exact absurd (Nat.lt_of_lt_of_le (Heap.lt_size (I.pin p hp).1) (by rw [z]; exact hb)) (Nat.lt_irrefl _)
structure Turn (P : Program) (w : World) (K : PySem.W.Frag) (tg : Expr) (J : It) (fp : List Addr) (it : Addr) (tn : Nat → Heap → Prop) : Prop where
  mem : it ∈ fp
  obj : ∀ i h, tn i h → ∀ b ∈ fp, ∃ o, h.get? b = some o ∧ ∀ v, o.data ≠ .cell v
  keep : ∀ i h h', tn i h → (∀ b ∈ fp, ∀ o, h.get? b = some o → h'.get? b = some o) → tn i h'
  item : ∀ (X : Cx), X.prog = P → X.w = w → X.K = K → X.calm = true → ∀ (i : Nat) (pins : List (Addr × Obj)) (s : Shared) (σ : St) (H : Hp) (E : Value → Shared → Prop), Inv X pins σ H s → (∀ b ∈ fp, FpOk X pins H b) → tn i s.heap → J.go i H →
    wpAny (model P w) X.A (pyNext (.ref it)) (fun r s1 => ∃ u, r = some u ∧
      wpAny (model P w) X.A (letOwnedTupleGo tg (.ref it) u) (fun _ s2 => ∃ x H', Inv X pins σ H' s2 ∧ RelV x u ∧ J.yld i H x H' ∧ tn (i + 1) s2.heap ∧ ∀ b ∈ fp, H' b = none) E s1) E s
  done : ∀ (X : Cx), X.prog = P → X.w = w → X.K = K → X.calm = true → ∀ (i : Nat) (pins : List (Addr × Obj)) (s : Shared) (σ : St) (H : Hp) (E : Value → Shared → Prop), Inv X pins σ H s → (∀ b ∈ fp, FpOk X pins H b) → tn i s.heap → J.stop i H →
    wpAny (model P w) X.A (pyNext (.ref it)) (fun r s1 => r = none ∧ Inv X pins σ H s1) E s
  self : ∀ (A : Around) (i : Nat) (s : Shared) (Q : Value → Shared → Prop) (E : Value → Shared → Prop), tn i s.heap → Q (.ref it) s → wpAny (model P w) A (pyIter (.ref it)) Q E s
abbrev TI := St → Hp → (It → Hp → Prop) → Prop

def PIE (X : Cx) (pins : List (Addr × Obj)) (σ : St) (tg : Expr) (R : It → Hp → Prop) (itv : Value) (s2 : Shared) : Prop :=
  ∃ (it : Addr) (fp : List Addr) (tn : Nat → Heap → Prop) (J : It) (H' : Hp), itv = .ref it ∧ Inv X pins σ H' s2 ∧ Turn X.prog X.w X.K tg J fp it tn ∧ tn 0 s2.heap ∧ (∀ b ∈ fp, FpOk X pins H' b) ∧ R J H'
def PI (X : Cx) (tg iter : Expr) (wi : TI) : Prop :=
  ∀ (pins : List (Addr × Obj)) (s : Shared) (σ : St) (H : Hp) (R : It → Hp → Prop), Inv X pins σ H s → wi σ H R →
    wpAny (model X.prog X.w) X.A (eval iter X.env) (fun v s1 => wpAny (model X.prog X.w) X.A (pyIter v) (PIE X pins σ tg R) X.xe s1) X.xe s


theorem go_of {M : Model} {A : Around} {E : Value → Shared → Prop} {s : Shared} {tg : Expr} {it : Addr} {u : Value} {o : Obj} {n : String} {vs : Array Value} {Q : Unit → Shared → Prop} (ho : s.heap.get? it = some o) (hc : o.cls = .type n) (hd : o.data = .fields vs)
    (hn : ["enumerate", "zip", "dict_itemiterator", "dict_reverseitemiterator", "odict_iterator", "itertools.zip_longest", "itertools.pairwise"].contains n = false) (hQ : Q () s) : wpAny M A (letOwnedTupleGo tg (.ref it) u) Q E s := by
  unfold letOwnedTupleGo
  cases tg <;> first
    | exact wpAny_pure hQ
    | (cases u <;> first
        | exact wpAny_pure hQ
        | (refine wpAny_bind (wpAny_load ho ?_)
           rw [hc, hd]
           show wpAny M A (if (["enumerate", "zip", "dict_itemiterator", "dict_reverseitemiterator", "odict_iterator", "itertools.zip_longest", "itertools.pairwise"].contains n && vs[0]? == some (rawInt _)) = true then _ else _) Q E s
           rw [if_neg (by intro h; rw [hn, Bool.false_and] at h; cases h)]
           exact wpAny_pure hQ))


def Itl (K : PySem.W.Frag) (a : Addr) : It :=
  ⟨fun i H => ∃ xs x, SqL K H a xs ∧ xs[i]? = some x, fun i H x H' => H' = H ∧ ∀ xs, SqL K H a xs → xs[i]? = some x, fun i H => ∃ xs, SqL K H a xs ∧ xs.length ≤ i⟩
def Itt (K : PySem.W.Frag) (a : Addr) : It :=
  ⟨fun i H => ∃ xs x, SqT K H a xs ∧ xs[i]? = some x, fun i H x H' => H' = H ∧ ∀ xs, SqT K H a xs → xs[i]? = some x, fun i H => ∃ xs, SqT K H a xs ∧ xs.length ≤ i⟩

def Itr (lo : Int) (n : Nat) : It := ⟨fun i _ => i < n, fun i H x H' => H' = H ∧ x = .int (lo + i), fun i _ => n ≤ i⟩
theorem turn_list {P : Program} {w : World} {K : PySem.W.Frag} {tg : Expr} (a it : Addr) : Turn P w K tg (Itl K a) [it] it (fun i h => h.IsListIter it a i) where
  mem := by simp
  obj := fun i h st b hb => by
    have e : b = it := by simpa using hb
    subst e
    obtain ⟨o, e, c, d⟩ := st
    exact ⟨o, e, fun v z => by rw [d] at z; cases z⟩
  keep := fun i h h' st k => st.at fun o e => k it (by simp) o e
  item := by
    intro X hP hw hK hc i pins s σ H E I hf st hg
    subst hP hw hK
    obtain ⟨xs, x, hq, hx⟩ := hg
    obtain ⟨its, rv, p, hz⟩ := I.list hq
    obtain ⟨u, hu, ru⟩ := rv.get hx
    obtain ⟨f0, f1, f2, f3, f4, f5⟩ := hf it (by simp)
    refine wpAny_pyNext_list_item st p.isList (x := u) (by simpa using hu) fun h' st' sb => ?_
    have I1 : Inv X pins σ H { s with heap := h' } := I.turned (t' := s.toks) (fun b o hb e => (sb.2 b hb).trans e) f0 f1 f3 f4 f5
    obtain ⟨o, e, c, d⟩ := id st'
    exact ⟨u, rfl, go_of (s := { s with heap := h' }) e c d (by decide) ⟨x, H, I1, ru, ⟨rfl, fun ys hy => by rw [I.list_inj hy hq]; exact hx⟩, st', fun b hb => (hf b hb).1⟩⟩
  done := by
    intro X hP hw hK hc i pins s σ H E I hf st hg
    subst hP hw hK
    obtain ⟨xs, hq, hx⟩ := hg
    obtain ⟨its, rv, p, hz⟩ := I.list hq
    obtain ⟨f0, f1, f2, f3, f4, f5⟩ := hf it (by simp)
    have hl := rv.length
    exact wpAny_pyNext_list_end (I.ok.hd hc) st p.isList (by simp; omega) fun h' eb => ⟨rfl, I.turned (t' := s.toks) (fun b o hb e => eb b o hb e) f0 f1 f3 f4 f5⟩
  self := fun _ _ _ _ _ st h => wpAny_pyIter_listiter st h
theorem turn_tuple {P : Program} {w : World} {K : PySem.W.Frag} {tg : Expr} (a it : Addr) : Turn P w K tg (Itt K a) [it] it (fun i h => h.IsTupleIter it a i) where
  mem := by simp
  obj := fun i h st b hb => by
    have e : b = it := by simpa using hb
    subst e
    obtain ⟨o, e, c, d⟩ := st
    exact ⟨o, e, fun v z => by rw [d] at z; cases z⟩
  keep := fun i h h' st k => st.at fun o e => k it (by simp) o e
  item := by
    intro X hP hw hK hc i pins s σ H E I hf st hg
    subst hP hw hK
    obtain ⟨xs, x, hq, hx⟩ := hg
    obtain ⟨its, rv, p, hz⟩ := I.tuple hq
    obtain ⟨u, hu, ru⟩ := rv.get hx
    obtain ⟨f0, f1, f2, f3, f4, f5⟩ := hf it (by simp)
    refine wpAny_pyNext_tuple_item st (show s.heap.IsTuple a its.toArray from p) (x := u) (by simpa using hu) fun h' st' sb => ?_
    have I1 : Inv X pins σ H { s with heap := h' } := I.turned (t' := s.toks) (fun b o hb e => (sb.2 b hb).trans e) f0 f1 f3 f4 f5
    obtain ⟨o, e, c, d⟩ := id st'
    exact ⟨u, rfl, go_of (s := { s with heap := h' }) e c d (by decide) ⟨x, H, I1, ru, ⟨rfl, fun ys hy => by rw [I.tuple_inj hy hq]; exact hx⟩, st', fun b hb => (hf b hb).1⟩⟩
  done := by
    intro X hP hw hK hc i pins s σ H E I hf st hg
    subst hP hw hK
    obtain ⟨xs, hq, hx⟩ := hg
    obtain ⟨its, rv, p, hz⟩ := I.tuple hq
    obtain ⟨f0, f1, f2, f3, f4, f5⟩ := hf it (by simp)
    have hl := rv.length
    exact wpAny_pyNext_tuple_end (I.ok.hd hc) st (show s.heap.IsTuple a its.toArray from p) (by simp; omega) fun h' eb => ⟨rfl, I.turned (t' := s.toks) (fun b o hb e => eb b o hb e) f0 f1 f3 f4 f5⟩
  self := fun _ _ _ _ _ st h => wpAny_pyIter_tupleiter st h
theorem turn_range {P : Program} {w : World} {K : PySem.W.Frag} {tg : Expr} (it : Addr) (lo : Int) (n : Nat) : Turn P w K tg (Itr lo n) [it] it (fun i h => IsRangeIter h it (lo + (i : Nat) * 1) ((n : Int) - (i : Nat)) 1) where
  mem := by simp
  obj := fun i h st b hb => by
    have e : b = it := by simpa using hb
    subst e
    exact ⟨_, st, fun v z => by
      have z' : Data.fields _ = Data.cell v := z
      cases z'⟩
  keep := fun i h h' st k => k it (by simp) _ st
  item := by
    intro X hP hw hK hc i pins s σ H E I hf st hg
    subst hP hw hK
    obtain ⟨f0, f1, f2, f3, f4, f5⟩ := hf it (by simp)
    have W := Walks.range (prog := X.prog) (w := X.w) (I.ok.hd hc) it lo 1 n
    refine W.item i s _ _ hg st fun v h' tk hv st' kk => ?_
    obtain ⟨t, rfl⟩ := hv
    have I1 : Inv X pins σ H { s with heap := h', toks := tk } := I.turned (fun b o hb e => kk b o (by simpa using hb) e) f0 f1 f3 f4 f5
    refine ⟨_, rfl, go_of (s := { s with heap := h', toks := tk }) (n := "range_iterator") st' rfl rfl (by decide) ⟨.int (lo + i), H, I1, ⟨t, ?_⟩, ⟨rfl, rfl⟩, st', fun b hb => (hf b hb).1⟩⟩
    rw [Int.mul_one]
  done := by
    intro X hP hw hK hc i pins s σ H E I hf st hg
    subst hP hw hK
    obtain ⟨f0, f1, f2, f3, f4, f5⟩ := hf it (by simp)
    exact wpAny_pyNext_range_end (I.ok.hd hc) st (by have : n ≤ i := hg; omega) fun h' eb => ⟨rfl, I.turned (t' := s.toks) (fun b o hb e => eb b o hb e) f0 f1 f3 f4 f5⟩
  self := fun _ _ _ _ _ st h => wpAny_pyIter_rangeiter st h
end L2

namespace L2
open PySem PySem.Spec PyProof.Rows
section
variable {X : Cx} {tg : Expr}
def iList (K : PySem.W.Frag) (tl : TE) : TI := fun σ H R => tl σ H fun x H1 => ∃ a, x = .ref a ∧ (∃ xs, SqL K H1 a xs) ∧ R (Itl K a) H1
def iTup (K : PySem.W.Frag) (tl : TE) : TI := fun σ H R => tl σ H fun x H1 => ∃ a, x = .ref a ∧ (∃ xs, SqT K H1 a xs) ∧ R (Itt K a) H1
theorem pi_list {l : Expr} {tl : TE} (hl : PE X l tl) : PI X tg l (iList X.K tl) := by
  intro pins s σ H R I h
  refine thn (hl pins s σ H _ I h) fun v s1 ⟨x, H1, I1, r1, q1⟩ => ?_
  obtain ⟨a, e, ⟨xs, hq⟩, q⟩ := q1
  subst e
  cases r1
  obtain ⟨its, rv, p, hz⟩ := I1.list hq
  refine wpAny_pyIter_list p.isList ?_
  refine ⟨s1.heap.objs.size, [s1.heap.objs.size], _, _, H1, rfl, I1.kept (t' := s1.toks) fun b o e => Heap.get?_push_of_some _ e, turn_list a _, ⟨_, Heap.get?_push_size _ rfl, rfl, rfl⟩, fun b hb => ?_, q⟩
  have e : b = s1.heap.objs.size := by simpa using hb
  subst e
  exact I1.fpOk (Nat.le_refl _) (I1.hok.fresh (Nat.le_refl _))
theorem pi_tup {l : Expr} {tl : TE} (hl : PE X l tl) : PI X tg l (iTup X.K tl) := by
  intro pins s σ H R I h
  refine thn (hl pins s σ H _ I h) fun v s1 ⟨x, H1, I1, r1, q1⟩ => ?_
  obtain ⟨a, e, ⟨xs, hq⟩, q⟩ := q1
  subst e
  cases r1
  obtain ⟨its, rv, p, hz⟩ := I1.tuple hq
  refine wpAny_pyIter_tuple (show s1.heap.IsTuple a its.toArray from p) ?_
  refine ⟨s1.heap.objs.size, [s1.heap.objs.size], _, _, H1, rfl, I1.kept (t' := s1.toks) fun b o e => Heap.get?_push_of_some _ e, turn_tuple a _, ⟨_, Heap.get?_push_size _ rfl, rfl, rfl⟩, fun b hb => ?_, q⟩
  have e : b = s1.heap.objs.size := by simpa using hb
  subst e
  exact I1.fpOk (Nat.le_refl _) (I1.hok.fresh (Nat.le_refl _))

theorem range_it {pins : List (Addr × Obj)} {σ : St} {H : Hp} {s : Shared} {R : It → Hp → Prop} {E : Value → Shared → Prop} {lo hi : Int} {t u v : Tok} {tk : Nat} (I : Inv X pins σ H s) (h1 : -(2 ^ 62) ≤ lo) (h2 : lo < 2 ^ 62) (h3 : -(2 ^ 62) ≤ hi) (h4 : hi < 2 ^ 62)
    (q : R (Itr lo (hi - lo).toNat) H) : wpAny (model X.prog X.w) X.A (pyIter (.ref s.heap.objs.size)) (PIE X pins σ tg R) E { s with heap := s.heap.push { cls := .type "range", data := .fields #[.int lo t, .int hi u, .int 1 v] }, toks := tk } := by
  refine wpAny_pyIter_range (IsRange.new ..) (small_one h1 h2 h3 h4) ?_
  have I1 : Inv X pins σ H { s with heap := s.heap.push { cls := .type "range", data := .fields #[.int lo t, .int hi u, .int 1 v] }, toks := tk } := I.kept fun b o e => Heap.get?_push_of_some _ e
  refine ⟨(s.heap.push { cls := .type "range", data := .fields #[.int lo t, .int hi u, .int 1 v] }).objs.size, [(s.heap.push { cls := .type "range", data := .fields #[.int lo t, .int hi u, .int 1 v] }).objs.size], _, _, H, rfl,
    I1.kept (t' := tk) fun b o e => Heap.get?_push_of_some _ e, turn_range _ lo (hi - lo).toNat, ?_, fun b hb => ?_, q⟩
  · have e1 : lo + ((0 : Nat) : Int) * 1 = lo := by simp
    have e2 : (((hi - lo).toNat : Nat) : Int) - ((0 : Nat) : Int) = Builtin.Range.rangeSize lo hi 1 := by rw [rangeSize_one]; split <;> omega
    show IsRangeIter _ _ (lo + ((0 : Nat) : Int) * 1) ((((hi - lo).toNat : Nat) : Int) - ((0 : Nat) : Int)) 1
    rw [e1, e2]
    exact Heap.get?_push_size _ rfl
  · have e : b = (s.heap.push { cls := .type "range", data := .fields #[.int lo t, .int hi u, .int 1 v] }).objs.size := by simpa using hb
    subst e
    exact I1.fpOk (Nat.le_refl _) (I1.hok.fresh (Nat.le_refl _))
def iRng1 (ta : TA) : TI := fun σ H R => ta σ H fun vs H1 => ∃ j : Int, vs = [.int j] ∧ -(2 ^ 62) ≤ j ∧ j < 2 ^ 62 ∧ R (Itr 0 j.toNat) H1
def iRng2 (ta : TA) : TI := fun σ H R => ta σ H fun vs H1 => ∃ i j : Int, vs = [.int i, .int j] ∧ (-(2 ^ 62) ≤ i ∧ i < 2 ^ 62 ∧ -(2 ^ 62) ≤ j ∧ j < 2 ^ 62) ∧ R (Itr i (j - i).toNat) H1
theorem pi_range1 {a : Expr} {ta : TA} {p pos : Pos} (hg : Gl X "range") (hm : X.mg "range" = none) (ha : PA X [a] ta) (hs : starEach [a] X.env = [(false, eval a X.env)] := by rfl) : PI X tg (.Call (.Name "range" p) [a] [] pos) (iRng1 ta) := by
  intro pins s σ H R I h
  refine Call_ (ld_blt I hg hm boot_range (PyProof.Rows.callWith_type1 (thn (ha pos pins s σ H _ I h) fun us s1 ⟨vs, H1, I1, r1, q1⟩ => ?_) hs rfl))
  obtain ⟨j, e, q1, q2, q⟩ := q1
  subst e
  cases r1 with
  | cons r rr =>
    cases rr
    obtain ⟨t, rfl⟩ := r
    exact call_range_1 (range_it I1 (by omega) (by omega) q1 q2 (by simpa using q))
def tFor (wi : TI) (g : TG) (tb : TS) : TS := fun D σ H => wi σ H fun J H1 => ∃ W : Nat → Nat → St → Hp → Prop, (∃ m, W 0 m σ H1) ∧ ∀ i m σ H, W i m σ H →
  (J.stop i H ∧ D.nx σ H) ∨ (J.go i H ∧ ∃ N : St → Hp → Prop, (∀ σ' H', N σ' H' → ∃ m', m' < m ∧ W (i + 1) m' σ' H') ∧ ∀ x H', J.yld i H x H' → g x σ H' fun σ2 H2 => tb { D with nx := N, ct := N, bk := D.nx } σ2 H2)

def pinsAt (fp : List Addr) (h : Heap) : List (Addr × Obj) := fp.filterMap fun b => (h.get? b).map fun o => (b, o)
theorem mem_pinsAt {fp : List Addr} {h : Heap} {b : Addr} {o : Obj} (hb : b ∈ fp) (e : h.get? b = some o) : (b, o) ∈ pinsAt fp h := List.mem_filterMap.mpr ⟨b, hb, by rw [e]; rfl⟩
theorem of_pinsAt {fp : List Addr} {h : Heap} {p : Addr × Obj} (hp : p ∈ pinsAt fp h) : p.1 ∈ fp ∧ h.get? p.1 = some p.2 := by
  obtain ⟨b, hb, e⟩ := List.mem_filterMap.mp hp
  cases q : h.get? b with
  | none => rw [q] at e; cases e
  | some o =>
    rw [q] at e
    have e' : (b, o) = p := Option.some.inj e
    subst e'
    exact ⟨hb, q⟩
theorem Inv.pinned {pins : List (Addr × Obj)} {σ : St} {H : Hp} {s : Shared} {fp : List Addr} (I : Inv X pins σ H s) (hf : ∀ b ∈ fp, FpOk X pins H b) (ho : ∀ b ∈ fp, ∃ o, s.heap.get? b = some o ∧ ∀ v, o.data ≠ .cell v) : Inv X (pins ++ pinsAt fp s.heap) σ H s :=
  I.pins_of fun p hp => (List.mem_append.mp hp).elim (fun z => I.pin p (List.mem_append_right _ z)) fun z => by
    obtain ⟨hb, e⟩ := of_pinsAt z
    obtain ⟨f0, f1, f2, _⟩ := hf p.1 hb
    obtain ⟨o, e', d⟩ := ho p.1 hb
    rw [e] at e'; cases e'
    exact ⟨e, f0, f1, f2, d⟩
theorem Inv.unpinned {pins pl : List (Addr × Obj)} {σ : St} {H : Hp} {s : Shared} (I : Inv X (pins ++ pl) σ H s) : Inv X pins σ H s := I.pins_of fun p hp => I.pin p (List.mem_append_right _ (List.mem_append_left _ hp))
theorem ps_for {iter : Expr} {body : List Stmt} {wi : TI} {g : TG} {tb : TS} {pos : Pos} (hp : PassesOwn (model X.prog X.w) X.A X.env X.xe) (hc : X.calm = true) (hi : PI X tg iter wi) (hg : PG X tg g) (hb : PSs X body tb)
    (hs : ∀ x, foldedSetIterable iter X.env x = pure x := by intro _; rfl) : PS X (.For tg iter body [] pos) (tFor wi g tb) := by
  intro pins s σ H D I h
  refine wpAny_For (thn (hi pins s σ H _ I h) fun v s1 h1 => thn h1 fun itv s2 h2 => ?_) hs
  obtain ⟨it, fp, tn, J, H2, e, I2, T, st2, f2, W, ⟨m0, w0⟩, turn⟩ := h2
  subst e
  have stat : ∀ {H' : Hp}, (∀ b ∈ fp, H' b = none) → ∀ b ∈ fp, FpOk X pins H' b := fun hn b hb => ⟨hn b hb, (f2 b hb).2⟩
  refine codeAny_forLoop_any (fun n s' => ∃ i σ' H', Inv X pins σ' H' s' ∧ tn i s'.heap ∧ (∀ b ∈ fp, H' b = none) ∧ W i n σ' H') ?_ m0 ⟨0, σ, H2, I2, st2, fun b hb => (f2 b hb).1, w0⟩
  rintro n s3 ⟨i, σ3, H3, I3, st3, fr3, w3⟩
  rcases turn i n σ3 H3 w3 with ⟨stop, qn⟩ | ⟨go, N, hN, step⟩
  · refine wpAny_passesOwn hp (thn (T.done X rfl rfl rfl hc i pins s3 σ3 H3 X.xe I3 (stat fr3) st3 stop) fun r s4 ⟨hr, I4⟩ => ?_)
    subst hr
    exact wpAny_execs_nil ⟨σ3, H3, I4, qn⟩
  · refine wpAny_passesOwn hp (thn (T.item X rfl rfl rfl hc i pins s3 σ3 H3 X.xe I3 (stat fr3) st3 go) fun r s4 ⟨u, hr, h4⟩ => ?_)
    subst hr
    refine wpAny_passesOwn hp (thn h4 fun _ s5 ⟨x, H5, I5, r5, y5, st5, fr5⟩ => ?_)
    have I5' := I5.pinned (stat fr5) (T.obj _ _ st5)
    refine wpAny_passesOwn hp (thn (hg _ s5 σ3 H5 x u _ I5' r5 (step x H5 y5)) fun _ s6 ⟨σ6, H6, I6, q6⟩ => ?_)
    refine wpAny_passesOwn hp (thn (hb _ s6 σ6 H6 _ I6 q6) fun f s7 q7 => ?_)
    have again : ∀ {σ7 : St} {H7 : Hp}, Inv X (pins ++ pinsAt fp s5.heap) σ7 H7 s7 → N σ7 H7 → ∃ m, m < n ∧ ∃ i σ' H', Inv X pins σ' H' s7 ∧ tn i s7.heap ∧ (∀ b ∈ fp, H' b = none) ∧ W i m σ' H' := fun {σ7 H7} I7 n7 => by
      obtain ⟨m', hm, w7⟩ := hN σ7 H7 n7
      refine ⟨m', hm, i + 1, σ7, H7, I7.unpinned, T.keep _ _ _ st5 fun b hb o e => (I7.pin (b, o) (List.mem_append_right _ (List.mem_append_right _ (mem_pinsAt hb e)))).1, fun b hb => ?_, w7⟩
      obtain ⟨o, e, d⟩ := T.obj _ _ st5 b hb
      exact (I7.pin (b, o) (List.mem_append_right _ (List.mem_append_right _ (mem_pinsAt hb e)))).2.1
    cases f with
    | next => obtain ⟨σ7, H7, I7, n7⟩ := q7; exact again I7 n7
    | cont => obtain ⟨σ7, H7, I7, n7⟩ := q7; exact again I7 n7
    | brk => obtain ⟨σ7, H7, I7, q7⟩ := q7; exact ⟨σ7, H7, I7.unpinned, q7⟩
    | ret v => obtain ⟨x7, σ7, H7, I7, r7, q7⟩ := q7; exact ⟨x7, σ7, H7, I7.unpinned, r7, q7⟩
end



theorem for_list {K : PySem.W.Frag} {a : Addr} {xs : List V} {g : TG} {tb : TS} {D : Ends} {σ : St} {H : Hp} (Pv : Nat → St → Hp → Prop) (h0 : Pv 0 σ H) (hl : ∀ i σ H, i ≤ xs.length → Pv i σ H → SqL K H a xs)
    (hs : ∀ i x σ H, xs[i]? = some x → Pv i σ H → g x σ H fun σ2 H2 => tb { D with nx := Pv (i + 1), ct := Pv (i + 1), bk := D.nx } σ2 H2) (hd : ∀ σ H, Pv xs.length σ H → D.nx σ H) :
    ∃ W : Nat → Nat → St → Hp → Prop, (∃ m, W 0 m σ H) ∧ ∀ i m σ H, W i m σ H →
      ((Itl K a).stop i H ∧ D.nx σ H) ∨ ((Itl K a).go i H ∧ ∃ N : St → Hp → Prop, (∀ σ' H', N σ' H' → ∃ m', m' < m ∧ W (i + 1) m' σ' H') ∧ ∀ x H', (Itl K a).yld i H x H' → g x σ H' fun σ2 H2 => tb { D with nx := N, ct := N, bk := D.nx } σ2 H2) := by
  refine ⟨fun i m σ H => m = xs.length - i ∧ i ≤ xs.length ∧ Pv i σ H, ⟨xs.length, by simp, Nat.zero_le _, h0⟩, ?_⟩
  rintro i m σ H ⟨rfl, hi, p⟩
  have q := hl i σ H hi p
  by_cases hlt : i < xs.length
  · refine .inr ⟨⟨xs, xs[i], q, by simp [hlt]⟩, Pv (i + 1), fun σ' H' p' => ⟨xs.length - (i + 1), by omega, rfl, hlt, p'⟩, fun x H' y => ?_⟩
    obtain ⟨e, y⟩ := y
    subst e
    exact hs i x σ _ (y xs q) p
  · have e : i = xs.length := by omega
    subst e
    exact .inl ⟨⟨xs, q, Nat.le_refl _⟩, hd σ H p⟩
theorem for_tup {K : PySem.W.Frag} {a : Addr} {xs : List V} {g : TG} {tb : TS} {D : Ends} {σ : St} {H : Hp} (Pv : Nat → St → Hp → Prop) (h0 : Pv 0 σ H) (hl : ∀ i σ H, i ≤ xs.length → Pv i σ H → SqT K H a xs)
    (hs : ∀ i x σ H, xs[i]? = some x → Pv i σ H → g x σ H fun σ2 H2 => tb { D with nx := Pv (i + 1), ct := Pv (i + 1), bk := D.nx } σ2 H2) (hd : ∀ σ H, Pv xs.length σ H → D.nx σ H) :
    ∃ W : Nat → Nat → St → Hp → Prop, (∃ m, W 0 m σ H) ∧ ∀ i m σ H, W i m σ H →
      ((Itt K a).stop i H ∧ D.nx σ H) ∨ ((Itt K a).go i H ∧ ∃ N : St → Hp → Prop, (∀ σ' H', N σ' H' → ∃ m', m' < m ∧ W (i + 1) m' σ' H') ∧ ∀ x H', (Itt K a).yld i H x H' → g x σ H' fun σ2 H2 => tb { D with nx := N, ct := N, bk := D.nx } σ2 H2) := by
  refine ⟨fun i m σ H => m = xs.length - i ∧ i ≤ xs.length ∧ Pv i σ H, ⟨xs.length, by simp, Nat.zero_le _, h0⟩, ?_⟩
  rintro i m σ H ⟨rfl, hi, p⟩
  have q := hl i σ H hi p
  by_cases hlt : i < xs.length
  · refine .inr ⟨⟨xs, xs[i], q, by simp [hlt]⟩, Pv (i + 1), fun σ' H' p' => ⟨xs.length - (i + 1), by omega, rfl, hlt, p'⟩, fun x H' y => ?_⟩
    obtain ⟨e, y⟩ := y
    subst e
    exact hs i x σ _ (y xs q) p
  · have e : i = xs.length := by omega
    subst e
    exact .inl ⟨⟨xs, q, Nat.le_refl _⟩, hd σ H p⟩
theorem for_range {lo : Int} {n : Nat} {g : TG} {tb : TS} {D : Ends} {σ : St} {H : Hp} (Pv : Nat → St → Hp → Prop) (h0 : Pv 0 σ H)
    (hs : ∀ i σ H, i < n → Pv i σ H → g (.int (lo + i)) σ H fun σ2 H2 => tb { D with nx := Pv (i + 1), ct := Pv (i + 1), bk := D.nx } σ2 H2) (hd : ∀ σ H, Pv n σ H → D.nx σ H) :
    ∃ W : Nat → Nat → St → Hp → Prop, (∃ m, W 0 m σ H) ∧ ∀ i m σ H, W i m σ H →
      ((Itr lo n).stop i H ∧ D.nx σ H) ∨ ((Itr lo n).go i H ∧ ∃ N : St → Hp → Prop, (∀ σ' H', N σ' H' → ∃ m', m' < m ∧ W (i + 1) m' σ' H') ∧ ∀ x H', (Itr lo n).yld i H x H' → g x σ H' fun σ2 H2 => tb { D with nx := N, ct := N, bk := D.nx } σ2 H2) := by
  refine ⟨fun i m σ H => m = n - i ∧ i ≤ n ∧ Pv i σ H, ⟨n, by simp, Nat.zero_le _, h0⟩, ?_⟩
  rintro i m σ H ⟨rfl, hi, p⟩
  by_cases hlt : i < n
  · refine .inr ⟨hlt, Pv (i + 1), fun σ' H' p' => ⟨n - (i + 1), by omega, rfl, hlt, p'⟩, fun x H' y => ?_⟩
    obtain ⟨e, y⟩ := y
    subst e y
    exact hs i σ _ hlt p
  · have e : i = n := by omega
    subst e
    exact .inl ⟨Nat.le_refl _, hd σ H p⟩

end L2

namespace L2
open PySem PySem.Spec PyProof.Rows

abbrev R2 := V → V → Hp → VK → Prop

def OpR (X : Cx) (f : Value → Value → Sem Value) (r : R2) : Prop :=
  ∀ (pins : List (Addr × Obj)) (s : Shared) (σ : St) (H : Hp) (x y : V) (v u : Value) (Q : VK), Inv X pins σ H s → RelV x v → RelV y u → r x y H Q →
    wpAny (model X.prog X.w) X.A (f v u) (EP X pins σ Q) X.xe s

def UnR (X : Cx) (f : Value → Sem Value) (r : V → Hp → VK → Prop) : Prop :=
  ∀ (pins : List (Addr × Obj)) (s : Shared) (σ : St) (H : Hp) (x : V) (v : Value) (Q : VK), Inv X pins σ H s → RelV x v → r x H Q →
    wpAny (model X.prog X.w) X.A (f v) (EP X pins σ Q) X.xe s

def CallR (X : Cx) (f : Value) (r : List V → Hp → VK → Prop) : Prop :=
  ∀ (pins : List (Addr × Obj)) (s : Shared) (σ : St) (H : Hp) (xs : List V) (us : List Value) (Q : VK), Inv X pins σ H s → Vals xs us → r xs H Q →
    wpAny (model X.prog X.w) X.A (call f us) (EP X pins σ Q) X.xe s

def TruR (X : Cx) (r : V → Hp → (Bool → Hp → Prop) → Prop) : Prop :=
  ∀ (pins : List (Addr × Obj)) (s : Shared) (σ : St) (H : Hp) (x : V) (v : Value) (Q : Bool → Hp → Prop), Inv X pins σ H s → RelV x v → r x H Q →
    wpAny (model X.prog X.w) X.A (truthy v) (TP X pins σ Q) X.xe s

def tOp (r : R2) (ta tb : TE) : TE := fun σ H Q => ta σ H fun x H1 => tb σ H1 fun y H2 => r x y H2 Q
def tUn (r : V → Hp → VK → Prop) (ta : TE) : TE := fun σ H Q => ta σ H fun x H1 => r x H1 Q

def rI (C : Int → Int → Prop) (g : Int → Int → V) : R2 := fun x y H Q => ∃ i j, x = .int i ∧ y = .int j ∧ C i j ∧ Q (g i j) H
def rI0 (g : Int → Int → V) : R2 := fun x y H Q => ∃ i j, x = .int i ∧ y = .int j ∧ Q (g i j) H
def rU (g : Int → V) : V → Hp → VK → Prop := fun x H Q => ∃ i, x = .int i ∧ Q (g i) H

section
variable {X : Cx} {a b c : Expr} {ta tb tc : TE} {pos : Pos}

theorem binT (ha : PE X a ta) (hb : PE X b tb) {pins : List (Addr × Obj)} {s : Shared} {σ : St} {H : Hp} {R : V → V → Hp → Prop} (I : Inv X pins σ H s)
    (h : ta σ H fun x H1 => tb σ H1 fun y H2 => R x y H2) {Q : Value → Shared → Prop} {f : Value → Value → Sem Value}
    (hf : ∀ v u s2 x y H2, Inv X pins σ H2 s2 → RelV x v → RelV y u → R x y H2 → wpAny (model X.prog X.w) X.A (f v u) Q X.xe s2) :
    wpAny (model X.prog X.w) X.A (eval a X.env) (fun v s₁ => wpAny (model X.prog X.w) X.A (eval b X.env) (fun u s₂ => wpAny (model X.prog X.w) X.A (f v u) Q X.xe s₂) X.xe s₁) X.xe s := by
  refine thn (ha pins s σ H _ I h) fun v s1 ⟨x, H1, I1, r1, q1⟩ => ?_
  refine thn (hb pins s1 σ H1 _ I1 q1) fun u s2 ⟨y, H2, I2, r2, q2⟩ => ?_
  exact hf v u s2 x y H2 I2 r1 r2 q2

theorem pe_op {op : Operator} {r : R2} (ho : OpR X (binaryOp op) r) (ha : PE X a ta) (hb : PE X b tb) : PE X (.BinOp a op b pos) (tOp r ta tb) := by
  intro pins s σ H Q I h
  exact wpAny_BinOp (binT ha hb I h fun v u s2 x y H2 I2 rx ry q => ho pins s2 σ H2 x y v u Q I2 rx ry q)
theorem pe_un {op : UnaryOp} {r : V → Hp → VK → Prop} (ho : UnR X (unaryOp op) r) (ha : PE X a ta) : PE X (.UnaryOp op a pos) (tUn r ta) := by
  intro pins s σ H Q I h
  exact UnaryOp_ (thn (ha pins s σ H _ I h) fun v s1 ⟨x, H1, I1, r1, q1⟩ => ho pins s1 σ H1 x v Q I1 r1 q1)

theorem opI {f : Value → Value → Sem Value} {C : Int → Int → Prop} {g : Int → Int → Int}
    (rule : ∀ (i j : Int) (t u : Tok) (s : Shared) (Q : Value → Shared → Prop) (E : Value → Shared → Prop), C i j → Q (.int (g i j) s.toks) { s with toks := s.toks + 1 } → wpAny (model X.prog X.w) X.A (f (.int i t) (.int j u)) Q E s) :
    OpR X f (rI C fun i j => .int (g i j)) := by
  intro pins s σ H x y v u Q I rx ry h
  obtain ⟨i, j, rfl, rfl, hc, q⟩ := h
  obtain ⟨t, rfl⟩ := rx
  obtain ⟨t', rfl⟩ := ry
  exact rule i j t t' s _ _ hc ⟨.int (g i j), H, I.tok _, ⟨_, rfl⟩, q⟩
theorem opI0 {f : Value → Value → Sem Value} {g : Int → Int → Int}
    (rule : ∀ (i j : Int) (t u : Tok) (s : Shared) (Q : Value → Shared → Prop) (E : Value → Shared → Prop), Q (.int (g i j) s.toks) { s with toks := s.toks + 1 } → wpAny (model X.prog X.w) X.A (f (.int i t) (.int j u)) Q E s) :
    OpR X f (rI0 fun i j => .int (g i j)) := by
  intro pins s σ H x y v u Q I rx ry h
  obtain ⟨i, j, rfl, rfl, q⟩ := h
  obtain ⟨t, rfl⟩ := rx
  obtain ⟨t', rfl⟩ := ry
  exact rule i j t t' s _ _ ⟨.int (g i j), H, I.tok _, ⟨_, rfl⟩, q⟩
theorem opB0 {f : Value → Value → Sem Value} {g : Int → Int → Bool}
    (rule : ∀ (i j : Int) (t u : Tok) (s : Shared) (Q : Value → Shared → Prop) (E : Value → Shared → Prop), Q (.bool (g i j)) s → wpAny (model X.prog X.w) X.A (f (.int i t) (.int j u)) Q E s) :
    OpR X f (rI0 fun i j => .bl (g i j)) := by
  intro pins s σ H x y v u Q I rx ry h
  obtain ⟨i, j, rfl, rfl, q⟩ := h
  obtain ⟨t, rfl⟩ := rx
  obtain ⟨t', rfl⟩ := ry
  exact rule i j t t' s _ _ ⟨.bl (g i j), H, I, rfl, q⟩

def CDiv (i j : Int) : Prop := 0 < j ∧ j < 1073741824
def CDivN (i j : Int) : Prop := j ≠ 0 ∧ j.natAbs < 1073741824
def CPow (i j : Int) : Prop := 0 ≤ j ∧ j ≤ 1000000 ∧ i.natAbs < 2 ^ 64
def CMul (i j : Int) : Prop := (-(2 ^ 64) < i ∧ i < 2 ^ 64) ∨ (-(2 ^ 64) < j ∧ j < 2 ^ 64)
theorem CMul.ok {i j : Int} (h : CMul i j) : IntMulOk i j := by
  rcases h with ⟨h1, h2⟩ | ⟨h1, h2⟩
  · exact .of_left (intBits_le_64 h1 h2)
  · exact .of_right (intBits_le_64 h1 h2)
theorem op_add : OpR X (binaryOp .Add) (rI0 fun i j => .int (i + j)) := opI0 fun _ _ _ _ _ _ _ q => add_int q
theorem op_sub : OpR X (binaryOp .Sub) (rI0 fun i j => .int (i - j)) := opI0 fun _ _ _ _ _ _ _ q => sub_int q
theorem op_fdiv : OpR X (binaryOp .FloorDiv) (rI CDiv fun i j => .int (i / j)) := opI fun i j _ _ _ _ _ hc q => by
  have h1 : (0 : Int) < j := hc.1
  have h2 : j < 1073741824 := hc.2
  exact floordiv_int (by omega) (by rw [Int.fdiv_eq_ediv_of_nonneg i (by omega)]; exact q) (.inl (PyProof.noPylong_small (by omega)))
theorem op_mod : OpR X (binaryOp .Mod) (rI (fun _ j => 0 < j) fun i j => .int (i % j)) := opI fun i j _ _ _ _ _ hc q => by
  have h1 : (0 : Int) < j := hc
  exact mod_int' (by omega) (by rw [Int.fmod_eq_emod_of_nonneg i (by omega)]; exact q)
theorem unI {f : Value → Sem Value} {g : Int → Int}
    (rule : ∀ (i : Int) (t : Tok) (s : Shared) (Q : Value → Shared → Prop) (E : Value → Shared → Prop), Q (.int (g i) s.toks) { s with toks := s.toks + 1 } → wpAny (model X.prog X.w) X.A (f (.int i t)) Q E s) :
    UnR X f (rU fun i => .int (g i)) := by
  intro pins s σ H x v Q I rx h
  obtain ⟨i, rfl, q⟩ := h
  obtain ⟨t, rfl⟩ := rx
  exact rule i t s _ _ ⟨.int (g i), H, I.tok _, ⟨_, rfl⟩, q⟩
theorem un_neg : UnR X (unaryOp .USub) (rU fun i => .int (-i)) := unI fun _ _ _ _ _ q => neg_int q
end



def scal : V → V → Bool
  | .non, .non => true | .non, .int _ => true | .int _, .non => true | .non, .bl _ => true | .bl _, .non => true | .non, .str _ => true | .str _, .non => true
  | .int _, .int _ => true | .bl _, .bl _ => true | .str _, .str _ => true | .byt _, .byt _ => true
  | .int _, .str _ => true | .str _, .int _ => true | .bl _, .str _ => true | .str _, .bl _ => true
  | _, _ => false
def rEq : R2 := fun x y H Q => scal x y = true ∧ Q (.bl (decide (x = y))) H
def rNe : R2 := fun x y H Q => scal x y = true ∧ Q (.bl (!decide (x = y))) H

theorem dec_int {i j : Int} : decide (V.int i = V.int j) = (i == j) := by
  rw [Bool.eq_iff_iff]
  simp
theorem dec_bl {i j : Bool} : decide (V.bl i = V.bl j) = (i == j) := by
  rw [Bool.eq_iff_iff]
  simp
theorem dec_str {i j : Str} : decide (V.str i = V.str j) = (i == j) := by
  rw [Bool.eq_iff_iff]
  simp
theorem dec_byt {i j : Array UInt8} : decide (V.byt i = V.byt j) = (i.toList == j.toList) := by
  rw [Bool.eq_iff_iff]
  cases i
  cases j
  simp

section
variable {X : Cx} {a b c : Expr} {ta tb tc : TE} {pos : Pos}
theorem fin_bl {pins : List (Addr × Obj)} {σ : St} {H : Hp} {s : Shared} {Q : VK} {k k' : Bool} (I : Inv X pins σ H s) (q : Q (.bl k) H) (e : k = k') : EP X pins σ Q (.bool k') s := by
  subst e
  exact ⟨.bl k, H, I, rfl, q⟩
theorem op_eq : OpR X (compareOp .Eq) rEq := by
  intro pins s σ H x y v u Q I rx ry h
  obtain ⟨hs, q⟩ := h
  cases x with
  | non =>
    cases rx
    cases y with
    | non => cases ry; exact PySem.EqNone.eq_none_none (fin_bl I q (by simp))
    | bl j => cases ry; exact PySem.EqNone.eq_none_bool (fin_bl I q (by simp))
    | int j => obtain ⟨t', rfl⟩ := ry; exact PySem.EqNone.eq_none_int (fin_bl I q (by simp))
    | str j => obtain ⟨t', rfl⟩ := ry; exact PySem.EqNone.eq_none_str (fin_bl I q (by simp))
    | _ => exact absurd (show false = true from hs) Bool.false_ne_true
  | bl i =>
    cases rx
    cases y with
    | non => cases ry; exact PySem.EqNone.eq_bool_none (fin_bl I q (by simp))
    | bl j => cases ry; exact eq_bool (fin_bl I q dec_bl)
    | str j => obtain ⟨t', rfl⟩ := ry; exact PySem.EqMixed.eq_bool_str (fin_bl I q (by simp))
    | _ => exact absurd (show false = true from hs) Bool.false_ne_true
  | int i =>
    obtain ⟨t, rfl⟩ := rx
    cases y with
    | non => cases ry; exact PySem.EqNone.eq_int_none (fin_bl I q (by simp))
    | int j => obtain ⟨t', rfl⟩ := ry; exact eq_int (fin_bl I q dec_int)
    | str j => obtain ⟨t', rfl⟩ := ry; exact PySem.EqMixed.eq_int_str (fin_bl I q (by simp))
    | _ => exact absurd (show false = true from hs) Bool.false_ne_true
  | str i =>
    obtain ⟨t, rfl⟩ := rx
    cases y with
    | non => cases ry; exact PySem.EqNone.eq_str_none (fin_bl I q (by simp))
    | bl j => cases ry; exact PySem.EqMixed.eq_str_bool (fin_bl I q (by simp))
    | int j => obtain ⟨t', rfl⟩ := ry; exact PySem.EqMixed.eq_str_int (fin_bl I q (by simp))
    | str j => obtain ⟨t', rfl⟩ := ry; exact eq_str (fin_bl I q dec_str)
    | _ => exact absurd (show false = true from hs) Bool.false_ne_true
  | byt i =>
    obtain ⟨t, rfl⟩ := rx
    cases y with
    | byt j => obtain ⟨t', rfl⟩ := ry; exact PySem.W.eq_bytes (fin_bl I q dec_byt)
    | _ => exact absurd (show false = true from hs) Bool.false_ne_true
  | _ => cases y <;> exact absurd (show false = true from hs) Bool.false_ne_true
theorem op_ne : OpR X (compareOp .NotEq) rNe := by
  intro pins s σ H x y v u Q I rx ry h
  obtain ⟨hs, q⟩ := h
  cases x with
  | non =>
    cases rx
    cases y with
    | non => cases ry; exact PySem.EqNone.ne_none_none (fin_bl I q (by simp))
    | bl j => cases ry; exact PySem.EqNone.ne_none_bool (fin_bl I q (by simp))
    | int j => obtain ⟨t', rfl⟩ := ry; exact PySem.EqNone.ne_none_int (fin_bl I q (by simp))
    | str j => obtain ⟨t', rfl⟩ := ry; exact PySem.EqNone.ne_none_str (fin_bl I q (by simp))
    | _ => exact absurd (show false = true from hs) Bool.false_ne_true
  | bl i =>
    cases rx
    cases y with
    | non => cases ry; exact PySem.EqNone.ne_bool_none (fin_bl I q (by simp))
    | bl j => cases ry; exact ne_bool (fin_bl I q (congrArg not dec_bl))
    | str j => obtain ⟨t', rfl⟩ := ry; exact PySem.EqMixed.ne_bool_str (fin_bl I q (by simp))
    | _ => exact absurd (show false = true from hs) Bool.false_ne_true
  | int i =>
    obtain ⟨t, rfl⟩ := rx
    cases y with
    | non => cases ry; exact PySem.EqNone.ne_int_none (fin_bl I q (by simp))
    | int j => obtain ⟨t', rfl⟩ := ry; exact ne_int (fin_bl I q (congrArg not dec_int))
    | str j => obtain ⟨t', rfl⟩ := ry; exact PySem.EqMixed.ne_int_str (fin_bl I q (by simp))
    | _ => exact absurd (show false = true from hs) Bool.false_ne_true
  | str i =>
    obtain ⟨t, rfl⟩ := rx
    cases y with
    | non => cases ry; exact PySem.EqNone.ne_str_none (fin_bl I q (by simp))
    | bl j => cases ry; exact PySem.EqMixed.ne_str_bool (fin_bl I q (by simp))
    | int j => obtain ⟨t', rfl⟩ := ry; exact PySem.EqMixed.ne_str_int (fin_bl I q (by simp))
    | str j => obtain ⟨t', rfl⟩ := ry; exact ne_str (fin_bl I q (congrArg not dec_str))
    | _ => exact absurd (show false = true from hs) Bool.false_ne_true
  | byt i =>
    obtain ⟨t, rfl⟩ := rx
    cases y with
    | byt j => obtain ⟨t', rfl⟩ := ry; exact PySem.W.ne_bytes (fin_bl I q (congrArg not dec_byt))
    | _ => exact absurd (show false = true from hs) Bool.false_ne_true
  | _ => cases y <;> exact absurd (show false = true from hs) Bool.false_ne_true

theorem op_lt : OpR X (compareOp .Lt) (rI0 fun i j => .bl (decide (i < j))) := opB0 fun _ _ _ _ _ _ _ q => lt_int q
theorem op_le : OpR X (compareOp .LtE) (rI0 fun i j => .bl (decide (i ≤ j))) := opB0 fun _ _ _ _ _ _ _ q => le_int q
theorem op_gt : OpR X (compareOp .Gt) (rI0 fun i j => .bl (decide (j < i))) := opB0 fun _ _ _ _ _ _ _ q => gt_int q
theorem op_ge : OpR X (compareOp .GtE) (rI0 fun i j => .bl (decide (j ≤ i))) := opB0 fun _ _ _ _ _ _ _ q => ge_int q
def isObj : HO → Bool
  | .lst _ => true
  | .ins _ _ _ => true
  | _ => false
theorem nomark (b : Expr) {op : CmpOp} (h : op ≠ .In := by decide) (h2 : op ≠ .NotIn := by decide) : behindInMarks op b = false := by
  have e1 : (op == CmpOp.In) = false := by cases op <;> first | rfl | exact absurd rfl h
  have e2 : (op == CmpOp.NotIn) = false := by cases op <;> first | rfl | exact absurd rfl h2
  cases b <;> simp [behindInMarks, e1, e2]

theorem pe_cmpR {op : CmpOp} {r : R2} (ho : OpR X (compareOp op) r) (ha : PE X a ta) (hb : PE X b tb) (hm : behindInMarks op b = false) : PE X (.Compare a [op] [b] pos) (tOp r ta tb) := by
  intro pins s σ H Q I h
  exact wpAny_Compare1 (binT ha hb I h fun v u s2 x y H2 I2 rx ry q => ho pins s2 σ H2 x y v u Q I2 rx ry q) hm

def tTest (t : TE) : TT := fun σ H Q => t σ H fun x H' => ∃ k, x = .bl k ∧ Q k H'
theorem pt_cmpR {op : CmpOp} {r : R2} (ho : OpR X (compareOp op) r) (ha : PE X a ta) (hb : PE X b tb) (hm : behindInMarks op b = false) : PT X (.Compare a [op] [b] pos) (tTest (tOp r ta tb)) := by
  intro pins s σ H Q I h
  refine wpAny_isTrue_Compare1 (thn (ha pins s σ H _ I h) fun v s1 ⟨x, H1, I1, r1, q1⟩ => thn (hb pins s1 σ H1 _ I1 q1) fun u s2 ⟨y, H2, I2, r2, q2⟩ =>
    thn (ho pins s2 σ H2 x y v u _ I2 r1 r2 q2) fun c s3 ⟨z, H3, I3, r3, k, e, q3⟩ => ?_) hm
  subst e
  cases r3
  exact wpAny_truthy_bool ⟨H3, I3, q3⟩

def tChain (r r' : R2) (ta tb tc : TE) : TE := fun σ H Q => ta σ H fun x H1 => tb σ H1 fun y H2 => r x y H2 fun z H3 => ∃ k, z = .bl k ∧
  (if k = true then tc σ H3 fun w' H4 => r' y w' H4 Q else Q (.bl false) H3)
def TruV (K : PySem.W.Frag) (x : V) (H : Hp) (k : Bool) : Prop :=
  match x with
  | .non => k = false
  | .bl b => k = b
  | .int i => k = (i != 0)
  | .str y => y.length ≤ sizeLine ∧ k = ((y.length : Int) != 0)
  | .byt y => y.size ≤ sizeLine ∧ k = ((y.size : Int) != 0)
  | .ref p => (∃ xs, SqL K H p xs ∧ k = !xs.isEmpty) ∨ (∃ xs, SqT K H p xs ∧ k = !xs.isEmpty) ∨ ∃ kvs, H p = some (.dK kvs) ∧ k = !kvs.isEmpty
  | _ => False
theorem line63 : (sizeLine : Nat) < 2 ^ 63 := by rw [sizeLine_eq]; decide
def PlainIxT (b : Expr) : Prop := ∀ o i, subscripted b false o i = operate [o, i] (getItem o i)

theorem vals1 {x : V} {us : List Value} (r : Vals [x] us) : ∃ u, us = [u] ∧ RelV x u := by
  cases r with
  | cons r1 r2 => cases r2; exact ⟨_, rfl, r1⟩
theorem vals2 {x y : V} {us : List Value} (r : Vals [x, y] us) : ∃ u w', us = [u, w'] ∧ RelV x u ∧ RelV y w' := by
  cases r with
  | cons r1 r2 =>
    cases r2 with
    | cons r3 r4 => cases r4; exact ⟨_, _, rfl, r1, r3⟩
theorem call_max2 (hc : X.calm = true) : CallR X (.builtin "max") (fun xs H Q => ∃ i j, xs = [.int i, .int j] ∧ Q (.int (if j > i then j else i)) H) := by
  intro pins s σ H xs us Q I r h
  obtain ⟨i, j, rfl, q⟩ := h
  obtain ⟨u, w', rfl, ⟨t, rfl⟩, ⟨t', rfl⟩⟩ := vals2 r
  refine max_two_ints (I.ok.hd hc) fun h' tk k => ⟨_, H, I.kept k, ?_, q⟩
  by_cases hj : j > i
  · rw [if_pos hj, if_pos hj]; exact ⟨_, rfl⟩
  · rw [if_neg hj, if_neg hj]; exact ⟨_, rfl⟩
def LenV (K : PySem.W.Frag) (x : V) (H : Hp) (n : Nat) : Prop :=
  match x with
  | .str y => y.length ≤ sizeLine ∧ n = y.length
  | .byt y => y.size ≤ sizeLine ∧ n = y.size
  | .ref p => (∃ xs, SqL K H p xs ∧ n = xs.length) ∨ ∃ xs, SqT K H p xs ∧ n = xs.length
  | _ => False
end
end L2

namespace L2
open PySem PySem.Spec PyProof.Rows


structure ObjM (h : Heap) (x dx C : Addr) (mA : Str → Option Value) : Prop where
  obj : h.get? x = some (PySem.W.instObj C dx)
  ns : h.Ns1 dx mA
  ne : dx ≠ x

theorem lookIn_ns {h : Heap} {dx : Addr} {mA : Str → Option Value} (n : h.Ns1 dx mA) : ∃ od, h.get? dx = some od ∧ ∀ name, PySem.W.lookIn name od = some (mA name) := by
  obtain ⟨o, es, ep, ho, hd, hk, _, hm⟩ := n
  refine ⟨o, ho, fun name => ?_⟩
  have e := hm name
  unfold nsFind findBy at e
  rw [← Array.find?_toList] at e
  unfold PySem.W.lookIn
  rw [hd]
  dsimp only
  split
  · rename_i y q
    rw [q] at e
    exact congrArg some e
  · rename_i q
    rw [q] at e
    have a : es.toList.any (·.refKey) = false := by
      rw [List.any_eq_false]
      intro y hy
      obtain ⟨z, t, hkey⟩ := hk y (Array.mem_toList_iff.mp hy)
      simp [DictEntry.refKey, hkey]
    have a' : ¬ es.toList.any (·.refKey) = true := by rw [a]; exact Bool.false_ne_true
    rw [if_neg a']
    exact congrArg some e

theorem ObjM.look {h : Heap} {x dx C : Addr} {mA : Str → Option Value} (I : ObjM h x dx C mA) : ∃ od, PySem.W.InstAt h x (PySem.W.instObj C dx) C (some od) ∧ ∀ name, PySem.W.lookIn name od = some (mA name) :=
  let ⟨od, ho, hl⟩ := lookIn_ns I.ns
  ⟨od, ⟨I.obj, rfl, rfl, ho⟩, hl⟩

section
variable {prog : Program} {w : World} {A : Around} {E : Value → Shared → Prop} {s : Shared} {K : PySem.W.Frag} {x dx C f : Addr} {mA : Str → Option Value} {name : Str} {v : Value}

end


def putF (f : Str) (v : V) : List (Str × V) → List (Str × V)
  | [] => [(f, v)]
  | (g, x) :: r => if g = f then (g, v) :: r else (g, x) :: putF f v r
theorem RelO.some_of {v : V} {o : Option Value} (r : RelO (some v) o) : ∃ u, o = some u ∧ RelV v u := by
  cases o with
  | none => exact (show False from r).elim
  | some u => exact ⟨u, rfl, r⟩
theorem RelO.none_of {o : Option Value} (r : RelO none o) : o = none := by
  cases o with
  | none => rfl
  | some u => exact (show False from r).elim
section
variable {P : Program} {w : World} {H H' : Hp} {h h' : Heap} {a C dx : Addr} {fs fs' : List (Str × V)}
end


structure Cls (K : PySem.W.Frag) (C : Addr) : Prop where
  pg : PySem.W.plainGet K C Str.empty = true
  hd : PySem.W.hasDictIn K C = true
  po : PySem.W.plainOver K C = true
  sa : PySem.W.findIn K (.ref C) "__setattr__" = some (some (.builtin "object.__setattr__"))
theorem Cls.get {K : PySem.W.Frag} {C : Addr} (c : Cls K C) (f : Str) : PySem.W.plainGet K C f = true := c.pg

def NoAttr (K : PySem.W.Frag) (C : Addr) (f : Str) : Prop := PySem.W.findIn K (.ref C) f = some none
structure Con (K : PySem.W.Frag) (C : Addr) (f : Str) (v : V) (u : Value) : Prop where
  at_ : PySem.W.findIn K (.ref C) f = some (some u)
  rel : RelV v u
  get : PySem.W.specialIn K u "__get__" = some none
  cp : PySem.W.copiedNames.contains f = false

structure Meth (K : PySem.W.Frag) (C : Addr) (m : Str) (f : Addr) : Prop where
  at_ : PySem.W.findIn K (.ref C) m = some (some (.ref f))
  fn : PySem.W.isFn K (.ref f) = true
  kp : PySem.W.keepIn K (.ref f) = true

section
variable {X : Cx} {pins : List (Addr × Obj)} {σ : St} {H : Hp} {s : Shared} {a C dx : Addr} {fs : List (Str × V)} {f : Str} {v : V} {A : Around} {E : Value → Shared → Prop}

end



def tFld (K : PySem.W.Frag) (ta : TE) (f : Str) : TE := fun σ H Q => ta σ H fun x H1 => ∃ a C dx fs v, x = .ref a ∧ H1 a = some (.ins C dx fs) ∧ Cls K C ∧ NoAttr K C f ∧ fs.lookup f = some v ∧ Q v H1

def tCon (K : PySem.W.Frag) (ta : TE) (f : Str) : TE := fun σ H Q => ta σ H fun x H1 => ∃ a C dx fs v u, x = .ref a ∧ H1 a = some (.ins C dx fs) ∧ Cls K C ∧ Con K C f v u ∧ fs.lookup f = none ∧ Q v H1

def sFld (K : PySem.W.Frag) (ta tv : TE) (f : Str) : TS := fun D σ H => tv σ H fun y H1 => ta σ H1 fun x H2 => ∃ a C dx fs, x = .ref a ∧ H2 a = some (.ins C dx fs) ∧ Cls K C ∧ NoAttr K C f ∧ fs.length < 1000 ∧
  D.nx σ (upd H2 a (.ins C dx (putF f y fs)))

def InOp (X : Cx) (op : Operator) (rd : V → V → Hp → VK → Prop) : Prop :=
  ∀ (pins : List (Addr × Obj)) (s : Shared) (σ : St) (H : Hp) (x y : V) (u v : Value) (Q : VK), Inv X pins σ H s → RelV x u → RelV y v → rd x y H Q → wpAny (model X.prog X.w) X.A (inplaceOp op u v) (EP X pins σ Q) X.xe s

def sFldAug (K : PySem.W.Frag) (ta tv : TE) (rd : V → V → Hp → VK → Prop) (f : Str) : TS := fun D σ H => ta σ H fun x H1 => ∃ a C dx fs v, x = .ref a ∧ H1 a = some (.ins C dx fs) ∧ Cls K C ∧ NoAttr K C f ∧ fs.lookup f = some v ∧
  tv σ H1 fun y H2 => rd v y H2 fun z H3 => ∃ dx' fs', H3 a = some (.ins C dx' fs') ∧ fs'.length < 1000 ∧ D.nx σ (upd H3 a (.ins C dx' (putF f z fs')))

section
variable {X : Cx} {o e value : Expr} {f : Str} {pos pos' tpos : Pos} {ta tv : TE}
def rAdd : V → V → Hp → VK → Prop := fun x y H Q => ∃ i j, x = .int i ∧ y = .int j ∧ Q (.int (i + j)) H
def rSub : V → V → Hp → VK → Prop := fun x y H Q => ∃ i j, x = .int i ∧ y = .int j ∧ Q (.int (i - j)) H
end


section
variable {X : Cx} {pins : List (Addr × Obj)} {σ : St} {H : Hp} {s : Shared} {A : Around} {E : Value → Shared → Prop} {Q : Value → Shared → Prop} {c : Value} {b : Bool}

inductive TyOf (K : PySem.W.Frag) (H : Hp) : V → Value → Prop where
  | non : TyOf K H .non (.type "NoneType")
  | bl (x : Bool) : TyOf K H (.bl x) (.type "bool")
  | int (i : Int) : TyOf K H (.int i) (.type "int")
  | str (x : Str) : TyOf K H (.str x) (.type "str")
  | flt (x : UInt64) : TyOf K H (.flt x) (.type "float")
  | lst {a : Addr} {xs : List V} (e : H a = some (.lst xs)) : TyOf K H (.ref a) (.type "list")
  | frz {a : Addr} {o : Obj} {xs : List V} (e : H a = some (.frz o (.lst xs))) : TyOf K H (.ref a) (.type "list")
  | tup {a : Addr} {xs : List V} (e : H a = some (.tup xs)) : TyOf K H (.ref a) (.type "tuple")
  | dK {a : Addr} {kvs : List (Key × V)} (e : H a = some (.dK kvs)) : TyOf K H (.ref a) (.type "dict")
  | dT {a : Addr} {kvs : List (List Key × V)} (e : H a = some (.dT kvs)) : TyOf K H (.ref a) (.type "dict")
  | ins {a C dx : Addr} {fs : List (Str × V)} (e : H a = some (.ins C dx fs)) (cl : Cls K C) (ha : PySem.W.findIn K (.ref C) "__class__" = some (some (.builtin "object.__class__")))
      (hn : PySem.W.specialIn K (.builtin "object.__class__") "__get__" = some (some (.builtin "getset_descriptor.__get__"))) (htk : PySem.W.takesIn K (.builtin "object.__class__") = some true)
      (hm : PySem.W.mroIn K C (.type "object") = some true) : TyOf K H (.ref a) (.ref C)

end
end L2

namespace L2
open PySem PySem.Spec PyProof.Rows


structure Room (k : Nat) (A : Around) : Prop where
  hd : A.handled = none
  dp : A.depth + 3 * k + 5 < recursionLimit
  un : A.units + 16 * k + 200 < cLine
  gd : A.guards = some []
theorem Room.mono {j k : Nat} {A : Around} (r : Room k A) (h : j ≤ k) : Room j A := ⟨r.hd, by have := r.dp; omega, by have := r.un; omega, r.gd⟩
theorem Room.deeper {k : Nat} {A : Around} (r : Room (k + 1) A) (env : Env) : Room k (A.deeper env) :=
  ⟨r.hd, by have := r.dp; show A.depth + 1 + 3 * k + 5 < _; omega, by have := r.un; show A.units + 3 + 16 * k + 200 < _; omega, r.gd⟩
theorem Room.in1 {k : Nat} {A : Around} (r : Room (k + 1) A) : Room k A.in1 :=
  ⟨r.hd, by have := r.dp; show A.depth + 3 * k + 5 < _; omega, by have := r.un; show A.units + 1 + 16 * k + 200 < _; omega, r.gd⟩
theorem Room.depth {k : Nat} {A : Around} (r : Room k A) : A.depth < recursionLimit := by have := r.dp; omega
theorem Room.units {k : Nat} {A : Around} (r : Room k A) : A.units + 64 < cLine := by have := r.un; omega
def tNil : TA := fun _ H Q => Q [] H
def tCons (ta : TE) (tr : TA) : TA := fun σ H Q => ta σ H fun x H1 => tr σ H1 fun xs H2 => Q (x :: xs) H2
section
variable {X : Cx} {e : Expr} {es : List Expr} {te : TE} {t : TA} {pos : Pos}
theorem pa_nil : PA X [] tNil := fun _ _ _ _ H Q I h => Calls.spliced_nil ⟨[], H, I, .nil, h⟩
theorem pa_cons (ha : PE X e te) (hr : PA X es t) (hs : starEach (e :: es) X.env = (false, eval e X.env) :: starEach es X.env := by rfl) : PA X (e :: es) (tCons te t) := by
  intro pos pins s σ H Q I h
  rw [hs]
  show wpAny _ _ (spliced ((false, eval e X.env) :: backTo pos (starEach es X.env))) _ _ s
  refine Calls.spliced_cons (thn (ha pins s σ H _ I h) fun u s1 ⟨x, H1, I1, r1, q1⟩ => ?_)
  exact thn (hr pos pins s1 σ H1 _ I1 q1) fun us s2 ⟨xs, H2, I2, r2, q2⟩ => ⟨x :: xs, H2, I2, .cons r1 r2, q2⟩


def tTup (t : TA) : TE := fun σ H Q => t σ H fun xs H1 => xs.length ≤ sizeLine ∧ ∀ p, H1 p = none → Q (.ref p) (upd H1 p (.tup xs))
def tLst (t : TA) : TE := fun σ H Q => t σ H fun xs H1 => xs.length ≤ sizeLine ∧ ∀ p, H1 p = none → Q (.ref p) (upd H1 p (.lst xs))
theorem pe_tup {x1} (h : PA X es t) : PE X (.Tuple es x1 pos) (tTup t) := by
  intro pins s σ H Q I hq
  refine wpAny_Tuple_spliced (thn (h pos pins s σ H _ I hq) fun us s1 ⟨xs, H1, I1, r, z, q⟩ => ⟨by rw [← r.length]; exact z, ?_⟩)
  have hf : H1 s1.heap.objs.size = none := I1.hok.fresh (Nat.le_refl _)
  refine ⟨.ref s1.heap.objs.size, upd H1 s1.heap.objs.size (.tup xs), I1.laid (t' := s1.toks) (fun b u e => Heap.get?_push_of_some _ e) (Nat.le_refl _) ?_, rfl, q _ hf⟩
  exact ⟨z, us, r, ⟨_, Heap.get?_push_size _ rfl, rfl, rfl, _, rfl⟩⟩
theorem pe_lst (h : PA X es t) : PE X (.List es pos) (tLst t) := by
  intro pins s σ H Q I hq
  refine wpAny_List_spliced (thn (h pos pins s σ H _ I hq) fun us s1 ⟨xs, H1, I1, r, z, q⟩ => ⟨by rw [← r.length]; exact z, ?_⟩)
  have hf : H1 s1.heap.objs.size = none := I1.hok.fresh (Nat.le_refl _)
  refine ⟨.ref s1.heap.objs.size, upd H1 s1.heap.objs.size (.lst xs), I1.laid (t' := s1.toks) (fun b u e => Heap.get?_push_of_some _ e) (Nat.le_refl _) ?_, rfl, q _ hf⟩
  exact ⟨z, us, 0, r, Heap.get?_push_size _ rfl⟩
end



abbrev Sp := List V → Hp → VK → XK → Prop

abbrev CXT := List Env → Hp → Shared → XK → Value → Shared → Prop


structure Env0 (P : Program) (w : World) (K : PySem.W.Frag) (mg : Str → Option Value) (base : Heap) (A : Around) (outer : List Env) (s : Shared) (H : Hp) : Prop where
  frames : A.frames = some outer
  mod : Mod K mg base
  bs : ∀ b o, base.get? b = some o → s.heap.get? b = some o ∧ H b = none
  bsz : base.objs.size ≤ s.heap.objs.size
  funs : s.heap.FunFrames base outer
  frf : ∀ b ∈ frs outer, H b = none
  hok : HOk P w H s.heap
  bare : AllBare s.gens

def CE (outer : List Env) (P : Program) (w : World) (H : Hp) (s : Shared) (Q : VK) (u : Value) (s' : Shared) : Prop :=
  ∃ v H', s'.os = s.os ∧ AllBare s'.gens ∧ Un (frs outer) [] H H' s.heap s'.heap ∧ HOk P w H' s'.heap ∧ RelV v u ∧ Q v H'
def CR (CX : CXT) (outer : List Env) (P : Program) (w : World) (H : Hp) (s : Shared) (Q : VK) (E : XK) (r : Result) (s' : Shared) : Prop :=
  match r with
  | .ok (.ret u) => CE outer P w H s Q u s'
  | .ok _ => False
  | .error e => CX outer H s E e s'
structure FnOk (P : Program) (w : World) (K : PySem.W.Frag) (mg : Str → Option Value) (base : Heap) (CX : CXT) (k : Nat) (f : Addr) (fd : FuncData) (ps : List Str) (sp : Sp) : Prop where
  len : ∀ vs H Q E, sp vs H Q E → vs.length = ps.length
  run : ∀ (A : Around) (outer : List Env) (s : Shared) (H : Hp) (args : Args) (us : List Value) (vs : List V) (Q : VK) (E : XK), Room k A → Env0 P w K mg base A outer s H → BindsTo s fd args (ps.zip us) → Vals vs us → sp vs H Q E →
    codeAny (model P w) A (.call (.ref f) args) (CR CX outer P w H s Q E) s
theorem FnOk.mono {P : Program} {w : World} {K : PySem.W.Frag} {mg : Str → Option Value} {base : Heap} {CX : CXT} {j k : Nat} {f : Addr} {fd : FuncData} {ps : List Str} {sp : Sp} (F : FnOk P w K mg base CX j f fd ps sp) (h : j ≤ k) :
    FnOk P w K mg base CX k f fd ps sp := ⟨F.len, fun A outer s H args us vs Q E hr => F.run A outer s H args us vs Q E (hr.mono h)⟩

theorem FnOk.imp {P : Program} {w : World} {K : PySem.W.Frag} {mg : Str → Option Value} {base : Heap} {CX : CXT} {k : Nat} {f : Addr} {fd : FuncData} {ps : List Str} {sp sp' : Sp} (F : FnOk P w K mg base CX k f fd ps sp)
    (h : ∀ vs H Q E, sp' vs H Q E → sp vs H Q E) : FnOk P w K mg base CX k f fd ps sp' :=
  ⟨fun vs H Q E q => F.len vs H Q E (h _ _ _ _ q), fun A outer s H args us vs Q E hr he hb hv hs => F.run A outer s H args us vs Q E hr he hb hv (h _ _ _ _ hs)⟩

theorem Env0.in1 {P : Program} {w : World} {K : PySem.W.Frag} {mg : Str → Option Value} {base : Heap} {A : Around} {outer : List Env} {s : Shared} {H : Hp} (e : Env0 P w K mg base A outer s H) :
    Env0 P w K mg base A.in1 outer s H := ⟨e.frames, e.mod, e.bs, e.bsz, e.funs, e.frf, e.hok, e.bare⟩

section
variable {X : Cx} {pins : List (Addr × Obj)} {σ : St} {H : Hp} {s s' : Shared}

theorem Inv.env0 (I : Inv X pins σ H s) : Env0 X.prog X.w X.K X.mg X.base X.A X.stack s H :=
  ⟨I.ok.frames, I.ok.mod, I.bs, Nat.le_trans I.ok.bsz I.sz, I.stack, I.stkFree, I.hok, I.bare⟩

theorem Inv.after {Q : VK} {u : Value} (I : Inv X pins σ H s) (h : CE X.stack X.prog X.w H s Q u s') : EP X pins σ Q u s' := by
  obtain ⟨v, H', os, bare, un, hok, r, q⟩ := h
  obtain ⟨hh, g, d, t, os'⟩ := s'
  obtain rfl : os' = s.os := os
  exact ⟨v, H', I.call (h' := hh) (g' := g) (d' := d) (t' := t) (ch := []) un hok bare (fun b z => absurd z (by simp)), r, q⟩
end



def tCall (sp : Sp) (dvs : List V) (E : XK) (t : TA) : TE := fun σ H Q => t σ H fun vs H1 => sp (vs ++ dvs) H1 Q E

def tMeth (C : Addr) (m : Str) (sp : Sp) (dvs : List V) (E : XK) (ta : TE) (t : TA) : TE := fun σ H Q => ta σ H fun x H1 => ∃ a dx fs, x = .ref a ∧ H1 a = some (.ins C dx fs) ∧ fs.lookup m = none ∧
  t σ H1 fun vs H2 => sp (x :: (vs ++ dvs)) H2 Q E

def tMake (C : Addr) (sp : Sp) (dvs : List V) (E : XK) (t : TA) : TE := fun σ H Q => t σ H fun vs H1 => ∀ x dx, H1 x = none → H1 dx = none → dx ≠ x →
  sp (.ref x :: (vs ++ dvs)) (upd (upd H1 dx (.own x)) x (.ins C dx [])) (fun v H2 => v = .non ∧ Q (.ref x) H2) E


def Binds (K : PySem.W.Frag) (fd : FuncData) (ps : List Str) (ds : List Value) : Prop :=
  ∀ (s : Shared) (us : List Value), K.In s.heap → (us ++ ds).length = ps.length → BindsTo s fd ⟨us, []⟩ (ps.zip (us ++ ds))

theorem Binds.all {K : PySem.W.Frag} {fd : FuncData} {ps : List Str} (h : ∀ us : List Value, us.length = ps.length → bindArgs fd ⟨us, []⟩ = pure (ps.zip us)) : Binds K fd ps [] := fun s us _ hl => by
  rw [List.append_nil] at hl ⊢
  exact .of_eq (h us hl)


def Passes (CX : CXT) (X : Cx) (E : XK) : Prop := ∀ (pins : List (Addr × Obj)) (σ : St) (H : Hp) (s : Shared) (e : Value) (s' : Shared), Inv X pins σ H s → CX X.stack H s E e s' → X.xe e s'

section
variable {X : Cx} {CX : CXT} {k : Nat} {f C : Addr} {fd : FuncData} {ps : List Str} {sp : Sp} {dvs : List V} {ds : List Value} {E : XK} {x m : Str} {p pos apos : Pos} {e o : Expr} {es : List Expr} {ta : TE} {t : TA}


theorem run_fn {pins : List (Addr × Obj)} {σ : St} {H : Hp} {s : Shared} {Q : VK} {us : List Value} {vs : List V} (F : FnOk X.prog X.w X.K X.mg X.base CX k f fd ps sp) (hr : Room k X.A) (hb : Binds X.K fd ps ds) (hd : Vals dvs ds) (hx : Passes CX X E)
    (I : Inv X pins σ H s) (r : Vals vs us) (h : sp (vs ++ dvs) H Q E) : wpAny (model X.prog X.w) X.A (call (.ref f) us) (EP X pins σ Q) X.xe s := by
  have r2 : Vals (vs ++ dvs) (us ++ ds) := r.append hd
  have hl : (us ++ ds).length = ps.length := by rw [← r2.length]; exact F.len _ _ _ _ h
  refine wpAny_call (codeAny_mono (F.run X.A X.stack s H ⟨us, []⟩ (us ++ ds) (vs ++ dvs) Q E hr I.env0 (hb s us I.kIn hl) r2 h) fun r s' hq => ?_)
  cases r with
  | error e => exact hx pins σ H s e s' I hq
  | ok fl =>
    cases fl with
    | ret u => exact I.after hq
    | next => exact False.elim hq
    | brk => exact False.elim hq
    | cont => exact False.elim hq

theorem pe_call (F : FnOk X.prog X.w X.K X.mg X.base CX k f fd ps sp) (hr : Room k X.A) (hg : Gl X x) (hm : X.mg x = some (.ref f)) (hk : PySem.W.keepIn X.K (.ref f) = true) (hb : Binds X.K fd ps ds) (hd : Vals dvs ds) (hx : Passes CX X E)
    (ha : PA X (e :: es) t) (hdb : (x == ("__debug__" : Str)) = false := by decide) (he : starEach (e :: es) X.env = (false, eval e X.env) :: starEach es X.env := by rfl) (hpl : (backTo pos (starEach es X.env)).any (·.1) = false := by rfl) :
    PE X (.Call (.Name x p) (e :: es) [] pos) (tCall sp dvs E t) := by
  intro pins s σ H Q I h
  refine wpAny_Call_Name_kw (ld_glob I hg hm ?_ hdb)
  refine PySem.W.callWith_K (h₀ := X.base) I.ok.mod.kin hk (thn (ha pos pins s σ H _ I h) fun us s1 ⟨vs, H1, I1, r, q⟩ => ⟨I1.kIn, ?_⟩) he hpl
  exact run_fn F hr hb hd hx I1 r q
structure Mk (K : PySem.W.Frag) (C f : Addr) : Prop where
  makes : PySem.W.makesIn K C = true
  init : PySem.W.findIn K (.ref C) "__init__" = some (some (.ref f))
  fn : PySem.W.isFn K (.ref f) = true
  kp : PySem.W.keepIn K (.ref C) = true

end



def PK (X : Cx) (kws : List Keyword) (t : TA) : Prop :=
  ∀ (pos : Pos) (pins : List (Addr × Obj)) (s : Shared) (σ : St) (H : Hp) (Q : List V → Hp → Prop), Inv X pins σ H s → t σ H Q → wpAny (model X.prog X.w) X.A (evalAll ((backToKw pos (keywordEach kws X.env)).map (·.2))) (AP X pins σ Q) X.xe s
section
variable {X : Cx} {CX : CXT} {k : Nat} {f C : Addr} {fd : FuncData} {ps ks : List Str} {sp : Sp} {E : XK} {x m : Str} {p pos apos kpos : Pos} {e o : Expr} {es : List Expr} {kws : List Keyword} {te ta : TE} {t tk : TA} {nm : Option Str}
structure KBinds (K : PySem.W.Frag) (fd : FuncData) (ps ks : List Str) (g : List Value → List Value → List Value) (gV : List V → List V → List V) : Prop where
  to : ∀ (s : Shared) (us ws : List Value), K.In s.heap → (g us ws).length = ps.length → BindsTo s fd ⟨us, ks.zip ws⟩ (ps.zip (g us ws))
  rel : ∀ {vs : List V} {us : List Value} {zs : List V} {ws : List Value}, Vals vs us → Vals zs ws → Vals (gV vs zs) (g us ws)
def tCallK (sp : Sp) (gV : List V → List V → List V) (E : XK) (t tk : TA) : TE := fun σ H Q => t σ H fun vs H1 => tk σ H1 fun zs H2 => sp (gV vs zs) H2 Q E
variable {g : List Value → List Value → List Value} {gV : List V → List V → List V}
end



structure FnScope (N P : List Str) (sc : Scope) : Prop where
  kind : sc.kind = .function
  co : sc.isCoroutine = false
  gen : sc.isGenerator = false
  nd : N.Nodup
  pre : N.take P.length = P
  par : ∀ x ∈ P, sc.names.lookup x = some .local ∨ sc.names.lookup x = some .cell
  nofree : ∀ y ∈ sc.names, y.2 ≠ .free

theorem bindL_out {kindOf : Str → Option NameKind} {x : Str} : ∀ {binds : List (Str × Value)} {m : Str → Option Value}, (∀ v, (x, v) ∉ binds) → bindL kindOf binds m x = m x
  | [], _, _ => rfl
  | (n, v) :: r, m, h => by
    unfold bindL
    rw [bindL_out fun w hw => h w (List.mem_cons_of_mem _ hw)]
    split
    · have : x ≠ n := by rintro rfl; exact h v List.mem_cons_self
      simp [this]
    · rfl
theorem bindC_out {kindOf : Str → Option NameKind} {x : Str} : ∀ {binds : List (Str × Value)} {m : Str → Option Value}, (∀ v, (x, v) ∉ binds) → bindC kindOf binds m x = m x
  | [], _, _ => rfl
  | (n, v) :: r, m, h => by
    unfold bindC
    rw [bindC_out fun w hw => h w (List.mem_cons_of_mem _ hw)]
    split
    · rfl
    · have : x ≠ n := by rintro rfl; exact h v List.mem_cons_self
      simp [this]
theorem bindL_get {kindOf : Str → Option NameKind} {x : Str} {v : Value} : ∀ {P : List Str} {vs : List Value} {i : Nat} {m : Str → Option Value}, P.Nodup → P[i]? = some x → vs[i]? = some v → kindOf x = some .local →
    bindL kindOf (P.zip vs) m x = some v
  | [], _, _, _, _, h, _, _ => by simp at h
  | _ :: _, [], _, _, _, _, h, _ => by simp at h
  | p :: P, w :: vs, 0, m, nd, h1, h2, hk => by
    simp at h1 h2; subst h1; subst h2
    show bindL kindOf ((p, w) :: P.zip vs) m p = _
    unfold bindL
    rw [bindL_out fun v hv => (List.nodup_cons.mp nd).1 (List.of_mem_zip hv).1, if_pos hk]
    simp
  | p :: P, w :: vs, i + 1, m, nd, h1, h2, hk => by
    show bindL kindOf ((p, w) :: P.zip vs) m x = _
    unfold bindL
    exact bindL_get (i := i) (List.nodup_cons.mp nd).2 (by simpa using h1) (by simpa using h2) hk
theorem bindC_get {kindOf : Str → Option NameKind} {x : Str} {v : Value} : ∀ {P : List Str} {vs : List Value} {i : Nat} {m : Str → Option Value}, P.Nodup → P[i]? = some x → vs[i]? = some v → kindOf x ≠ some .local →
    bindC kindOf (P.zip vs) m x = some v
  | [], _, _, _, _, h, _, _ => by simp at h
  | _ :: _, [], _, _, _, _, h, _ => by simp at h
  | p :: P, w :: vs, 0, m, nd, h1, h2, hk => by
    simp at h1 h2; subst h1; subst h2
    show bindC kindOf ((p, w) :: P.zip vs) m p = _
    unfold bindC
    rw [bindC_out fun v hv => (List.nodup_cons.mp nd).1 (List.of_mem_zip hv).1, if_neg hk]
    simp
  | p :: P, w :: vs, i + 1, m, nd, h1, h2, hk => by
    show bindC kindOf ((p, w) :: P.zip vs) m x = _
    unfold bindC
    exact bindC_get (i := i) (List.nodup_cons.mp nd).2 (by simpa using h1) (by simpa using h2) hk


def start (N : List Str) (vs : List V) : St := vs.map some ++ List.replicate (N.length - vs.length) none


def cxOf (CX : CXT) (P : Program) (w : World) (K : PySem.W.Frag) (mg : Str → Option Value) (base : Heap) (N : List Str) (qual : Str) (scope : Scope) (f : Addr) (cd : Value) (A : Around) (outer : List Env) (s : Shared) (H : Hp) (E : XK) : Cx where
  prog := P
  w := w
  K := K
  mg := mg
  base := base
  A := A.deeper (envOfC qual scope s.heap.objs.size f cd)
  N := N
  s₀ := s
  H₀ := H
  env := envOfC qual scope s.heap.objs.size f cd
  outer := outer
  stack := envOfC qual scope s.heap.objs.size f cd :: outer
  ex := []
  calm := true
  fn := fun _ => true
  pn := []
  xe := fun e s' => wpAny (model P w) (A.deeper (envOfC qual scope s.heap.objs.size f cd)) (leaving (envOfC qual scope s.heap.objs.size f cd) e) (fun _ s'' => CX outer H s E e s'') (fun e' s'' => CX outer H s E e' s'') s'

theorem cell_has {sc : Scope} {n : Nat} {x : Str} (h : sc.names.lookup x = some .cell) : ∃ c, (cellsFrom n sc.names []).lookup x = some c := by
  have q := PySem.W.cellsFrom_some sc.names n [] (.inl h)
  exact Option.isSome_iff_exists.mp q

theorem inv_start {CX : CXT} {P : Program} {w : World} {K : PySem.W.Frag} {mg : Str → Option Value} {base : Heap} {N ps : List Str} {qual : Str} {scope : Scope} {f : Addr} {cd : Value} {A : Around} {outer : List Env} {s s1 : Shared} {H : Hp} {E : XK} {us : List Value} {vs : List V}
    (S : FnScope N ps scope) (hd : A.handled = none) (e0 : Env0 P w K mg base A outer s H) (hl : vs.length = ps.length) (r : Vals vs us)
    (x : InCallC s s.heap.objs.size (bindL (envOfC qual scope s.heap.objs.size f cd).kindOf (ps.zip us) fun _ => none) (cellsFrom (s.heap.objs.size + 1) scope.names []) (bindC (envOfC qual scope s.heap.objs.size f cd).kindOf (ps.zip us) fun _ => none) s1) :
    Inv (cxOf CX P w K mg base N qual scope f cd A outer s H E) [] (start N vs) H s1 := by
  have hpl : ps.length ≤ N.length := by have := congrArg List.length S.pre; rw [List.length_take] at this; omega
  obtain ⟨h1, tk, rfl, hk⟩ := x.done
  have noA : ∀ b : Addr, b ∉ (cxOf CX P w K mg base N qual scope f cd A outer s H E).ex := fun b z => absurd (show b ∈ ([] : List Addr) from z) (by simp)
  refine ⟨⟨e0.mod, S.kind, rfl, rfl, Nat.le_refl _, fun y z c h1 h2 => ?_, fun y hy => ?_, fun y c _ h => ?_, fun _ => hd, Around.frames_deeper e0.frames, .inr ⟨rfl, rfl⟩, fun b z => absurd z (noA b), e0.bs, e0.bsz, fun b _ _ => noA b, fun b z => absurd z (noA b), e0.funs, e0.frf⟩,
    rfl, e0.bare, Un.kept hk, ⟨_, x.toInCall.ns, fun i y v h1 h2 h3 => ?_⟩, fun y c h => ⟨_, x.cell y c h⟩, e0.hok.fresh (Nat.le_refl _), fun y c h => ?_, fun p hp => absurd (show p ∈ ([] : List (Addr × Obj)) from hp) (by simp), e0.hok.kept hk, ?_⟩
  · exact name_of_addr x.apart (PySem.mem_of_lookup h1) (PySem.mem_of_lookup h2)
  · have hy : scope.names.lookup y = some .cell ∨ scope.names.lookup y = some .free := hy
    rcases hy with hy | hy
    · exact cell_has hy
    · exact absurd rfl (S.nofree _ (PySem.mem_of_lookup hy))
  · exact Nat.le_of_lt (x.above y c (PySem.mem_of_lookup h))
  · have hi : i < vs.length := by
      unfold start at h2
      by_cases hi : i < vs.length
      · exact hi
      · rw [List.getElem?_append_right (by simpa using hi)] at h2
        rw [List.getElem?_replicate] at h2
        split at h2 <;> cases h2
    have ha : vs[i]? = some v := by
      unfold start at h2
      rw [List.getElem?_append_left (by simpa using hi), List.getElem?_map] at h2
      cases e : vs[i]? with
      | none => rw [e] at h2; cases h2
      | some a => rw [e] at h2; cases h2; rfl
    obtain ⟨u, hu, rv⟩ := r.get ha
    have hp : ps[i]? = some y := by
      rw [← S.pre, List.getElem?_take_of_lt (by omega)]; exact h1
    have ndP : ps.Nodup := by rw [← S.pre]; exact S.nd.sublist (List.take_sublist _ _)
    refine ⟨u, rv, ?_⟩
    rcases S.par y (List.mem_of_getElem? hp) with k | k
    · exact .inl ⟨k, bindL_get ndP hp hu k⟩
    · obtain ⟨c, e⟩ := cell_has (n := s.heap.objs.size + 1) k
      refine .inr ⟨.inl k, c, e, ?_⟩
      have q := x.cell y c e
      rw [bindC_get ndP hp hu (by show scope.names.lookup y ≠ _; rw [k]; decide)] at q
      exact q
  · exact e0.hok.fresh (Nat.le_of_lt (x.above y c (PySem.mem_of_lookup h)))
  · unfold start
    show _ = N.length
    rw [List.length_append, List.length_map, List.length_replicate]
    omega


theorem fn_of {CX : CXT} {P : Program} {w : World} {K : PySem.W.Frag} {mg : Str → Option Value} {base : Heap} {k : Nat} {f : Addr} {name qual : Str} {params : Arguments} {body : List Stmt} {scope : Scope} {dV kV doc pm cdv ct oc : Value} {an od : Option Addr}
    {osl : Array (Option Value)} {N ps : List Str} {sp : Sp} (lk : K.lookup f = some ⟨oc, od, .func (PySem.W.fnOf name qual params body scope dV kV doc pm an cdv ct), osl⟩) (hcd : PySem.W.codeIn K cdv qual = true) (S : FnScope N ps scope)
    (len : ∀ vs H Q E, sp vs H Q E → vs.length = ps.length)
    (hbody : ∀ (A : Around) (outer : List Env) (s : Shared) (H : Hp) (vs : List V) (Q : VK) (E : XK), Room k (A.deeper (envOfC qual scope s.heap.objs.size f cdv)) → sp vs H Q E →
      ∃ t, PSs (cxOf CX P w K mg base N qual scope f cdv A outer s H E) body t ∧ t { nx := fun _ H' => Q .non H', rt := Q } (start N vs) H) :
    FnOk P w K mg base CX (k + 1) f (PySem.W.fnOf name qual params body scope dV kV doc pm an cdv ct) ps sp := by
  refine ⟨len, fun A outer s H args us vs Q E hr e0 hb r hsp => ?_⟩
  have hl := len _ _ _ _ hsp
  have KX : K.In s.heap := e0.mod.kin.keeps fun b o e => (e0.bs b o e).1
  have lim : s.heap.NoLimit := e0.mod.nolimit.keeps fun b o e => (e0.bs b o e).1
  have hkind : ∀ y ∈ ps.zip us, scope.names.lookup y.1 = some .local ∨ (scope.names.lookup y.1 = some .cell ∧ ((cellsFrom (s.heap.objs.size + 1) scope.names []).lookup y.1).isSome = true) := fun ⟨n, v⟩ hy => by
    rcases S.par n (List.of_mem_zip hy).1 with q | q
    · exact .inl q
    · exact .inr ⟨q, PySem.W.cellsFrom_some _ _ _ (.inl q)⟩
  refine codeAny_call_function hr.depth (KX _ _ lk) rfl S.co S.gen rfl (PySem.W.codeRec_of KX hcd) (hb _ _ _ _ ?_)
  refine wpAny_newFunctionEnv_cells S.kind hkind fun env he s1 x => ?_
  subst he
  refine ⟨lim.keeps x.toInCall.keep, codeAny_func ?_⟩
  obtain ⟨t, ht, hq⟩ := hbody A outer s H vs Q E (hr.deeper _) hsp
  have I : Inv (cxOf CX P w K mg base N qual scope f cdv A outer s H E) [] (start N vs) H s1 := inv_start S hr.hd e0 hl r x
  refine wpAny_mono (ht [] s1 (start N vs) H _ I hq) (fun fl s' hs => ?_) fun e s' hs => hs
  have fin : ∀ {σ' : St} {H' : Hp} {v : V} {u : Value}, Inv (cxOf CX P w K mg base N qual scope f cdv A outer s H E) [] σ' H' s' → RelV v u → Q v H' → CE outer P w H s Q u s' :=
    fun {σ' H' v u} J rv q => ⟨v, H', J.os, J.bare, J.base, J.hok, rv, q⟩
  cases fl with
  | ret u =>
    obtain ⟨v, σ', H', J, rv, q⟩ := hs
    exact fin J rv q
  | next =>
    obtain ⟨σ', H', J, q⟩ := hs
    exact fin (v := V.non) (u := Value.none) J rfl q
  | brk =>
    obtain ⟨_, _, _, q⟩ := hs
    exact False.elim q
  | cont =>
    obtain ⟨_, _, _, q⟩ := hs
    exact False.elim q
end L2

namespace L2
open PySem PySem.Spec PyProof.Rows
section
variable {X : Cx} {x : Str} {p pos : Pos} {e : Expr} {es : List Expr} {t : TA} {id T : String} {r : List V → Hp → VK → Prop}

def tCB (r : List V → Hp → VK → Prop) (t : TA) : TE := fun σ H Q => t σ H fun vs H1 => r vs H1 Q

theorem pe_callB (hc : CallR X (.builtin id) r) (hg : Gl X x) (hm : X.mg x = none) (hv : bootBuiltins x = some (.builtin id)) (ha : PA X (e :: es) t) (hn : x ≠ "__name__" := by decide) (hdb : (x == ("__debug__" : Str)) = false := by decide)
    (he : starEach (e :: es) X.env = (false, eval e X.env) :: starEach es X.env := by rfl) (hpl : (backTo pos (starEach es X.env)).any (·.1) = false := by rfl) : PE X (.Call (.Name x p) (e :: es) [] pos) (tCB r t) := by
  intro pins s σ H Q I h
  refine wpAny_Call_Name_kw (ld_blt I hg hm hv ?_ hn hdb)
  exact PyProof.Rows.callWith_builtin1 (thn (ha pos pins s σ H _ I h) fun us s1 ⟨vs, H1, I1, r1, q1⟩ => hc pins s1 σ H1 vs us Q I1 r1 q1) he hpl

theorem pe_callTy (hc : CallR X (.type T) r) (hg : Gl X x) (hm : X.mg x = none) (hv : bootBuiltins x = some (.type T)) (ha : PA X (e :: es) t) (hn : x ≠ "__name__" := by decide) (hdb : (x == ("__debug__" : Str)) = false := by decide)
    (he : starEach (e :: es) X.env = (false, eval e X.env) :: starEach es X.env := by rfl) (hpl : (backTo pos (starEach es X.env)).any (·.1) = false := by rfl) : PE X (.Call (.Name x p) (e :: es) [] pos) (tCB r t) := by
  intro pins s σ H Q I h
  refine wpAny_Call_Name_kw (ld_blt I hg hm hv ?_ hn hdb)
  exact PyProof.Rows.callWith_type1 (thn (ha pos pins s σ H _ I h) fun us s1 ⟨vs, H1, I1, r1, q1⟩ => hc pins s1 σ H1 vs us Q I1 r1 q1) he hpl

end
end L2

namespace HT
open PySem PyProof.Rows


def lexLt : List Int → List Int → Bool
  | [], [] => false
  | [], _ :: _ => true
  | _ :: _, [] => false
  | x :: xs, y :: ys => if x = y then lexLt xs ys else decide (x < y)
section
open PySem.SeqAt
open PySem.AutoSeq1 (wpAny_loadPart')
open PySem.MeetsSeq PySem.MeetsSeq2 PySem.MeetsSeq3

end

section
variable {prog : Program} {w : World} {A : Around} {E : Value → Shared → Prop} {s : Shared}

theorem cat_tup {t b : Addr} {vs ws : List Value} {Q : Value → Shared → Prop} (ht : IsTup s.heap t vs.toArray) (hb : IsTup s.heap b ws.toArray) (hv : vs ≠ [])
    (h1 : ws = [] → Q (.ref t) s) (h2 : ws ≠ [] → Q (.ref s.heap.objs.size) { s with heap := s.heap.push { cls := .type "tuple", data := .seq (vs ++ ws).toArray } })
    (hsz : vs.length + ws.length ≤ sizeLine) : wpAny (model prog w) A (binaryOp .Add (.ref t) (.ref b)) Q E s := by
  obtain ⟨⟨cls, dd, data, sl⟩, ho, hc, n, hd⟩ := id ht
  obtain ⟨⟨cls2, dd2, data2, sl2⟩, ho2, hc2, n2, hd2⟩ := id hb
  simp only at hc hd hc2 hd2
  subst hc hd hc2 hd2
  have e : vs.toArray ++ ws.toArray = (vs ++ ws).toArray := by simp
  by_cases hw : ws = []
  · exact concat_meets ⟨_, ho, rfl⟩ ⟨_, ho2, rfl⟩ noFill_tuple_add seq_tuple_add PySem.F.slot_tuple_add PySem.F.entry_tuple_add (PySem.F.args_tuple_add_2 _ _)
      (tuple_addW1 t b vs.toArray ws.toArray n n2 dd dd2 sl sl2 (by simpa using hv) (by simp [hw])) ⟨ho, ho2, h1 hw⟩
  · refine concat_meets ⟨_, ho, rfl⟩ ⟨_, ho2, rfl⟩ noFill_tuple_add seq_tuple_add PySem.F.slot_tuple_add PySem.F.entry_tuple_add (PySem.F.args_tuple_add_2 _ _)
      (tuple_addW2 t b vs.toArray ws.toArray n n2 dd dd2 sl sl2 (by simpa using hv) (by simpa using hw) (by rw [List.size_toArray, List.size_toArray]; exact hsz)) ⟨ho, ho2, ?_⟩
    rw [e]
    exact h2 hw



def sIx (n d : Nat) : Option Int → Nat
  | none => d
  | some v => if v < 0 then (v + (n : Int)).toNat else min v.toNat n
theorem sIx_none (n d : Nat) : sIx n d none = d := rfl
theorem sIx_nat (n d k : Nat) : sIx n d (some (k : Int)) = min k n := by
  show (if (k : Int) < 0 then ((k : Int) + (n : Int)).toNat else min (k : Int).toNat n) = min k n
  rw [if_neg (by omega), Int.toNat_natCast]
theorem sIx_le (n d : Nat) (hd : d ≤ n) (o : Option Int) : sIx n d o ≤ n := by
  cases o with
  | none => exact hd
  | some v =>
    show (if v < 0 then (v + (n : Int)).toNat else min v.toNat n) ≤ n
    by_cases hv : v < 0
    · rw [if_pos hv]; omega
    · rw [if_neg hv]; exact Nat.min_le_right _ _
theorem clip_eq (v : Int) (n d : Nat) : (if v < 0 then max (v + (n : Int)) 0 else min v (n : Int)) = ((sIx n d (some v) : Nat) : Int) := by
  show (if v < 0 then max (v + (n : Int)) 0 else min v (n : Int)) = (((if v < 0 then (v + (n : Int)).toNat else min v.toNat n) : Nat) : Int)
  by_cases hv : v < 0
  · simp only [if_pos hv]; omega
  · simp only [if_neg hv]; omega
theorem adjust_gen (lo hi : Option Int) (n : Nat) : Builtin.Slice.sliceAdjust lo hi 1 (n : Int) = (((sIx n 0 lo : Nat) : Int), ((sIx n n hi : Nat) : Int)) := by
  have h1 : ¬ ((1 : Int) < 0) := by omega
  unfold Builtin.Slice.sliceAdjust
  simp only [h1, if_false]
  refine Prod.ext ?_ ?_
  · cases lo with
    | none => rfl
    | some v => exact clip_eq v n 0
  · cases hi with
    | none => rfl
    | some v => exact clip_eq v n n
theorem places_gen (i j : Nat) : Builtin.Slice.slicePlaces (i : Int) (j : Int) 1 = j - i := by
  unfold Builtin.Slice.slicePlaces
  have h1 : (1 : Int) > 0 := by omega
  simp only [h1, if_true, Int.ediv_one]
  split <;> omega
theorem slicePart_ {v : Value} {o : Option Int} {Q : Option Int → Shared → Prop} (p : IsPart v o) (h : Q o s) : wpAny (model prog w) A (Builtin.Slice.slicePartIndex v) Q E s := by
  cases p with
  | none => exact slicePart_none h
  | int i t => exact slicePart_int h
theorem sliceApplied_gen {sl : Addr} {vl vu : Value} {lo hi : Option Int} {n : Nat} {Q : Int × Int × Nat → Shared → Prop} (hs : s.heap.IsSliceOf sl vl vu .none) (pl : IsPart vl lo) (pu : IsPart vu hi)
    (h : Q (((sIx n 0 lo : Nat) : Int), 1, sIx n n hi - sIx n 0 lo) s) : wpAny (model prog w) A (Builtin.Slice.sliceApplied (.ref sl) (pure (n : Int))) Q E s := by
  obtain ⟨os, hos, hcs, hds⟩ := id hs
  unfold Builtin.Slice.sliceApplied Builtin.Slice.sliceFields
  refine wpAny_bind (wpAny_bind (wpAny_field hos hds (x := vl) rfl (wpAny_bind (wpAny_field hos hds (x := vu) rfl (wpAny_bind (wpAny_field hos hds (x := .none) rfl (wpAny_pure ?_)))))))
  refine wpAny_bind (slicePart_none ?_)
  show wpAny _ _ (if ((1 : Int) == 0) = true then _ else _) _ _ s
  rw [if_neg (by decide)]
  refine wpAny_bind (slicePart_ pl (wpAny_bind (slicePart_ pu (wpAny_bind (wpAny_pure ?_)))))
  show wpAny _ _ (match Builtin.Slice.sliceAdjust lo hi 1 (n : Int) with | (lo, hi) => pure (lo, (1 : Int), Builtin.Slice.slicePlaces lo hi 1)) _ _ s
  rw [adjust_gen lo hi n]
  show wpAny _ _ (pure (((sIx n 0 lo : Nat) : Int), (1 : Int), Builtin.Slice.slicePlaces ((sIx n 0 lo : Nat) : Int) ((sIx n n hi : Nat) : Int) 1)) _ _ s
  rw [places_gen]
  exact wpAny_pure h
theorem pick_gen (xs : Array Value) (i k : Nat) : ((List.range k).filterMap fun (m : Nat) => xs[((i : Int) + (m : Int) * 1).toNat]?).toArray = ((xs.toList.drop i).take k).toArray := by
  have e : (fun (m : Nat) => xs[((i : Int) + (m : Int) * 1).toNat]?) = fun m => xs[i + m]? := by
    funext m
    have : ((i : Int) + (m : Int) * 1).toNat = i + m := by omega
    rw [this]
  rw [e]
  have := pick_run xs i k
  rw [List.filterMap_map] at this
  have e2 : ((fun x => xs[x]?) ∘ fun x => i + x) = fun m => xs[i + m]? := rfl
  rw [e2] at this
  rw [this]

theorem getItem_tuple_cut {t sl : Addr} {items : Array Value} {vl vu : Value} {lo hi : Option Int} {Q : Value → Shared → Prop} (ht : IsTup s.heap t items) (hs : s.heap.IsSliceOf sl vl vu .none) (pl : IsPart vl lo) (pu : IsPart vu hi)
    (hw : ¬ (sIx items.size 0 lo = 0 ∧ sIx items.size items.size hi = items.size))
    (h : Q (.ref s.heap.objs.size) { s with heap := s.heap.push { cls := .type "tuple", data := .seq ((items.toList.drop (sIx items.size 0 lo)).take (sIx items.size items.size hi - sIx items.size 0 lo)).toArray } })
    (hsz : items.size ≤ sizeLine) : wpAny (model prog w) A (getItem (.ref t) (.ref sl)) Q E s := by
  have htake : sizeOk (.seq ((items.toList.drop (sIx items.size 0 lo)).take (sIx items.size items.size hi - sIx items.size 0 lo)).toArray) := by
    show ((items.toList.drop (sIx items.size 0 lo)).take (sIx items.size items.size hi - sIx items.size 0 lo)).toArray.size ≤ sizeLine
    rw [List.size_toArray, List.length_take, List.length_drop, Array.length_toList]
    omega
  have hj : sIx items.size items.size hi ≤ items.size := sIx_le _ _ (Nat.le_refl _) hi
  obtain ⟨os, hos, hcs, hds⟩ := id hs
  have hTs : s.TypeIs (.ref sl) "slice" := ⟨os, hos, hcs⟩
  unfold getItem
  try with_reducible refine wpAny_holding ?_
  first | refine wpAny_bind (wpAny_pure ?_) | skip
  refine wpAny_bind (wpAny_sequenceKey ht.typeIs (by decide) ?_)
  refine wpAny_bind (wpAny_callSpecial?_slot (name := Str.ofString "__getitem__") ht.typeIs PyProof.Rows.slot_tuple_getitem
    (wpAny_call_entry PyProof.Rows.slot_tuple_getitem ht.typeIs entry_tuple_getitem ?_ (args_tuple_getitem _ _)))
  show wpAny _ _ (Builtin.Tuple.tupleItemsOf (.ref t) >>= _) _ _ s
  refine wpAny_bind (tupleItemsOf_ ht ?_)
  refine wpAny_bind (wpAny_typeOf hTs ?_)
  rw [if_pos (by decide)]
  refine wpAny_bind (sliceApplied_gen hs pl pu ?_)
  have hno : ¬ ((((sIx items.size 0 lo : Nat) : Int) == 0 && (1 : Int) == 1 && (sIx items.size items.size hi - sIx items.size 0 lo) == items.size) = true) := by
    intro q
    rw [Bool.and_eq_true, Bool.and_eq_true] at q
    have q1 : ((sIx items.size 0 lo : Nat) : Int) = 0 := eq_of_beq q.1.1
    have q2 : sIx items.size items.size hi - sIx items.size 0 lo = items.size := eq_of_beq q.2
    exact hw ⟨by omega, by omega⟩
  show wpAny _ _ (if (((sIx items.size 0 lo : Nat) : Int) == 0 && (1 : Int) == 1 && (sIx items.size items.size hi - sIx items.size 0 lo) == items.size) = true then _ else _) _ _ s
  rw [if_neg hno, pick_gen]
  first
    | exact wpAny_bind (m := Builtin.Tuple.tupleExact _) (wpAny_newObj_type (wpAny_pure ⟨_, rfl, wpAny_pure h⟩) htake)
    | exact wpAny_bind (m := Builtin.Tuple.tupleExact _) (wpAny_newObj_type (wpAny_bind (wpAny_pure (wpAny_pure ⟨_, rfl, wpAny_pure h⟩))) htake)
    | exact wpAny_bind (wpAny_bind (m := Builtin.Tuple.tupleExact _) (wpAny_newObj_type (wpAny_pure (wpAny_pure ⟨_, rfl, wpAny_pure h⟩)) htake))
    | exact wpAny_bind (wpAny_bind (m := Builtin.Tuple.tupleExact _) (wpAny_newObj_type (wpAny_pure ⟨_, rfl, wpAny_pure h⟩) htake))
end
end HT

namespace L2
open PySem PySem.Spec PyProof.Rows


abbrev TO := St → Hp → (Option Int → Hp → Prop) → Prop

def PO (X : Cx) (e : Option Expr) (t : TO) : Prop :=
  ∀ (pins : List (Addr × Obj)) (s : Shared) (σ : St) (H : Hp) (Q : Option Int → Hp → Prop), Inv X pins σ H s → t σ H Q →
    wpAny (model X.prog X.w) X.A (evalPart e X.env) (fun u s' => ∃ o H', Inv X pins σ H' s' ∧ IsPart u o ∧ Q o H') X.xe s
def tNoPart : TO := fun _ H Q => Q none H
def tPart (t : TE) : TO := fun σ H Q => t σ H fun x H1 => ∃ i, x = .int i ∧ Q (some i) H1

section
variable {X : Cx} {e : Expr} {te : TE} {lo hi : Option Expr} {tl th : TO} {pos p2 : Pos}

theorem po_none : PO X none tNoPart := by
  intro pins s σ H Q I h
  rw [evalPart_none]
  exact wpAny_pure ⟨none, H, I, .none, h⟩
theorem po_some (h : PE X e te) : PO X (some e) (tPart te) := by
  intro pins s σ H Q I hw
  rw [evalPart_some]
  refine thn (h pins s σ H _ I hw) fun u s1 ⟨x, H1, I1, r1, q1⟩ => ?_
  obtain ⟨i, rfl, q⟩ := q1
  obtain ⟨t, rfl⟩ := r1
  exact ⟨some i, H1, I1, .int i t, q⟩


def SlR (X : Cx) (r : V → Option Int → Option Int → Hp → VK → Prop) : Prop :=
  ∀ (pins : List (Addr × Obj)) (s : Shared) (σ : St) (H : Hp) (x : V) (v vl vu : Value) (lo hi : Option Int) (sl : Addr) (Q : VK), Inv X pins σ H s → RelV x v → s.heap.IsSliceOf sl vl vu .none → IsPart vl lo → IsPart vu hi → r x lo hi H Q →
    ∃ T id, typeLookup (.type T) "__getitem__" = pure (some (.builtin id)) ∧ s.TypeIs v T ∧ wpAny (model X.prog X.w) X.A (getItem v (.ref sl)) (EP X pins σ Q) X.xe s
def tSl (r : V → Option Int → Option Int → Hp → VK → Prop) (te : TE) (tl th : TO) : TE := fun σ H Q => te σ H fun x H1 => tl σ H1 fun l H2 => th σ H2 fun u H3 => r x l u H3 Q

theorem pe_slice {r : V → Option Int → Option Int → Hp → VK → Prop} (hr : SlR X r) (he : PE X e te) (hl : PO X lo tl) (hu : PO X hi th) : PE X (.Subscript e (.Slice lo hi none p2) pos) (tSl r te tl th) := by
  intro pins s σ H Q I h
  refine Subscript_ (thn (he pins s σ H _ I h) fun v s1 ⟨x, H1, I1, r1, q1⟩ => ?_)
  refine wpAny_Slice (thn (hl pins s1 σ H1 _ I1 q1) fun vl s2 ⟨l, H2, I2, pl, q2⟩ => thn (hu pins s2 σ H2 _ I2 q2) fun vu s3 ⟨u, H3, I3, pu, q3⟩ => ?_)
  rw [evalPart_none]
  refine wpAny_pure ?_
  have I4 : Inv X pins σ H3 { s3 with heap := s3.heap.push { cls := .type "slice", data := .fields #[vl, vu, .none] } } := I3.kept (t' := s3.toks) fun b ob q => Heap.get?_push_of_some _ q
  obtain ⟨T, id, hT, ht, hg⟩ := hr pins { s3 with heap := s3.heap.push { cls := .type "slice", data := .fields #[vl, vu, .none] } } σ H3 x v vl vu l u s3.heap.objs.size Q I4 r1 (Heap.IsSliceOf.new ..) pl pu q3
  show wpAny (model X.prog X.w) X.A (subscriptTail e (.Slice lo hi none p2) v (.ref s3.heap.objs.size)) (EP X pins σ Q) X.xe { s3 with heap := s3.heap.push { cls := .type "slice", data := .fields #[vl, vu, .none] } }
  exact tail_any (ops := [.ref s3.heap.objs.size, v]) ht hT hg (by with_unfolding_all rfl)


def cutV (xs : List V) (lo hi : Option Int) : List V := (xs.drop (HT.sIx xs.length 0 lo)).take (HT.sIx xs.length xs.length hi - HT.sIx xs.length 0 lo)
theorem cutV_length (xs : List V) (lo hi : Option Int) : (cutV xs lo hi).length ≤ xs.length := by
  unfold cutV
  rw [List.length_take, List.length_drop]
  omega

def rSlT (K : PySem.W.Frag) : V → Option Int → Option Int → Hp → VK → Prop := fun x lo hi H Q => ∃ a xs, x = .ref a ∧ SqT K H a xs ∧
  ¬ (HT.sIx xs.length 0 lo = 0 ∧ HT.sIx xs.length xs.length hi = xs.length) ∧ ∀ p, H p = none → Q (.ref p) (upd H p (.tup (cutV xs lo hi)))
theorem sl_tup : SlR X (rSlT X.K) := by
  intro pins s σ H x v vl vu lo hi sl Q I rx hs pl pu h
  obtain ⟨a, xs, rfl, hx, hw, q⟩ := h
  cases rx
  obtain ⟨its, r, ht, hz⟩ := I.tuple hx
  have hlen : its.toArray.size = xs.length := by rw [List.size_toArray]; exact r.length.symm
  refine ⟨"tuple", _, PyProof.Rows.slot_tuple_getitem.lookup, ht.typeIs, ?_⟩
  refine HT.getItem_tuple_cut ht hs pl pu (by rw [hlen]; exact hw) ?_ (by rw [hlen]; exact hz)
  rw [hlen]
  refine ⟨.ref s.heap.objs.size, _, I.laid (t' := s.toks) (o := .tup (cutV xs lo hi)) (fun b ob q => Heap.get?_push_of_some _ q) (Nat.le_refl _) ?_, rfl, q _ (I.hok.fresh (Nat.le_refl _))⟩
  exact ⟨Nat.le_trans (cutV_length xs lo hi) hz, _, (r.drop (HT.sIx xs.length 0 lo)).take (HT.sIx xs.length xs.length hi - HT.sIx xs.length 0 lo), IsTupN.new _ _⟩


def rLtT (K : PySem.W.Frag) : R2 := fun x y H Q => ∃ a b ns ms, x = .ref a ∧ y = .ref b ∧ SqT K H a (ns.map V.int) ∧ SqT K H b (ms.map V.int) ∧ Q (.bl (HT.lexLt ns ms)) H
def rCatT (K : PySem.W.Frag) : R2 := fun x y H Q => ∃ a b xs ys, x = .ref a ∧ y = .ref b ∧ SqT K H a xs ∧ SqT K H b ys ∧ xs ≠ [] ∧ xs.length + ys.length ≤ sizeLine ∧
  (ys = [] → Q (.ref a) H) ∧ (ys ≠ [] → ∀ p, H p = none → Q (.ref p) (upd H p (.tup (xs ++ ys))))
theorem Vals.nil_iff {xs : List V} {us : List Value} (r : Vals xs us) : us = [] ↔ xs = [] := by
  cases r with
  | nil => simp
  | cons _ _ => simp
theorem op_catT : OpR X (binaryOp .Add) (rCatT X.K) := by
  intro pins s σ H x y v u Q I rx ry h
  obtain ⟨a, b, xs, ys, rfl, rfl, ha, hb, hx, hz, q1, q2⟩ := h
  cases rx
  cases ry
  obtain ⟨its, r1, p1, _⟩ := I.tuple ha
  obtain ⟨its2, r2, p2, _⟩ := I.tuple hb
  refine HT.cat_tup p1 p2 (fun z => hx (r1.nil_iff.mp z)) (fun z => ⟨.ref a, H, I, rfl, q1 (r2.nil_iff.mp z)⟩) (fun z => ?_) (by rw [← r1.length, ← r2.length]; exact hz)
  refine ⟨.ref s.heap.objs.size, _, I.laid (t' := s.toks) (o := .tup (xs ++ ys)) (fun b ob q => Heap.get?_push_of_some _ q) (Nat.le_refl _) ?_, rfl, q2 (fun w => z (r2.nil_iff.mpr w)) _ (I.hok.fresh (Nat.le_refl _))⟩
  exact ⟨by rw [List.length_append]; exact hz, _, r1.append r2, IsTupN.new _ _⟩

end
end L2

namespace L2
open PySem PySem.Spec PyProof.Rows



def ixN (n : Nat) (i : Int) : Option Nat := if 0 ≤ i then (if i < n then some i.toNat else none) else if -(n : Int) ≤ i then some (i + n).toNat else none
def atI {α : Type} (xs : List α) (i : Int) : Option α := (ixN xs.length i).bind fun j => xs[j]?
theorem ixN_seq {n : Nat} {i : Int} {j : Nat} (h : ixN n i = some j) : seqIndex? i n = some j ∧ j < n ∧ -(n : Int) ≤ i ∧ i < n := by
  unfold ixN at h
  by_cases h0 : 0 ≤ i
  · rw [if_pos h0] at h
    by_cases h1 : i < n
    · rw [if_pos h1] at h
      have e : i.toNat = j := Option.some.inj h
      exact ⟨by rw [seqIndex_of h0 h1, e], by omega, by omega, h1⟩
    · rw [if_neg h1] at h; cases h
  · rw [if_neg h0] at h
    by_cases h1 : -(n : Int) ≤ i
    · rw [if_pos h1] at h
      have e : (i + n).toNat = j := Option.some.inj h
      exact ⟨by rw [seqIndex_neg (by omega) h1, e], by omega, h1, by omega⟩
    · rw [if_neg h1] at h; cases h
theorem atI_get {α : Type} {xs : List α} {i : Int} {v : α} (h : atI xs i = some v) : ∃ j, seqIndex? i xs.length = some j ∧ xs[j]? = some v ∧ j < xs.length ∧ -(xs.length : Int) ≤ i ∧ i < xs.length := by
  unfold atI at h
  cases e : ixN xs.length i with
  | none => rw [e] at h; cases h
  | some j =>
    rw [e] at h
    obtain ⟨h1, h2, h3, h4⟩ := ixN_seq e
    exact ⟨j, h1, h, h2, h3, h4⟩
theorem atI_nat {α : Type} {xs : List α} {j : Nat} {v : α} (h : xs[j]? = some v) : atI xs (j : Int) = some v := by
  have hj : j < xs.length := (List.getElem?_eq_some_iff.mp h).1
  have e : ixN xs.length (j : Int) = some j := by
    unfold ixN
    rw [if_pos (by omega), if_pos (by omega)]; simp
  unfold atI; rw [e]; exact h
def PlainIx (b : Expr) : Prop := ∀ o i, subscripted b false o i = operate [o, i] (getItem o i)

def IxR (X : Cx) (r : R2) : Prop :=
  ∀ (value slice : Expr) (pins : List (Addr × Obj)) (s : Shared) (σ : St) (H : Hp) (x y : V) (v u : Value) (Q : VK), Inv X pins σ H s → RelV x v → RelV y u → r x y H Q →
    subscripted slice false v u = operate [v, u] (getItem v u) → wpAny (model X.prog X.w) X.A (subscriptTail value slice v u) (EP X pins σ Q) X.xe s

def MtR (X : Cx) (id : String) (r : V → List V → Hp → VK → Prop) : Prop :=
  ∀ (pins : List (Addr × Obj)) (s : Shared) (σ : St) (H : Hp) (x : V) (xs : List V) (v : Value) (us : List Value) (Q : VK), Inv X pins σ H s → RelV x v → Vals xs us → r x xs H Q →
    wpAny (model X.prog X.w) X.A (call (.builtin id) (v :: us)) (EP X pins σ Q) X.xe s
section
variable {X : Cx} {a b : Expr} {ta tb : TE} {pos : Pos}
theorem pe_ix {r : R2} (hr : IxR X r) (ha : PE X a ta) (hb : PE X b tb) (hs : PlainIx b) : PE X (.Subscript a b pos) (tOp r ta tb) := by
  intro pins s σ H Q I h
  exact Subscript_ (binT ha hb I h fun v u s2 x y H2 I2 rx ry q => hr a b pins s2 σ H2 x y v u Q I2 rx ry q (hs _ _))

def rIxL (K : PySem.W.Frag) : R2 := fun x y H Q => ∃ p xs i v, x = .ref p ∧ y = .int i ∧ SqL K H p xs ∧ atI xs i = some v ∧ Q v H
def rIxT (K : PySem.W.Frag) : R2 := fun x y H Q => ∃ p xs i v, x = .ref p ∧ y = .int i ∧ SqT K H p xs ∧ atI xs i = some v ∧ Q v H
def rIxS : R2 := fun x y H Q => ∃ z i c, x = .str z ∧ y = .int i ∧ z.length ≤ sizeLine ∧ atI z.cps.toList i = some c ∧ Q (.str ⟨#[c]⟩) H
theorem ix_list : IxR X (rIxL X.K) := by
  intro value slice pins s σ H x y v u Q I rx ry h hs
  obtain ⟨p, xs, i, z, rfl, rfl, hq, he, q⟩ := h
  cases rx
  obtain ⟨t, rfl⟩ := ry
  obtain ⟨its, r, pl, hz⟩ := I.list hq
  obtain ⟨j, h1, h2, h3, h4, h5⟩ := atI_get he
  obtain ⟨w, ew, rw'⟩ := r.get h2
  have hl := r.length
  have hn := line63
  have fin : EP X pins σ Q w s := ⟨z, H, I, rw', q⟩
  by_cases h0 : 0 ≤ i
  · have hj : i.toNat = j := by
      rw [seqIndex_of h0 h5] at h1
      exact Option.some.inj h1
    exact item_listR pl.isList h0 (by omega) (by rw [hj]; simpa using ew) fin hs
  · have hj : (i + (its.toArray.size : Int)).toNat = j := by
      rw [seqIndex_neg (by omega) h4] at h1
      rw [List.size_toArray, ← hl]
      exact Option.some.inj h1
    exact subscriptTail_builtinR (x := w) pl.isList.typeIs slot_list_getitem.lookup
      (wpAny_getItem_list_neg (Q := fun r s' => r = w ∧ EP X pins σ Q r s') pl.isList (by omega) (by rw [List.size_toArray] <;> omega) (by omega) (by rw [hj]; simpa using ew) ⟨rfl, fin⟩) hs
theorem ix_tup : IxR X (rIxT X.K) := by
  intro value slice pins s σ H x y v u Q I rx ry h hs
  obtain ⟨p, xs, i, z, rfl, rfl, hq, he, q⟩ := h
  cases rx
  obtain ⟨t, rfl⟩ := ry
  obtain ⟨its, r, pl, hz⟩ := I.tuple hq
  obtain ⟨j, h1, h2, h3, h4, h5⟩ := atI_get he
  obtain ⟨w, ew, rw'⟩ := r.get h2
  have hl := r.length
  have hn := line63
  have fin : EP X pins σ Q w s := ⟨z, H, I, rw', q⟩
  exact subscriptTail_builtinR (x := w) pl.typeIs slot_tuple_getitem.lookup
    (getItem_tuple (j := j) (Q := fun r s' => r = w ∧ EP X pins σ Q r s') pl (by omega) (by omega) (by rw [List.size_toArray, ← hl]; exact h1) (by simpa using ew) ⟨rfl, fin⟩) hs
def rIx (K : PySem.W.Frag) : R2 := fun x y H Q => rIxL K x y H Q ∨ rIxT K x y H Q ∨ rIxS x y H Q
theorem Inv.lst {pins : List (Addr × Obj)} {σ : St} {H : Hp} {s : Shared} {p : Addr} {xs : List V} (I : Inv X pins σ H s) (h : H p = some (.lst xs)) :
    ∃ (its : List Value) (n : Nat), Vals xs its ∧ s.heap.get? p = some { cls := .type "list", data := .seq its.toArray n } ∧ xs.length ≤ sizeLine := by
  obtain ⟨z, its, n, r, e⟩ := I.hok p _ h
  exact ⟨its, n, r, e, z⟩

def rSetL : V → V → V → Hp → (Hp → Prop) → Prop := fun o i v H Q => ∃ p xs k j, o = .ref p ∧ i = .int k ∧ H p = some (.lst xs) ∧ ixN xs.length k = some j ∧ Q (upd H p (.lst (xs.set j v)))
theorem slice_bounds (lo hi : Option Int) (n : Nat) : (sliceBounds lo hi none n).1 = ((HT.sIx n 0 lo : Nat) : Int) ∧ (sliceBounds lo hi none n).2.1 = ((HT.sIx n n hi : Nat) : Int) ∧ (sliceBounds lo hi none n).2.2 = 1 := by
  refine ⟨?_, ?_, rfl⟩
  · cases lo with
    | none => simp [sliceBounds, HT.sIx]
    | some i =>
      simp only [sliceBounds, HT.sIx, Option.getD_none, show (1 : Int) > 0 by decide, if_true]
      by_cases h : i < 0
      · simp only [h, if_true] <;> omega
      · simp only [h, if_false] <;> omega
  · cases hi with
    | none => simp [sliceBounds, HT.sIx]
    | some i =>
      simp only [sliceBounds, HT.sIx, Option.getD_none, show (1 : Int) > 0 by decide, if_true]
      by_cases h : i < 0
      · simp only [h, if_true] <;> omega
      · simp only [h, if_false] <;> omega
theorem slicePick_cut (its : List Value) (lo hi : Option Int) : slicePick its.toArray lo hi none = ((its.drop (HT.sIx its.length 0 lo)).take (HT.sIx its.length its.length hi - HT.sIx its.length 0 lo)).toArray := by
  obtain ⟨h1, h2, h3⟩ := slice_bounds lo hi its.toArray.size
  unfold slicePick
  rw [h1, h2, h3]
  simp only [sliceRange_one, pick_run, List.size_toArray] <;> rfl

def rSlL (K : PySem.W.Frag) : V → Option Int → Option Int → Hp → VK → Prop := fun x lo hi H Q => ∃ a xs, x = .ref a ∧ SqL K H a xs ∧ ∀ p, H p = none → Q (.ref p) (upd H p (.lst (cutV xs lo hi)))
theorem sl_list : SlR X (rSlL X.K) := by
  intro pins s σ H x v vl vu lo hi sl Q I rx hs pl pu h
  obtain ⟨a, xs, rfl, hx, q⟩ := h
  cases rx
  obtain ⟨its, r, ht, hz⟩ := I.list hx
  have hlen := r.length
  refine ⟨"list", _, slot_list_getitem.lookup, ht.isList.typeIs, ?_⟩
  refine wpAny_getItem_list_slice ht.isList hs pl pu .none (by simp) ?_ (by rw [List.size_toArray] <;> omega)
  rw [slicePick_cut, ← hlen]
  refine ⟨.ref s.heap.objs.size, _, I.laid (t' := s.toks) (o := .lst (cutV xs lo hi)) (fun b ob q => Heap.get?_push_of_some _ q) (Nat.le_refl _) ?_, rfl, q _ (I.hok.fresh (Nat.le_refl _))⟩
  exact ⟨Nat.le_trans (cutV_length xs lo hi) hz, _, 0, (r.drop (HT.sIx xs.length 0 lo)).take (HT.sIx xs.length xs.length hi - HT.sIx xs.length 0 lo), Heap.get?_push_size _ rfl⟩


def flatV : V → Bool
  | .non => true
  | .bl _ => true
  | .int _ => true
  | .str _ => true
  | _ => false

def eqV : V → V → Bool
  | .non, .non => true
  | .bl a, .bl b => a == b
  | .bl a, .int b => (if a then 1 else 0) == b
  | .int a, .bl b => a == (if b then 1 else 0)
  | .int a, .int b => a == b
  | .str a, .str b => a == b
  | _, _ => false
def eqU (x : V) (u : Value) : Bool := match u with
  | .none => eqV .non x
  | .bool b => eqV (.bl b) x
  | .int i _ => eqV (.int i) x
  | .str z _ => eqV (.str z) x
  | _ => false
def inV (x : V) (xs : List V) : Bool := xs.any fun y => eqV y x

def rIn (K : PySem.W.Frag) (neg : Bool) : R2 := fun x y H Q => ∃ p xs, y = .ref p ∧ (SqL K H p xs ∨ SqT K H p xs) ∧ flatV x = true ∧ xs.all flatV = true ∧ Q (.bl (if neg then !inV x xs else inV x xs)) H
theorem call_len_seq : CallR X (.builtin "len") (fun xs H Q => ∃ p ys, xs = [.ref p] ∧ (SqL X.K H p ys ∨ SqT X.K H p ys) ∧ Q (.int ys.length) H) := by
  intro pins s σ H xs us Q I r h
  obtain ⟨p, ys, rfl, hq, q⟩ := h
  obtain ⟨u, rfl, rx⟩ := vals1 r
  cases rx
  have hn := line63
  rcases hq with hq | hq
  · obtain ⟨its, r', pl, hz⟩ := I.list hq
    have hlen := r'.length
    exact Calls.call_len_list pl.isList (by simp only [List.size_toArray] <;> omega) ⟨.int ys.length, H, I.tok _, ⟨s.toks + 1, by rw [List.size_toArray, hlen]⟩, q⟩
  · obtain ⟨its, r', pl, hz⟩ := I.tuple hq
    have hlen := r'.length
    exact len_tuple pl (by simp only [List.size_toArray] <;> omega) ⟨.int ys.length, H, I.tok _, ⟨s.toks + 1, by rw [List.size_toArray, hlen]⟩, q⟩
theorem call_list_of : CallR X (.type "list") (fun xs H Q => ∃ p ys, xs = [.ref p] ∧ (SqL X.K H p ys ∨ SqT X.K H p ys) ∧ ∀ l, H l = none → Q (.ref l) (upd H l (.lst ys))) := by
  intro pins s σ H xs us Q I r h
  obtain ⟨p, ys, rfl, hq, q⟩ := h
  obtain ⟨u, rfl, rx⟩ := vals1 r
  cases rx
  have fin : ∀ (its : List Value), Vals ys its → ys.length ≤ sizeLine → ∀ (h' : Heap) (c' : Nat), (∀ b o', s.heap.get? b = some o' → h'.get? b = some o') →
      h'.get? s.heap.objs.size = some { cls := .type "list", dict := none, data := .seq its.toArray c', slots := #[] } → EP X pins σ Q (.ref s.heap.objs.size) { s with heap := h' } := fun its r' hz h' c' kp e =>
    ⟨.ref s.heap.objs.size, _, I.laid (t' := s.toks) kp (Nat.le_refl _) (show ObjOk X.prog X.w _ h' _ (.lst ys) from ⟨hz, its, c', r', e⟩), rfl, q _ (I.hok.fresh (Nat.le_refl _))⟩
  rcases hq with hq | hq
  · obtain ⟨its, r', pl, hz⟩ := I.list hq
    have hlen := r'.length
    obtain ⟨o, ho, hc, n, hd⟩ := pl.isList
    exact call_list_seq p (.inl rfl) ho hc hd (fun h' c' kp e => fin its r' hz h' c' kp e) (by simp only [List.size_toArray] <;> omega)
  · obtain ⟨its, r', pl, hz⟩ := I.tuple hq
    have hlen := r'.length
    obtain ⟨o, ho, hc, n, hd⟩ := pl
    exact call_list_seq p (.inr rfl) ho hc hd (fun h' c' kp e => fin its r' hz h' c' kp e) (by simp only [List.size_toArray] <;> omega)
theorem call_tuple_of : CallR X (.type "tuple") (fun xs H Q => ∃ p ys, xs = [.ref p] ∧ ((SqL X.K H p ys ∧ ∀ l, H l = none → Q (.ref l) (upd H l (.tup ys))) ∨ (SqT X.K H p ys ∧ Q (.ref p) H))) := by
  intro pins s σ H xs us Q I r h
  obtain ⟨p, ys, rfl, h⟩ := h
  obtain ⟨u, rfl, rx⟩ := vals1 r
  cases rx
  rcases h with ⟨hq, q⟩ | ⟨hq, q⟩
  · obtain ⟨its, r', pl, hz⟩ := I.list hq
    have hlen := r'.length
    refine call_tuple_list pl.isList (fun h' kp => ?_) (by simp only [List.size_toArray] <;> omega)
    have I1 : Inv X pins σ H { s with heap := h' } := I.kept (t' := s.toks) kp
    have I2 : Inv X pins σ (upd H h'.objs.size (.tup ys)) { s with heap := h'.push { cls := .type "tuple", data := .seq its.toArray } } :=
      I1.laid (t' := s.toks) (fun b o e => Heap.get?_push_of_some _ e) (Nat.le_refl _) (show ObjOk X.prog X.w _ _ _ (.tup ys) from ⟨hz, its, r', IsTupN.new _ _⟩)
    exact ⟨.ref h'.objs.size, _, I2, rfl, q _ (I1.hok.fresh (Nat.le_refl _))⟩
  · obtain ⟨its, r', pl, hz⟩ := I.tuple hq
    exact call_tuple_same pl ⟨.ref p, H, I, rfl, q⟩



def tyV (K : PySem.W.Frag) (T : String) (x : V) (H : Hp) : Prop := match x with
  | .str _ => T = "str"
  | .int _ => T = "int"
  | .ref p => (T = "list" ∧ ∃ xs, SqL K H p xs) ∨ (T = "tuple" ∧ ∃ o, K.lookup p = some o ∧ o.cls = .type "tuple" ∧ o.dict = none) ∨
      (T = "dict" ∧ ((∃ kvs, H p = some (.dK kvs)) ∨ ∃ kvs, H p = some (.dT kvs))) ∨ (T = "set" ∧ ∃ S n, H p = some (.set S n))
  | _ => False
theorem tyV_is {pins : List (Addr × Obj)} {σ : St} {H : Hp} {s : Shared} {T : String} {x : V} {v : Value} (I : Inv X pins σ H s) (r : RelV x v) (ty : tyV X.K T x H) :
    s.TypeIs v T ∧ ∀ a, v = .ref a → ∃ ob, s.heap.get? a = some ob ∧ ob.dict = none := by
  cases x with
  | str z =>
    obtain ⟨t, rfl⟩ := r
    cases (show T = "str" from ty)
    exact ⟨typeIs_str s z t, fun _ e => nomatch e⟩
  | int i =>
    obtain ⟨t, rfl⟩ := r
    cases (show T = "int" from ty)
    exact ⟨typeIs_int s i t, fun _ e => nomatch e⟩
  | ref p =>
    cases r
    rcases ty with ⟨rfl, xs, hq⟩ | ⟨rfl, o, hk, hc, hd⟩ | ⟨rfl, hk⟩ | ⟨rfl, S, n, hk⟩
    · obtain ⟨its, _, pl, _⟩ := I.list hq
      refine ⟨pl.isList.typeIs, fun a e => ?_⟩
      cases e
      obtain ⟨o, n, e, c, hd, _⟩ := pl
      exact ⟨o, e, hd⟩
    · refine ⟨⟨o, I.kIn p o hk, hc⟩, fun a e => ?_⟩
      cases e
      exact ⟨o, I.kIn _ o hk, hd⟩
    · have z : ∃ o, s.heap.get? p = some o ∧ o.ExactDict := by
        rcases hk with ⟨kvs, hk⟩ | ⟨kvs, hk⟩
        · obtain ⟨_, _, _, _, o, _, _, e, ex, _⟩ := I.hok p _ hk
          exact ⟨o, e, ex⟩
        · obtain ⟨_, _, _, _, o, _, _, e, ex, _⟩ := I.hok p _ hk
          exact ⟨o, e, ex⟩
      obtain ⟨o, e, ex⟩ := z
      refine ⟨⟨o, e, ex.1⟩, fun a e2 => ?_⟩
      cases e2
      exact ⟨o, e, ex.2.1⟩
    · obtain ⟨o, _, _, _, e, ex, _⟩ := I.hok p _ hk
      refine ⟨⟨o, e, ex.1⟩, fun a e2 => ?_⟩
      cases e2
      exact ⟨o, e, ex.2.1⟩
  | _ => exact False.elim ty
def tBM0 (K : PySem.W.Frag) (T : String) (r : V → List V → Hp → VK → Prop) (to : TE) : TE := fun σ H Q => to σ H fun x H1 => tyV K T x H1 ∧ r x [] H1 Q
def tBM (K : PySem.W.Frag) (T : String) (r : V → List V → Hp → VK → Prop) (to : TE) (t : TA) : TE := fun σ H Q => to σ H fun x H1 => tyV K T x H1 ∧ t σ H1 fun xs H2 => r x xs H2 Q
variable {o e : Expr} {es : List Expr} {to : TE} {t : TA} {name : Str} {apos cpos : Pos} {T id : String} {r : V → List V → Hp → VK → Prop}
theorem pe_bm (pa : PlainAttrs T) (slot : Slot T name id) (hty : typeOf (.builtin id) = pure (.type "method_descriptor")) (hm : MtR X id r) (ho : PE X o to) (ha : PA X (e :: es) t)
    (hbase : attributeBase o name X.env (eval o X.env) = eval o X.env := by rfl)
    (hfew : ((backTo cpos (starEach (e :: es) X.env)).all (fun x => !x.1) && (backToKw cpos (keywordEach [] X.env)).all (fun x => x.1.isSome)
      && decide ((e :: es).length + ([] : List Keyword).length + (if ([] : List Keyword).isEmpty then 0 else 1) < 30)) = true := by rfl)
    (hline : (apos.endLine == cpos.line) = true := by rfl) (hs : starEach (e :: es) X.env = (false, eval e X.env) :: starEach es X.env := by rfl) (hplain : (backTo cpos (starEach es X.env)).any (·.1) = false := by rfl) :
    PE X (.Call (.Attribute o name apos) (e :: es) [] cpos) (tBM X.K T r to t) := by
  intro pins s σ H Q I h
  refine wpAny_Call_method_late hbase hfew hline rfl (thn (ho pins s σ H _ I h) fun v s1 ⟨x, H1, I1, r1, ty, q1⟩ => ?_)
  obtain ⟨h1, h2⟩ := tyV_is I1 r1 ty
  refine ⟨T, id, pa, slot, hty, h1, h2, ?_⟩
  have hA := ha cpos pins s1 σ H1 _ I1 q1
  rw [hs] at hA ⊢
  refine Calls.callWith_builtin (by show (false || (backTo cpos (starEach es X.env)).any (·.1)) = false; rw [hplain] <;> rfl) (Calls.evalArgs_plain ?_)
  exact thn hA fun us s2 ⟨vs, H2, I2, r2, q2⟩ => hm pins s2 σ H2 x vs v us Q I2 r1 r2 q2

end
end L2

namespace L2
open PySem PySem.Spec PyProof.Rows

def MtM (X : Cx) (id : String) (r : V → List V → Hp → VK → Prop) : Prop :=
  ∀ (pins : List (Addr × Obj)) (s : Shared) (σ : St) (H : Hp) (x : V) (xs : List V) (v : Value) (us : List Value) (Q : VK), Inv X pins σ H s → RelV x v → Vals xs us → r x xs H Q →
    wpAny (model X.prog X.w) X.A (call (.builtin id) (v :: us)) (EP X pins σ Q) X.xe s


theorem Vals.one : ∀ {x : V} {us : List Value}, Vals [x] us → ∃ u, us = [u] ∧ RelV x u
  | _, _, .cons r .nil => ⟨_, rfl, r⟩
theorem Vals.zero : ∀ {us : List Value}, Vals [] us → us = []
  | _, .nil => rfl
theorem Vals.dropLast {xs : List V} {us : List Value} (h : Vals xs us) : Vals xs.dropLast us.dropLast := by
  induction h with
  | nil => exact .nil
  | cons r t ih =>
    cases t with
    | nil => exact .nil
    | cons q t' => exact .cons r ih
theorem Vals.eraseIdx : ∀ {xs : List V} {us : List Value} (i : Nat), Vals xs us → Vals (xs.eraseIdx i) (us.eraseIdx i)
  | _, _, _, .nil => .nil
  | _, _, 0, .cons _ t => t
  | _, _, i + 1, .cons r t => .cons r (Vals.eraseIdx i t)
theorem Vals.reverse {xs : List V} {us : List Value} (h : Vals xs us) : Vals xs.reverse us.reverse := by
  induction h with
  | nil => exact .nil
  | cons r t ih => rw [List.reverse_cons, List.reverse_cons]; exact Vals.append ih (.cons r .nil)
theorem Vals.rep {xs : List V} {us : List Value} (h : Vals xs us) : ∀ k : Nat, Vals (List.replicate k xs).flatten (List.replicate k us).flatten
  | 0 => .nil
  | k + 1 => by
    rw [List.replicate_succ, List.replicate_succ, List.flatten_cons, List.flatten_cons]
    exact Vals.append h (Vals.rep h k)
theorem foldl_rep (its : List Value) : ∀ (k : Nat) (acc : List Value),
    List.foldl (fun x1 x2 => x1 ++ x2) acc.toArray (List.replicate k its.toArray) = (acc ++ (List.replicate k its).flatten).toArray
  | 0, acc => by simp
  | k + 1, acc => by
    have e : acc.toArray ++ its.toArray = (acc ++ its).toArray := by simp
    have e2 : (acc ++ its) ++ (List.replicate k its).flatten = acc ++ (List.replicate (k + 1) its).flatten := by
      rw [List.replicate_succ, List.flatten_cons, List.append_assoc]
    rw [← e2, ← foldl_rep its k (acc ++ its), ← e, List.replicate_succ, List.foldl_cons]

section
variable {X : Cx} {pins : List (Addr × Obj)} {σ : St} {H : Hp} {s : Shared} {l b : Addr} {xs ys zs : List V}


theorem Inv.lset {its its' : List Value} {n : Nat} {f : Array Value → Array Value} {t' : Nat} (I : Inv X pins σ H s) (hH : H l = some (.lst xs))
    (e : s.heap.get? l = some { cls := .type "list", data := .seq its.toArray n }) (hf : f its.toArray = its'.toArray) (hv : Vals ys its') (hz : ys.length ≤ sizeLine) :
    Inv X pins σ (upd H l (.lst ys)) { s with heap := s.heap.update l (Obj.mapSeq f), toks := t' } := by
  have q := PySem.IsL.update e f
  rw [hf] at q
  refine I.write (x := l) (e := l) (by rw [hH]; exact trivial) (.inl rfl) (fun b' u hb hu => (Heap.get?_update_other s.heap (Obj.mapSeq f) (Ne.symm hb)).trans hu) ⟨_, q⟩ ?_
  exact ⟨hz, its', _, hv, q⟩
theorem Inv.lnew {its : List Value} {t' : Nat} (I : Inv X pins σ H s) (hv : Vals ys its) (hz : ys.length ≤ sizeLine) :
    Inv X pins σ (upd H s.heap.objs.size (.lst ys)) { s with heap := s.heap.push { cls := .type "list", data := .seq its.toArray }, toks := t' } :=
  I.laid (fun _ _ q => Heap.get?_push_of_some _ q) (Nat.le_refl _) ⟨hz, its, 0, hv, Heap.get?_push_size _ rfl⟩
theorem Inv.fresh (I : Inv X pins σ H s) : H s.heap.objs.size = none := I.hok.fresh (Nat.le_refl _)
theorem Inv.lstM (I : Inv X pins σ H s) (hH : H l = some (.lst xs)) : xs.length ≤ sizeLine ∧ ∃ (its : List Value) (n : Nat), Vals xs its ∧ xs.length = its.length ∧ s.heap.get? l = some { cls := .type "list", data := .seq its.toArray n } := by
  obtain ⟨z, its, n, r, e⟩ := I.hok l _ hH
  exact ⟨z, its, n, r, r.length, e⟩

theorem notLongL {n : Nat} (h : n ≤ sizeLine) : Builtin.List.listTooLong n = false := by
  unfold Builtin.List.listTooLong
  exact decide_eq_false (by omega)
end

section
variable {X : Cx}


def rAppend : V → List V → Hp → VK → Prop := fun x vs H Q => ∃ l xs y, x = .ref l ∧ vs = [y] ∧ H l = some (.lst xs) ∧ xs.length < sizeLine ∧ Q .non (upd H l (.lst (xs ++ [y])))
theorem mt_append : MtM X "list.append" rAppend := by
  intro pins s σ H x vs v us Q I rx rv h
  obtain ⟨l, xs, y, rfl, rfl, hH, hz, q⟩ := h
  cases rx
  obtain ⟨u, rfl, ru⟩ := rv.one
  obtain ⟨z, its, n, r, hl, e⟩ := I.lstM hH
  refine call_meets F.slot_list_append ⟨_, e, rfl⟩ F.entry_list_append (F.args_list_append_2 _ _) (PySem.list_append l its.toArray n u (by rw [List.size_toArray]; omega)) ⟨e, ?_⟩
  refine ⟨.non, _, I.lset (its' := its ++ [u]) hH e (by simp) (r.append (.cons ru .nil)) ?_, rfl, q⟩
  rw [List.length_append, List.length_singleton]
  omega

def rExtend : V → List V → Hp → VK → Prop := fun x vs H Q => ∃ l b xs zs, x = .ref l ∧ vs = [.ref b] ∧ H l = some (.lst xs) ∧ H b = some (.lst zs) ∧ xs.length + zs.length ≤ sizeLine ∧ Q .non (upd H l (.lst (xs ++ zs)))
theorem mt_extend : MtM X "list.extend" rExtend := by
  intro pins s σ H x vs v us Q I rx rv h
  obtain ⟨l, b, xs, zs, rfl, rfl, hH, hB, hz, q⟩ := h
  cases rx
  obtain ⟨u, rfl, ru⟩ := rv.one
  cases ru
  obtain ⟨z, its, n, r, hl, e⟩ := I.lstM hH
  obtain ⟨z2, its2, n2, r2, hl2, e2⟩ := I.lstM hB
  have hsz : its.toArray.size + its2.toArray.size ≤ sizeLine := by rw [List.size_toArray, List.size_toArray]; omega
  have hlong : ¬ (!its.toArray.isEmpty && Builtin.List.listTooLong (its.toArray.size + its2.toArray.size)) = true := by
    rw [notLongL hsz, Bool.and_false]
    exact Bool.false_ne_true
  refine call_meets F.slot_list_extend ⟨_, e, rfl⟩ F.entry_list_extend (F.args_list_extend_2 _ _)
    (AutoSeq1.list_extend_list_list_0 l its.toArray n b its2.toArray n2 hlong (by rw [List.size_toArray]; omega) (by omega)) ⟨e, e2, ?_⟩
  refine ⟨.non, _, I.lset (its' := its ++ its2) hH e (by simp) (r.append r2) ?_, rfl, q⟩
  rw [List.length_append]
  omega

def rPop : V → List V → Hp → VK → Prop := fun x vs H Q => ∃ l xs y, x = .ref l ∧ vs = [] ∧ H l = some (.lst xs) ∧ xs[xs.length - 1]? = some y ∧ Q y (upd H l (.lst xs.dropLast))
def rPopAt : V → List V → Hp → VK → Prop := fun x vs H Q => ∃ l xs i k y, x = .ref l ∧ vs = [.int i] ∧ H l = some (.lst xs) ∧ -(2 ^ 63) ≤ i ∧ i < 2 ^ 63 ∧ seqIndex? i xs.length = some k ∧ xs[k]? = some y ∧ Q y (upd H l (.lst (xs.eraseIdx k)))
def rReverse : V → List V → Hp → VK → Prop := fun x vs H Q => ∃ l xs, x = .ref l ∧ vs = [] ∧ H l = some (.lst xs) ∧ Q .non (upd H l (.lst xs.reverse))
def rClear : V → List V → Hp → VK → Prop := fun x vs H Q => ∃ l xs, x = .ref l ∧ vs = [] ∧ H l = some (.lst xs) ∧ Q .non (upd H l (.lst []))
def rCat : R2 := fun x y H Q => ∃ l b xs zs, x = .ref l ∧ y = .ref b ∧ H l = some (.lst xs) ∧ H b = some (.lst zs) ∧ xs.length + zs.length ≤ sizeLine ∧ ∀ p, H p = none → Q (.ref p) (upd H p (.lst (xs ++ zs)))
def rRep : R2 := fun x y H Q => ∃ l k xs, x = .ref l ∧ y = .int k ∧ H l = some (.lst xs) ∧ -(2 ^ 63) ≤ k ∧ k < 2 ^ 63 ∧ xs.length * k.toNat ≤ sizeLine ∧
  ∀ p, H p = none → Q (.ref p) (upd H p (.lst (List.replicate k.toNat xs).flatten))
theorem len_rep {α : Type} (xs : List α) (k : Nat) : (List.replicate k xs).flatten.length = k * xs.length := by
  induction k with
  | zero => simp
  | succ k ih => rw [List.replicate_succ, List.flatten_cons, List.length_append, ih, Nat.succ_mul, Nat.add_comm]
theorem op_rep : OpR X (binaryOp .Mult) rRep := by
  intro pins s σ H x y v u Q I rx ry h
  obtain ⟨l, k, xs, rfl, rfl, hH, h1, h2, hz, q⟩ := h
  cases rx
  obtain ⟨t, rfl⟩ := ry
  obtain ⟨z, its, n, r, hl, e⟩ := I.lstM hH
  have hlen : its.toArray.size * k.toNat ≤ sizeLine := by rw [List.size_toArray, ← hl]; exact hz
  have hcap : ¬ its.toArray.size * k.toNat > (2 ^ 63 - 1) / 8 := by
    have : (sizeLine : Nat) ≤ (2 ^ 63 - 1) / 8 := by decide
    omega
  have hfit : ¬ (!Builtin.List.listFitsIndex k) = true := by
    rw [fitsIndex_both h1 h2]
    exact Bool.false_ne_true
  have hlong : ¬ Builtin.List.listTooLong (its.toArray.size * k.toNat) = true := by
    rw [notLongL hlen]
    exact Bool.false_ne_true
  have hnew : List.foldl (fun x1 x2 => x1 ++ x2) #[] (List.replicate (if its.toArray.isEmpty = true then 0 else k.toNat) its.toArray) = (List.replicate k.toNat its).flatten.toArray := by
    have f0 : ∀ m : Nat, List.foldl (fun x1 x2 => x1 ++ x2) #[] (List.replicate m its.toArray) = (List.replicate m its).flatten.toArray := fun m => by
      have := foldl_rep its m []
      rw [List.nil_append] at this
      exact this
    rw [f0]
    cases its with
    | nil => simp
    | cons a r' => rw [if_neg (by simp)]
  refine wpAny_binaryOp_repeat_ref (T := "list") (U := "int") (by decide) ⟨_, e, rfl⟩ (fun s' => typeIs_int s' k t) noFill_list_mul F.fills_int_mul F.slot_int_rmul repeat_list F.slot_int_index.lookup
    (call_meets F.slot_int_rmul (typeIs_int s k t) F.entry_int_rmul (F.args_int_rmul_2 _ _) (int___rmul___int_list k t l its.toArray n)
      ⟨e, rfl, ⟨_, e, rfl⟩, call_meets F.slot_list_mul ⟨_, e, rfl⟩ F.entry_list_mul (F.args_list_mul_2 _ _) (AutoListH.list___mul___list_int_3 l its.toArray n k t hfit hcap hlong) ⟨e, ?_⟩⟩)
  rw [hnew]
  exact ⟨.ref _, _, I.lnew (t' := s.toks) (r.rep k.toNat) (by rw [len_rep, Nat.mul_comm]; exact hz), rfl, q _ I.fresh⟩


end


section
variable {prog : Program} {w : World} {A : Around} {E : Value → Shared → Prop} {s : Shared}
end

section
variable {X : Cx}

end
end L2

namespace Att
open PySem PySem.W PySem.Calls PyProof.Rows


theorem ints_of_wellAll {P : Params} {h : Heap} : ∀ (ns : List Int) (vs : List Value), WellAll P h vs (ns.map WData.int) → IntsAre vs ns := by
  intro ns
  induction ns with
  | nil =>
    intro vs w
    rw [List.map_nil] at w
    cases w
    exact .nil
  | cons n ns ih =>
    intro vs w
    rw [List.map_cons] at w
    cases w with
    | cons a b =>
      cases a
      exact .cons _ _ (ih _ b)

theorem script_of {l : OpenLaw} {n : Nat} (hn : l.most = some n) {P : Params} {h : Heap} {args : List WData} {vals : List Value}
    (hpre : l.row.toRowW.claim.pre args = true) (hwl : WellAll P h vals args) :
    ∃ a vs ns, vals = [Value.ref a] ∧ args = [WData.list (ns.map WData.int)] ∧ h.get? a = some { cls := .type "list", data := .seq vs.toArray } ∧ IntsAre vs ns ∧ ns.length ≤ n := by
  have hsh : WShape.hasAll [] args [.list .int] = true := (pre_splitW hpre).1
  have hc : l.pre.holds [] { args := args } = true := (pre_splitW hpre).2
  obtain ⟨d, r, rfl, h1, h2⟩ := hasAllW_cons hsh
  obtain rfl := hasAllW_nil h2
  obtain ⟨xs, rfl, h3⟩ := hasW_list h1
  obtain ⟨ns, rfl⟩ := items_int h3
  have hlen : ns.length ≤ n := by
    unfold OpenLaw.pre at hc
    have h4 : (WTm.not (.lt (.lit (.int (n : Int))) (.len (.arg 0)))).holds [] { args := [.list (ns.map .int)] } = true := by
      have h4 := (holds_andW hc).1
      rw [hn] at h4
      exact h4
    have h5 := condW_of h4 (w_not (w_lt w_lit (w_len_list (w_arg rfl))))
    rw [List.length_map] at h5
    refine Nat.le_of_not_lt fun q => ?_
    have q' : (n : Int) < ((ns.length : Nat) : Int) := by omega
    first
      | (rw [decide_eq_true q'] at h5; exact absurd h5 (by decide))
      | (simp at h5; omega)
  cases hwl with
  | cons w1 w2 =>
    cases w2
    cases w1 with
    | list ho hall => exact ⟨_, _, ns, rfl, rfl, ho, ints_of_wellAll ns _ hall, hlen⟩

theorem post_true (l : OpenLaw) (args : List WData) : l.row.toRowW.claim.post args (.bool true) args = true :=
  postW_of (r := l.row.toRowW) (X := (true == true))
    (show WShape.has [] (.bool true) .bool = true by first | rfl | decide | simp [WShape.has, WShape.arms, WShape.armsAll])
    (show (WTm.eq .res (.lit (.bool true))).value [] { args := args, res := some (.bool true), after := args } = some (.bool (true == true)) from w_eq_bool (w_res rfl) w_lit) rfl


theorem attach_call {l : OpenLaw} {n : Nat} {q : Program} {loose : List Str} {XP : (Str → Option Value) → Heap → Prop} {YP : World → Heap → Prop} {d : DefRec}
    (hn : l.most = some n) (hdf : d.params.defaults = [])
    (call : ∀ (w : World) (s₀ s₁ : Shared) (mg mb : Str → Option Value) (fa : Addr) (o : Obj) (pm cd doc : Value) (a : Addr) (vs : List Value) (ns : List Int),
      Ground q loose [] XP w s₀ mg mb s₁.heap → YP w s₁.heap →
      s₁.heap.get? fa = some o → o.data = .func (docDef d.name d.params d.body d.scope pm cd doc) → s₁.heap.CodeRec cd d.name → mg d.name = some (.ref fa) →
      s₁.heap.get? a = some { cls := .type "list", data := .seq vs.toArray } → IntsAre vs ns → ns.length ≤ n → s₁.gens = #[] →
      codeAny (model l.prog w) callerA (.call (.ref fa) ⟨[.ref a], []⟩) (fun r s' => r = .ok (.ret (.bool true)) ∧ OldK s₁.heap s'.heap ∧ s'.os = s₁.os ∧ AllBare s'.gens) s₁) :
    WalkO q loose XP YP l.row.toRowW d [] (fun f vs => PySem.call f vs) := by
  intro w s₀ s₁ mg mb G Y fa o pm cd doc dV kV ho hd hcd hD hmg hg args vals as hpre hlay hrd hwl hlo
  obtain rfl : dV = .none := Dflts.none hD hdf
  obtain rfl : kV = .none := Dflts.noKw hD
  obtain ⟨a, vs, ns, rfl, rfl, hobj, hints, hlen⟩ := script_of hn hpre hwl
  refine enter_call (codeAny_mono (call w s₀ s₁ mg mb fa o pm cd doc a vs ns G Y ho (fd_plain hd) hcd hmg hobj hints hlen hg) fun r s' hq => ?_)
  obtain ⟨rfl, h2, h3, h4⟩ := hq
  exact ⟨.inl ⟨.bool true, .bool true, [], rfl, fun _ => rfl, .bool true, post_true l _, fun _ => ⟨List.Pairwise.nil, fun _ hm => (nomatch hm)⟩⟩, h2, h3, h4⟩


section
variable {prog : Program} {w : World} {A : Around} {E : Value → Shared → Prop} {s : Shared} {K : Frag}


def noObjs (h : Heap) : Heap := { h with objs := #[] }
def ledger (h : Heap) (L d : Addr) : List (Addr × Obj) := (List.range h.objs.size).filterMap fun a => if a = L ∨ a = d then none else (h.get? a).map fun o => (a, o)
end
end Att

namespace L2
open PySem PySem.Spec PyProof.Rows

theorem vals_ints : ∀ {vs : List Value} {ns : List Int}, IntsAre vs ns → Vals (ns.map V.int) vs
  | _, _, .nil => .nil
  | _, _, .cons n t h => .cons ⟨t, rfl⟩ (vals_ints h)


def Only (H : Hp) : Prop := ∀ b, H b = none ∨ ∃ o xs, H b = some (.frz o (.lst xs))


theorem law_call {P : Program} {w : World} {K : PySem.W.Frag} {mg mb : Str → Option Value} {CX : CXT} {k : Nat} {fa a : Addr} {fd : FuncData} {x : Str} {sp : Sp} {s₁ : Shared} {vs : List Value} {ns : List Int}
    (KX : K.In s₁.heap) (hns : s₁.heap.Ns mainGlobals mg) (hb : s₁.heap.Ns builtinsNs mb) (hbb : ∀ x : Str, x ≠ "__name__" → mb x = bootBuiltins x) (hlim : s₁.heap.NoLimit) (hg : s₁.gens = #[])
    (ha : s₁.heap.get? a = some { cls := .type "list", data := .seq vs.toArray }) (hi : IntsAre vs ns) (hl : ns.length ≤ sizeLine) (hr : Room k callerA)
    (F : ∀ base : Heap, K.In base → base.Ns mainGlobals mg → FnOk P w K mg base CX k fa fd [x] sp) (hbind : ∀ (s : Shared) (u : Value), BindsTo s fd ⟨[u], []⟩ [(x, u)])
    (hsp : ∀ H : Hp, Only H → SqL K H a (ns.map V.int) → sp [.ref a] H (fun v _ => v = .bl true) fun _ _ _ => False)
    (hCX : ∀ H e s', CX [] H s₁ (fun _ _ _ => False) e s' → False) :
    codeAny (model P w) callerA (.call (.ref fa) ⟨[.ref a], []⟩) (fun r s' => r = .ok (.ret (.bool true)) ∧ OldK s₁.heap s'.heap ∧ s'.os = s₁.os ∧ AllBare s'.gens) s₁ := by
  have rv := vals_ints hi
  have lenV := hi.length
  have core : ∀ H : Hp, Only H → SqL K H a (ns.map V.int) → HOk P w H s₁.heap → (∀ b, H b ≠ none → b = a) → (H a ≠ none → K.lookup a = none) →
      codeAny (model P w) callerA (.call (.ref fa) ⟨[.ref a], []⟩) (fun r s' => r = .ok (.ret (.bool true)) ∧ OldK s₁.heap s'.heap ∧ s'.os = s₁.os ∧ AllBare s'.gens) s₁ := by
    intro H hO hS hok hA hK
    have base_of : ∀ {b : Addr} {o : Obj}, s₁.heap.get? b = some o → H b = none → (hidT s₁.heap H).get? b = some o := fun e n => hidT_get e n
    have noA : ∀ {b : Addr} {o : Obj} {es : Array DictEntry} {ep : Nat}, s₁.heap.get? b = some o → o.data = .dict es ep → H b = none := fun {b o es ep} e d => by
      cases q : H b with
      | none => rfl
      | some u =>
        have e' : b = a := hA b (by rw [q]; simp)
        subst e'
        rw [ha] at e; cases e
        have d' : Data.seq vs.toArray _ = Data.dict es ep := d
        cases d'
    have nsK : ∀ {b : Addr} {m : Str → Option Value}, s₁.heap.Ns b m → (hidT s₁.heap H).Ns b m := fun {b m} ⟨o, es, ep, e, d, r⟩ => ⟨o, es, ep, base_of e (noA e d), d, r⟩
    have hKb : K.In (hidT s₁.heap H) := fun b o e => base_of (KX b o e) (by
      cases q : H b with
      | none => rfl
      | some u =>
        have e' : b = a := hA b (by rw [q]; simp)
        subst e'
        rw [hK (by rw [q]; simp)] at e; cases e)
    have hM : Mod K mg (hidT s₁.heap H) := ⟨hKb, nsK hns, ⟨mb, nsK hb, hbb⟩, let ⟨mc, h1, h2⟩ := hlim; ⟨mc, nsK h1, h2⟩⟩
    have e0 : Env0 P w K mg (hidT s₁.heap H) callerA [] s₁ H := ⟨rfl, hM, fun b o e => of_hidT e, Nat.le_of_eq (hidT_size _ _), trivial, fun b hb => absurd (show b ∈ ([] : List Addr) from hb) (by simp), hok, .of_eq hg⟩
    refine codeAny_mono ((F _ hKb (nsK hns)).run callerA [] s₁ H ⟨[.ref a], []⟩ [.ref a] [.ref a] _ _ hr e0 (hbind s₁ (.ref a)) (.cons rfl .nil) (hsp H hO hS)) fun r s' h => ?_
    cases r with
    | error e => exact (hCX H e s' h).elim
    | ok fl =>
      cases fl with
      | next => exact False.elim h
      | brk => exact False.elim h
      | cont => exact False.elim h
      | ret u =>
        obtain ⟨v, H', os, bare, un, hok', r', q⟩ := h
        have q' : v = .bl true := q
        subst q'
        obtain rfl : u = Value.bool true := r'
        refine ⟨rfl, OldK.of_keep fun b o e => ?_, os, bare⟩
        cases q : H b with
        | none => exact un.keep b o e q (by intro z; exact absurd (show b ∈ ([] : List Addr) from z) (by simp)) (by simp)
        | some u =>
          rcases hO b with z | ⟨ob, xs, z⟩
          · rw [q] at z; cases z
          · have z2 := un.frzs b ob _ z
            obtain ⟨e1, _⟩ := hok b _ z
            obtain ⟨e2, _⟩ := hok' b _ z2
            rw [e] at e1; cases e1
            exact e2
  cases hk : K.lookup a with
  | some o =>
    have e := KX a o hk
    rw [ha] at e
    cases e
    refine core (fun _ => none) (fun _ => .inl rfl) (.inr ⟨_, vs.toArray, _, hk, rfl, rfl, rfl, by rw [List.size_toArray, lenV]; exact hl, by simpa using rv⟩) (fun b u z => by have z' : (none : Option HO) = some u := z; cases z') (fun b z => absurd rfl z) fun z => absurd rfl z
  | none =>
    refine core (fun b => if b = a then some (.frz { cls := .type "list", data := .seq vs.toArray } (.lst (ns.map V.int))) else none) (fun b => ?_) (.inl (.inr ⟨{ cls := .type "list", data := .seq vs.toArray }, if_pos rfl⟩)) (fun b u z => ?_) (fun b z => ?_) fun _ => hk
    · by_cases hb : b = a
      · exact .inr ⟨_, _, if_pos hb⟩
      · exact .inl (if_neg hb)
    · by_cases hb : b = a
      · have z' := (if_pos hb).symm.trans z
        cases z'
        subst hb
        exact ⟨ha, by rw [List.length_map]; exact hl, vs, _, rv, ha⟩
      · have z' := (if_neg hb).symm.trans z
        cases z'
    · by_cases hb : b = a
      · exact hb
      · exact absurd (if_neg hb) z
end L2

namespace L2
open PySem PySem.Spec PyProof.Rows

abbrev KOf {K : PySem.W.Frag} {h : Heap} (_ : K.In h) : PySem.W.Frag := K


theorem walk_of {l : PySem.W.OpenLaw} {n k : Nat} {q : Program} {loose : List Str} {XP : (Str → Option Value) → Heap → Prop} {YP : World → Heap → Prop} {d : DefRec} {K : Params → PySem.W.Frag} {CX : World → CXT} {sp : World → Sp} {x : Str}
    (hn : l.most = some n) (hn2 : n ≤ sizeLine) (hdf : d.params.defaults = []) (hr : Room k callerA)
    (hY : ∀ (w : World) (h : Heap), YP w h → (K w.params).In h)
    (F : ∀ (w : World) (mg : Str → Option Value) (fa : Addr) (h : Heap), (K w.params).In h → h.Ns mainGlobals mg → mg d.name = some (.ref fa) →
      ∃ fd : FuncData, (∀ (s : Shared) (u : Value), BindsTo s fd ⟨[u], []⟩ [(x, u)]) ∧
        ∀ base : Heap, (K w.params).In base → base.Ns mainGlobals mg → FnOk l.prog w (K w.params) mg base (CX w) k fa fd [x] (sp w))
    (hsp : ∀ (w : World) (H : Hp) (a : Addr) (ns : List Int), ns.length ≤ n → Only H → SqL (K w.params) H a (ns.map V.int) → sp w [.ref a] H (fun v _ => v = .bl true) fun _ _ _ => False)
    (hCX : ∀ (w : World) (H : Hp) (s : Shared) (e : Value) (s' : Shared), CX w [] H s (fun _ _ _ => False) e s' → False) :
    PySem.W.WalkO q loose XP YP l.row.toRowW d [] (fun f vs => PySem.call f vs) := by
  refine Att.attach_call hn hdf fun w s₀ s₁ mg mb fa o pm cd doc a vs ns G Y ho hd hcd hmg hobj hints hlen hg => ?_
  have KX := hY w _ Y
  obtain ⟨fd, hb, hF⟩ := F w mg fa _ KX G.T.g hmg
  exact law_call KX G.T.g G.T.b G.T.builtins G.T.nolimit hg hobj hints (Nat.le_trans hlen hn2) hr hF hb (fun H hO hS => hsp w H a ns hlen hO hS) fun H e s' => hCX w H s₁ e s'

end L2




namespace L2
open PySem PySem.Spec PyProof.Rows



def inClass (s : Stmt) (j : Nat) : Stmt := match s with
  | .ClassDef _ _ _ body _ _ _ _ _ _ _ => body.getD j (.Pass ⟨0, 0, 0, 0⟩)
  | _ => .Pass ⟨0, 0, 0, 0⟩
def defArgs (s : Stmt) : Arguments := match s with
  | .FunctionDef _ a _ _ _ _ _ _ _ _ => a
  | _ => { posonlyargs := [], args := [], vararg := none, kwonlyargs := [], kw_defaults := [], kwarg := none, defaults := [] }
def defBody (s : Stmt) : List Stmt := match s with
  | .FunctionDef _ _ b _ _ _ _ _ _ _ => b
  | _ => []
def defScope (s : Stmt) : Scope := match s with
  | .FunctionDef _ _ _ _ _ _ sc _ _ _ => sc
  | _ => { kind := .function, names := [], isGenerator := false, isCoroutine := false }


abbrev CX0 : CXT := fun _ _ _ _ _ _ => False
abbrev E0 : XK := fun _ _ _ => False
theorem pass0 {X : Cx} : Passes CX0 X E0 := fun _ _ _ _ _ _ _ h => h.elim


structure Fun (K : PySem.W.Frag) (x qual : Str) (st : Stmt) (f : Addr) (fd : FuncData) : Prop where
  ex : ∃ (oc : Value) (od : Option Addr) (kV doc pm : Value) (an : Option Addr) (cdv ct : Value) (osl : Array (Option Value)),
    fd = PySem.W.fnOf x qual (defArgs st) (defBody st) (defScope st) .none kV doc pm an cdv ct ∧ K.lookup f = some ⟨oc, od, .func fd, osl⟩ ∧ PySem.W.codeIn K cdv qual = true
  kp : PySem.W.keepIn K (.ref f) = true
section
variable {P : Program} {w : World} {K : PySem.W.Frag} {mg : Str → Option Value} {base : Heap}

theorem Fun.ok {x qual : Str} {st : Stmt} {f : Addr} {fd : FuncData} {N ps : List Str} {k : Nat} {sp : Sp} (F : Fun K x qual st f fd) (S : FnScope N ps (defScope st)) (len : ∀ vs H Q E, sp vs H Q E → vs.length = ps.length)
    (hbody : ∀ (cdv : Value) (A : Around) (outer : List Env) (s : Shared) (H : Hp) (vs : List V) (Q : VK) (E : XK), Room k (A.deeper (envOfC qual (defScope st) s.heap.objs.size f cdv)) → sp vs H Q E →
      ∃ t, PSs (cxOf CX0 P w K mg base N qual (defScope st) f cdv A outer s H E).nox (defBody st) t ∧ t { nx := fun _ H' => Q .non H', rt := Q } (start N vs) H) : FnOk P w K mg base CX0 (k + 1) f fd ps sp := by
  obtain ⟨oc, od, kV, doc, pm, an, cdv, ct, osl, rfl, lk, hcd⟩ := F.ex
  refine fn_of lk hcd S len fun A outer s H vs Q E hr hsp => ?_
  obtain ⟨t, h, q⟩ := hbody cdv A outer s H vs Q E hr hsp
  exact ⟨t, h.nox, q⟩

theorem Fun.binds {x qual : Str} {st : Stmt} {f : Addr} {fd : FuncData} {ps : List Str} (F : Fun K x qual st f fd)
    (h : ∀ (kV doc pm : Value) (an : Option Addr) (cdv ct : Value) (us : List Value), us.length = ps.length → bindArgs (PySem.W.fnOf x qual (defArgs st) (defBody st) (defScope st) .none kV doc pm an cdv ct) ⟨us, []⟩ = pure (ps.zip us)) : Binds K fd ps [] := by
  obtain ⟨oc, od, kV, doc, pm, an, cdv, ct, osl, rfl, lk, hcd⟩ := F.ex
  exact .all (h kV doc pm an cdv ct)
theorem fun_mk {x qual : Str} {st : Stmt} {f : Addr} {oc : Value} {od an : Option Addr} {osl : Array (Option Value)} {kV doc pm cdv ct : Value} (l : K.lookup f = some ⟨oc, od, .func (PySem.W.fnOf x qual (defArgs st) (defBody st) (defScope st) .none kV doc pm an cdv ct), osl⟩)
    (c : PySem.W.codeIn K cdv qual = true) (k : PySem.W.keepIn K (.ref f) = true) : Fun K x qual st f (PySem.W.fnOf x qual (defArgs st) (defBody st) (defScope st) .none kV doc pm an cdv ct) := ⟨⟨oc, od, kV, doc, pm, an, cdv, ct, osl, rfl, l, c⟩, k⟩
end
section
variable {X : Cx}
theorem pv (i : Nat) {x : Str} {pos : Pos} (hN : X.N[i]? = some x := by rfl) (hv : Vis X.env.scope x := by first | exact Or.inl rfl | exact Or.inr (Or.inl rfl) | exact Or.inr (Or.inr rfl)) (hd : (x == ("__debug__" : Str)) = false := by decide)
    (hcd : (x == ("__classdict__" : Str)) = false := by decide) : PE X (.Name x pos) (tVar i) := pe_var hN hv hd hcd
end


theorem ite2 {c A B : Prop} [Decidable c] (h1 : c → A) (h2 : ¬ c → B) : if c then A else B := by
  by_cases h : c
  · rw [if_pos h]
    exact h1 h
  · rw [if_neg h]
    exact h2 h
def Same (H H' : Hp) : Prop := ∀ b o, H b = some o → H' b = some o
theorem Same.refl (H : Hp) : Same H H := fun _ _ h => h
theorem Same.trans {H H1 H2 : Hp} (a : Same H H1) (b : Same H1 H2) : Same H H2 := fun c o h => b c o (a c o h)
theorem Same.free {H H' : Hp} (e : Same H H') {l : Addr} (h : H' l = Option.none) : H l = Option.none := by
  cases q : H l with
  | none => rfl
  | some o =>
    rw [e l o q] at h
    cases h
theorem Same.seq {K : PySem.W.Frag} {H H' : Hp} {a : Addr} {xs : List V} (e : Same H H') (h : SqL K H a xs) : SqL K H' a xs := by
  rcases h with (h | ⟨o, h⟩) | h
  · exact .inl (.inl (e _ _ h))
  · exact .inl (.inr ⟨o, e _ _ h⟩)
  · exact .inr h

end L2

set_option Elab.async false
set_option linter.all false
set_option maxRecDepth 100000
set_option maxHeartbeats 4000000

namespace L2
open PySem PySem.Spec PyProof.Rows


def clOf (cells : List (Str × Addr)) : List (Str × NameKind) → List (Str × Addr) → List (Str × Addr)
  | [], acc => acc
  | (n, k) :: r, acc => clOf cells r (if (k == NameKind.free) = true then (n, (cells.lookup n).getD 0) :: acc else acc)

theorem closure_ok {sc : Scope} {env : Env} (h : ∀ n, (n, NameKind.free) ∈ sc.names → ∃ c, env.cells.lookup n = some c) : closureFor sc env = pure (clOf env.cells sc.names []) := by
  have all : ∀ (l : List (Str × NameKind)) (acc : List (Str × Addr)), (∀ n, (n, NameKind.free) ∈ l → ∃ c, env.cells.lookup n = some c) →
      (forIn l acc fun (x : Str × NameKind) (cs : List (Str × Addr)) => match x with
        | (name, kind) => if (kind == NameKind.free) = true then (do let c ← cellOf env name; pure (ForInStep.yield ((name, c) :: cs))) else pure (ForInStep.yield cs)) = (pure (clOf env.cells l acc) : Sem _) := by
    intro l
    induction l with
    | nil => intro acc _; rfl
    | cons x r ih =>
      intro acc hl
      obtain ⟨n, k⟩ := x
      rw [List.forIn_cons]
      by_cases hk : (k == NameKind.free) = true
      · have hk' : k = NameKind.free := by simpa using hk
        subst hk'
        obtain ⟨c, hc⟩ := hl n List.mem_cons_self
        have e1 : cellOf env n = pure c := by unfold cellOf; rw [hc]
        simp only [beq_self_eq_true, if_true, e1, pure_bind]
        rw [ih _ fun m hm => hl m (List.mem_cons_of_mem _ hm)]
        show _ = (pure (clOf env.cells r (if (NameKind.free == NameKind.free) = true then (n, (env.cells.lookup n).getD 0) :: acc else acc)) : Sem _)
        rw [if_pos (by simp), hc]
        rfl
      · have hk2 : (k == NameKind.free) = false := by simpa using hk
        simp only [hk2, Bool.false_eq_true, if_false, pure_bind]
        rw [ih _ fun m hm => hl m (List.mem_cons_of_mem _ hm)]
        show _ = (pure (clOf env.cells r (if (k == NameKind.free) = true then (n, (env.cells.lookup n).getD 0) :: acc else acc)) : Sem _)
        rw [if_neg hk]
  have := all sc.names [] h
  unfold closureFor
  dsimp only
  rw [this, pure_bind]

theorem lookup_clOf {cells : List (Str × Addr)} {x : Str} {c : Addr} : ∀ {l : List (Str × NameKind)} {acc : List (Str × Addr)}, (∀ n, (n, NameKind.free) ∈ l → ∃ c, cells.lookup n = some c) →
    (acc.lookup x = some c → cells.lookup x = some c) → (clOf cells l acc).lookup x = some c → cells.lookup x = some c
  | [], _, _, ha, h => ha h
  | (n, k) :: r, acc, hl, ha, h => by
    refine lookup_clOf (l := r) (fun m hm => hl m (List.mem_cons_of_mem _ hm)) ?_ h
    by_cases hk : (k == NameKind.free) = true
    · rw [if_pos hk]
      have hk' : k = NameKind.free := by simpa using hk
      subst hk'
      obtain ⟨d, hd⟩ := hl n List.mem_cons_self
      intro e
      rw [List.lookup_cons] at e
      cases hx : x == n with
      | true =>
        rw [hx] at e
        have hxn : x = n := by simpa using hx
        subst hxn
        rw [hd] at e ⊢
        exact e
      | false => rw [hx] at e; exact ha e
    · rw [if_neg hk]; exact ha

theorem clOf_has {cells : List (Str × Addr)} {x : Str} : ∀ {l : List (Str × NameKind)} {acc : List (Str × Addr)}, ((x, NameKind.free) ∈ l ∨ ∃ c, acc.lookup x = some c) → ∃ c, (clOf cells l acc).lookup x = some c
  | [], _, h => by
    rcases h with h | h
    · exact nomatch h
    · exact h
  | (n, k) :: r, acc, h => by
    refine clOf_has (l := r) ?_
    by_cases hk : (k == NameKind.free) = true
    · rw [if_pos hk]
      by_cases hx : (x == n) = true
      · exact .inr ⟨(cells.lookup n).getD 0, by rw [List.lookup_cons, hx]⟩
      · have hx2 : (x == n) = false := by simpa using hx
        rcases h with h | ⟨c, h⟩
        · rcases List.mem_cons.mp h with e | e
          · have e1 : x = n := congrArg Prod.fst e
            exact absurd (by simp [e1]) hx
          · exact .inl e
        · exact .inr ⟨c, by rw [List.lookup_cons, hx2]; exact h⟩
    · rw [if_neg hk]
      rcases h with h | h
      · rcases List.mem_cons.mp h with e | e
        · have e2 : NameKind.free = k := congrArg Prod.snd e
          exact absurd (by simp [← e2]) hk
        · exact .inl e
      · exact .inr h


def compCx (X : Cx) (sc : Scope) (N' : List Str) (C : Addr) (s₀ : Shared) (H₀ : Hp) (fp : List Addr) : Cx where
  prog := X.prog
  w := X.w
  K := X.K
  mg := X.mg
  base := X.base
  A := X.A
  N := N'
  s₀ := s₀
  H₀ := H₀
  env := compEnvC sc (clOf X.env.cells sc.names []) C X.env
  outer := X.stack
  stack := X.stack
  ex := fp
  fn := fun _ => false
  calm := X.calm
  pn := []
  xe := fun _ _ => False


def capS (cap : List (Option Nat)) (σ : St) : St := cap.map fun o => o.bind fun j => (σ[j]?).join

structure CapOk (X : Cx) (sc : Scope) (N' : List Str) (cap : List (Option Nat)) : Prop where
  kind : sc.kind = .function
  len : cap.length = N'.length
  nocell : ∀ x ∈ sc.names, x.2 ≠ NameKind.cell
  locals : ∀ x ∈ sc.names, x.2 = NameKind.local → sc.names.lookup x.1 = some NameKind.local
  free : ∀ n, (n, NameKind.free) ∈ sc.names → X.env.kindOf n = some .cell ∨ X.env.kindOf n = some .free
  slots : ∀ (i j : Nat) (x : Str), N'[i]? = some x → cap[i]? = some (some j) → X.N[j]? = some x ∧ ((relabel sc X.env).names.lookup x = some .cell ∨ (relabel sc X.env).names.lookup x = some .free) ∧ Vis X.env.scope x

section
variable {X : Cx} {sc : Scope} {N' : List Str} {cap : List (Option Nat)} {pins : List (Addr × Obj)} {σ : St} {H : Hp} {s : Shared} {C : Addr} {fp : List Addr}

theorem CapOk.cells (c : CapOk X sc N' cap) (ok : X.Ok) : ∀ n, (n, NameKind.free) ∈ sc.names → ∃ c, X.env.cells.lookup n = some c := fun n hn => ok.has n (c.free n hn)

theorem relabel_mem {env : Env} {x : Str} {k : NameKind} (hnc : ∀ x ∈ sc.names, x.2 ≠ NameKind.cell) (h : (relabel sc env).names.lookup x = some k) (hk : k = .cell ∨ k = .free) : (x, NameKind.free) ∈ sc.names := by
  have all : ∀ (l : List (Str × NameKind)), (∀ x ∈ l, x.2 ≠ NameKind.cell) → (l.map fun (n, k) => if (k == NameKind.free && env.scope.kind == .function && env.kindOf n == some .cell) then (n, NameKind.cell) else (n, k)).lookup x = some k → (x, NameKind.free) ∈ l := by
    intro l
    induction l with
    | nil => intro _ h; exact nomatch h
    | cons p r ih =>
      intro hn h
      obtain ⟨n, q⟩ := p
      rw [List.map_cons, List.lookup_cons] at h
      by_cases hc : (q == NameKind.free && env.scope.kind == .function && env.kindOf n == some .cell) = true
      · have hq : q = NameKind.free := by
          have := hc
          simp only [Bool.and_eq_true] at this
          simpa using this.1.1
        simp only [hc, if_true] at h
        cases hx : x == n with
        | true =>
          have e : x = n := by simpa using hx
          rw [e, hq]
          exact List.mem_cons_self
        | false =>
          rw [hx] at h
          exact List.mem_cons_of_mem _ (ih (fun y hy => hn y (List.mem_cons_of_mem _ hy)) h)
      · simp only [hc] at h
        cases hx : x == n with
        | true =>
          have e : x = n := by simpa using hx
          simp only [Bool.false_eq_true, if_false, hx] at h
          have e2 : q = k := by simpa using h
          rcases hk with z | z
          · exact absurd (e2.trans z) (hn (n, q) List.mem_cons_self)
          · rw [e, ← z, ← e2]
            exact List.mem_cons_self
        | false =>
          simp only [Bool.false_eq_true, if_false, hx] at h
          exact List.mem_cons_of_mem _ (ih (fun y hy => hn y (List.mem_cons_of_mem _ hy)) h)
  exact all sc.names hnc h

theorem comp_ok (c : CapOk X sc N' cap) (I : Inv X pins σ H s) (hC : s.heap.objs.size ≤ C) (hf : ∀ b ∈ fp, FpOk X pins H b) (hb : ∀ b ∈ fp, b < s.heap.objs.size) : (compCx X sc N' C s H fp).Ok where
  mod := I.ok.mod
  kind := c.kind
  glob := I.ok.glob
  blt := I.ok.blt
  above := hC
  inj := fun x y a hx hy => I.ok.inj x y a (lookup_clOf (c.cells I.ok) (fun z => by simp at z) hx) (lookup_clOf (c.cells I.ok) (fun z => by simp at z) hy)
  has := fun x hx => by
    refine clOf_has (.inl ?_)
    rcases hx with hx | hx
    · exact relabel_mem c.nocell hx (.inl rfl)
    · exact relabel_mem c.nocell hx (.inr rfl)
  cab := fun _ _ h => nomatch h
  hd := I.ok.hd
  frames := I.ok.frames
  stk := .inl rfl
  exf := fun b hb' => ⟨Nat.ne_of_lt (Nat.lt_of_lt_of_le (hb b hb') hC), fun x a e => (hf b hb').2.2.2.2.1 x a (lookup_clOf (c.cells I.ok) (fun z => by simp at z) e)⟩
  bs := I.bs
  bsz := Nat.le_trans I.ok.bsz I.sz
  noex := fun b o e hb' => by
    rcases (hf b hb').2.2.2.1 with z | z
    · exact I.ok.noex b o e z
    · exact absurd (Nat.lt_of_lt_of_le (Heap.lt_size e) (Nat.le_trans I.ok.bsz z)) (Nat.lt_irrefl _)
  exfs := fun b hb' z => by
    obtain ⟨_, f1, f2, _⟩ := hf b hb'
    rcases List.mem_cons.mp (I.stkSub b z) with e | e
    · exact f1 e
    · exact f2 e
  funs := I.stack
  frf := I.stkFree


theorem comp_inv (c : CapOk X sc N' cap) (I : Inv X pins σ H s) {D : Addr} {h1 : Heap} {t : Nat} (hC : C = s.heap.objs.size + 1) (hD : D = s.heap.objs.size) (hf : ∀ b ∈ fp, FpOk X pins H b) (hb : ∀ b ∈ fp, b < s.heap.objs.size)
    (hn : h1.Ns C fun _ => none) (hl : h1.get? D = some { cls := .type "list", data := .seq #[] 0 }) (k : ∀ b o, s.heap.get? b = some o → h1.get? b = some o) :
    Inv (compCx X sc N' C s H fp) [] (capS cap σ) (upd H D (.lst [])) { s with heap := h1, toks := t } := by
  have hCs : s.heap.objs.size ≤ C := by rw [hC]; exact Nat.le_succ _
  have hCD : C ≠ D := by rw [hC, hD]; exact Nat.succ_ne_self _
  have ok := comp_ok (C := C) (fp := fp) c I hCs hf hb
  have hDn : H D = none := by rw [hD]; exact I.fresh
  have ltc : ∀ x a, (clOf X.env.cells sc.names []).lookup x = some a → X.env.cells.lookup x = some a := fun x a e => lookup_clOf (c.cells I.ok) (fun z => by simp at z) e
  have cel : ∀ a v, s.heap.IsCell a v → h1.IsCell a v := fun a v ⟨o, ho, hd⟩ => ⟨o, k a o ho, hd⟩
  have ltD : ∀ a v, s.heap.IsCell a v → a ≠ D := fun a v ⟨o, ho, hd⟩ => by rw [hD]; exact Nat.ne_of_lt (Heap.lt_size ho)
  refine ⟨ok, rfl, I.bare, Un.laid k (by rw [hD]; exact Nat.le_refl _) hDn, ⟨_, hn, fun i x v e1 e2 e3 => ?_⟩, fun x a e => ?_, ?_, fun x a e => ?_, fun p hp => absurd hp (by simp [compCx]), ?_, ?_⟩
  · have e2' : cap[i]?.map (fun o => o.bind fun j => (σ[j]?).join) = some (some v) := by
      have := e2
      unfold capS at this
      rw [List.getElem?_map] at this
      exact this
    cases hc : cap[i]? with
    | none => rw [hc] at e2'; cases e2'
    | some o =>
      rw [hc] at e2'
      cases o with
      | none => cases e2'
      | some j =>
        have e4 : (σ[j]?).join = some v := by simpa using e2'
        obtain ⟨q1, q2', q3⟩ := c.slots i j x e1 hc
        have q2 : (x, NameKind.free) ∈ sc.names := q2'.elim (fun z => relabel_mem c.nocell z (.inl rfl)) fun z => relabel_mem c.nocell z (.inr rfl)
        obtain ⟨m, hm, hl'⟩ := I.loc
        have e5 : σ[j]? = some (some v) := by
          cases z : σ[j]? with
          | none => rw [z] at e4; cases e4
          | some y => rw [z] at e4; cases y with
            | none => cases e4
            | some y' => cases e4; rfl
        obtain ⟨u, r, l⟩ := hl' j x v q1 e5 q3
        refine ⟨u, r, ?_⟩
        obtain ⟨a, ha⟩ := clOf_has (cells := X.env.cells) (l := sc.names) (acc := []) (x := x) (.inl q2)
        have kd : X.env.kindOf x = some .cell ∨ X.env.kindOf x = some .free := c.free x q2
        rcases l with ⟨hk, _⟩ | ⟨hk, a', ha', hcell⟩
        · rcases kd with z | z <;> rw [z] at hk <;> cases hk
        · have e6 : a' = a := by
            have := ltc x a ha
            rw [ha'] at this
            exact Option.some.inj this
          refine .inr ⟨q2', a, ha, ?_⟩
          rw [← e6]
          exact cel _ _ hcell
  · obtain ⟨v, z⟩ := I.cell x a (ltc x a e)
    exact ⟨v, cel a v z⟩
  · show upd H D (.lst []) C = none
    rw [upd_ne hCD]
    exact I.hok.fresh hCs
  · show upd H D (.lst []) a = none
    obtain ⟨v, z⟩ := I.cell x a (ltc x a e)
    rw [upd_ne (ltD a v z)]
    exact I.freeC x a (ltc x a e)
  · exact I.hok.laid k (by rw [hD]; exact Nat.le_refl _) ⟨Nat.zero_le _, [], 0, .nil, hl⟩
  · show (capS cap σ).length = N'.length
    unfold capS
    rw [List.length_map, c.len]
end
end L2

set_option Elab.async false
set_option linter.all false
set_option maxRecDepth 100000
set_option maxHeartbeats 4000000
namespace L2
open PySem PySem.Spec PyProof.Rows


def capB (osc : Scope) (N : List Str) (sc : Scope) (N' : List Str) (cap : List (Option Nat)) : Bool :=
  decide (sc.kind = .function) && decide (cap.length = N'.length) && sc.names.all (fun x => decide (x.2 ≠ NameKind.cell)) && sc.names.all (fun x => decide (x.2 = NameKind.local → sc.names.lookup x.1 = some NameKind.local)) &&
  sc.names.all (fun x => decide (x.2 = NameKind.free → (osc.names.lookup x.1 = some .cell ∨ osc.names.lookup x.1 = some .free))) &&
  (N'.zip cap).all (fun p => match p.2 with
    | none => true
    | some j => decide (N[j]? = some p.1) && decide (((sc.names.map fun (n, k) => if (k == .free && osc.kind == .function && osc.names.lookup n == some .cell) then (n, NameKind.cell) else (n, k)).lookup p.1 = some .cell) ∨
        ((sc.names.map fun (n, k) => if (k == .free && osc.kind == .function && osc.names.lookup n == some .cell) then (n, NameKind.cell) else (n, k)).lookup p.1 = some .free)) &&
      decide (osc.names.lookup p.1 = some .local ∨ osc.names.lookup p.1 = some .cell ∨ osc.names.lookup p.1 = some .free))
theorem capB_ok {X : Cx} {sc : Scope} {N' : List Str} {cap : List (Option Nat)} (h : capB X.env.scope X.N sc N' cap = true) : CapOk X sc N' cap := by
  unfold capB at h
  rw [Bool.and_eq_true, Bool.and_eq_true, Bool.and_eq_true, Bool.and_eq_true, Bool.and_eq_true, List.all_eq_true, List.all_eq_true, List.all_eq_true, List.all_eq_true] at h
  obtain ⟨⟨⟨⟨⟨h1, h2⟩, h3⟩, h4⟩, h5⟩, h6⟩ := h
  refine ⟨of_decide_eq_true h1, of_decide_eq_true h2, fun x hx => of_decide_eq_true (h3 x hx), fun x hx => of_decide_eq_true (h4 x hx), fun n hn => of_decide_eq_true (h5 _ hn) rfl, fun i j x e1 e2 => ?_⟩
  have hm : (x, some j) ∈ N'.zip cap := by
    have e : (N'.zip cap)[i]? = some (x, some j) := by
      rw [List.getElem?_zip_eq_some]
      exact ⟨e1, e2⟩
    exact List.mem_of_getElem? e
  have h7 := h6 _ hm
  dsimp only at h7
  rw [Bool.and_eq_true, Bool.and_eq_true] at h7
  obtain ⟨⟨h8, h9⟩, h10⟩ := h7
  exact ⟨of_decide_eq_true h8, of_decide_eq_true (p := (relabel sc X.env).names.lookup x = some .cell ∨ (relabel sc X.env).names.lookup x = some .free) h9, of_decide_eq_true (p := X.env.scope.names.lookup x = some .local ∨ X.env.scope.names.lookup x = some .cell ∨ X.env.scope.names.lookup x = some .free) h10⟩


def PTs (X : Cx) (ifs : List Expr) (t : TT) : Prop :=
  ∀ (pins : List (Addr × Obj)) (s : Shared) (σ : St) (H : Hp) (Q : Bool → Hp → Prop), Inv X pins σ H s → t σ H Q →
    wpAny (model X.prog X.w) X.A (forIn ifs true fun c r => if r = true then do let ok ← isTrue c X.env (eval c X.env); pure (ForInStep.yield ok) else pure (ForInStep.yield r)) (TP X pins σ Q) X.xe s
def tYes : TT := fun _ H Q => Q true H
theorem pts_nil {X : Cx} : PTs X [] tYes := fun _ _ _ H _ I h => wpAny_tests_nil ⟨H, I, h⟩
theorem pts_one {X : Cx} {c : Expr} {t : TT} (h : PT X c t) : PTs X [c] t := fun pins s σ H Q I hw => wpAny_tests_one (h pins s σ H Q I hw)


def RunC (J : It) (g : TG) (tc : TT) (te : TE) (D : Addr) (Q : Hp → Prop) (τ : St) (H : Hp) : Prop :=
  ∃ W : Nat → Nat → List V → St → Hp → Prop, (∃ m, W 0 m [] τ H) ∧ ∀ i m ys τ H, W i m ys τ H →
    (J.stop i H ∧ Q H) ∨
    (J.go i H ∧ ∃ N : List V → St → Hp → Prop, (∀ ys' τ' H', N ys' τ' H' → ∃ m', m' < m ∧ W (i + 1) m' ys' τ' H') ∧
      ∀ x H', J.yld i H x H' → g x τ H' fun τ2 H2 => tc τ2 H2 fun b H3 => if b = true then te τ2 H3 fun y H4 => H4 D = some (.lst ys) ∧ ys.length < sizeLine ∧ N (ys ++ [y]) τ2 (upd H4 D (.lst (ys ++ [y]))) else N ys τ2 H3)

section
variable {X : Cx} {sc : Scope} {N' : List Str} {cap : List (Option Nat)} {tg elt iter : Expr} {ifs : List Expr} {pos : Pos} {g : TG} {tc : TT} {te : TE}

theorem comp_loop {Y : Cx} {J : It} {fp : List Addr} {it D : Addr} {tn : Nat → Heap → Prop} {R : Result → Shared → Prop} {Q : Hp → Prop} {τ : St} {H : Hp} {s : Shared}
    (hx : Y.xe = fun _ _ => False) (hc : Y.calm = true) (hg : PG Y tg g) (ht : PTs Y ifs tc) (he : PE Y elt te) (T : Turn Y.prog Y.w Y.K tg J fp it tn) (st : tn 0 s.heap) (hf : ∀ b ∈ fp, FpOk Y [] H b) (I : Inv Y [] τ H s)
    (h : RunC J g tc te D Q τ H) (hR : ∀ τ' H' s', Inv Y [] τ' H' s' → Q H' → R (.ok .next) s') :
    codeAny (model Y.prog Y.w) Y.A (.compLoop (.ListComp elt [⟨tg, iter, ifs, 0⟩] sc pos) 0 (.ref it) (.ref D) Y.env) R s := by
  obtain ⟨W, ⟨m0, w0⟩, turn⟩ := h
  have stat : ∀ {H' : Hp}, (∀ b ∈ fp, H' b = none) → ∀ b ∈ fp, FpOk Y [] H' b := fun hn b hb => ⟨hn b hb, (hf b hb).2⟩
  have no : ∀ {P : Prop} {e : Value} {s' : Shared}, Y.xe e s' → P := fun z => by rw [hx] at z; exact z.elim
  refine codeAny_loop rfl (fun n s' => ∃ i ys τ' H', Inv Y [] τ' H' s' ∧ tn i s'.heap ∧ (∀ b ∈ fp, H' b = none) ∧ W i n ys τ' H') ?_ m0 ⟨0, [], τ, H, I, st, fun b hb => (hf b hb).1, w0⟩
  rintro n s3 ⟨i, ys, τ3, H3, I3, st3, fr3, w3⟩
  show wpAny _ Y.A ((compTurn (.ListComp elt [⟨tg, iter, ifs, 0⟩] sc pos) 0 (.ref it) (.ref D) Y.env).onRaise (fun x => do noteFrame x Y.env; theTreesLotGoes x)) _ _ s3
  refine wpAny_noted ?_
  rw [compTurn_list]
  refine wpAny_bind (wpAny_standAt (wpAny_bind ?_))
  rcases turn i n ys τ3 H3 w3 with ⟨stop, qn⟩ | ⟨go, N, hN, step⟩
  · refine wpAny_mono (T.done Y rfl rfl rfl hc i [] s3 τ3 H3 (fun _ _ => False) I3 (stat fr3) st3 stop) (fun r s4 ⟨hr, I4⟩ => ?_) fun _ _ z => z.elim
    subst hr
    exact wpAny_pure (hR _ _ _ I4 qn)
  · refine wpAny_mono (T.item Y rfl rfl rfl hc i [] s3 τ3 H3 (fun _ _ => False) I3 (stat fr3) st3 go) (fun r s4 ⟨u, hr, h4⟩ => ?_) fun _ _ z => z.elim
    subst hr
    refine wpAny_bind (wpAny_mono h4 (fun _ s5 ⟨x, H5, I5, r5, y5, st5, fr5⟩ => ?_) fun _ _ z => z.elim)
    have I5' := I5.pinned (stat fr5) (T.obj _ _ st5)
    have again : ∀ {τ7 : St} {H7 : Hp} {ys7 : List V} {s7 : Shared}, Inv Y ([] ++ pinsAt fp s5.heap) τ7 H7 s7 → N ys7 τ7 H7 → ∃ m, m < n ∧ ∃ i ys τ' H', Inv Y [] τ' H' s7 ∧ tn i s7.heap ∧ (∀ b ∈ fp, H' b = none) ∧ W i m ys τ' H' := fun {τ7 H7 ys7 s7} I7 n7 => by
      obtain ⟨m', hm, w7⟩ := hN ys7 τ7 H7 n7
      refine ⟨m', hm, i + 1, ys7, τ7, H7, I7.unpinned, T.keep _ _ _ st5 fun b hb o e => (I7.pin (b, o) (List.mem_append_right _ (List.mem_append_right _ (mem_pinsAt hb e)))).1, fun b hb => ?_, w7⟩
      obtain ⟨o, e, d⟩ := T.obj _ _ st5 b hb
      exact (I7.pin (b, o) (List.mem_append_right _ (List.mem_append_right _ (mem_pinsAt hb e)))).2.1
    refine wpAny_bind (wpAny_mono (hg _ s5 τ3 H5 x u _ I5' r5 (step x H5 y5)) (fun _ s6 ⟨τ6, H6, I6, q6⟩ => ?_) fun _ _ z => no z)
    refine wpAny_bind (wpAny_mono (ht _ s6 τ6 H6 _ I6 q6) (fun ok s7 ⟨H7, I7, q7⟩ => ?_) fun _ _ z => no z)
    cases ok with
    | false =>
      have q8 : N ys τ6 H7 := by simpa using q7
      exact wpAny_pure ⟨rfl, again I7 q8⟩
    | true =>
      have q8 : te τ6 H7 fun y H4 => H4 D = some (.lst ys) ∧ ys.length < sizeLine ∧ N (ys ++ [y]) τ6 (upd H4 D (.lst (ys ++ [y]))) := by simpa using q7
      refine wpAny_bind (wpAny_bind (wpAny_mono (he _ s7 τ6 H7 _ I7 q8) (fun y s8 ⟨v8, H8, I8, r8, hD, hl, n8⟩ => ?_) fun _ _ z => no z))
      refine wpAny_bind (wpAny_mono (mt_append _ s8 τ6 H8 (.ref D) [v8] (.ref D) [y] (fun _ H9 => N (ys ++ [v8]) τ6 H9) I8 rfl (.cons r8 .nil) ⟨D, ys, v8, rfl, rfl, hD, hl, n8⟩) (fun _ s9 ⟨_, H9, I9, _, n9⟩ => ?_) fun _ _ z => no z)
      exact wpAny_pure (wpAny_pure ⟨rfl, again I9 n9⟩)


theorem comp_block {pins : List (Addr × Obj)} {σ : St} {H : Hp} {s : Shared} {J : It} {fp : List Addr} {it : Addr} {tn : Nat → Heap → Prop} {RR : Value → Addr → Result → Shared → Prop} {Q : Addr → Hp → Prop} {E : Value → Shared → Prop}
    (c : CapOk X sc N' cap) (hc : X.calm = true) (hg : ∀ C s₀ H₀ fp, PG (compCx X sc N' C s₀ H₀ fp) tg g) (ht : ∀ C s₀ H₀ fp, PTs (compCx X sc N' C s₀ H₀ fp) ifs tc) (he : ∀ C s₀ H₀ fp, PE (compCx X sc N' C s₀ H₀ fp) elt te)
    (I : Inv X pins σ H s) (T : Turn X.prog X.w X.K tg J fp it tn) (st : tn 0 s.heap) (hf : ∀ b ∈ fp, FpOk X pins H b)
    (h : ∀ D, H D = none → RunC J g tc te D (Q D) (capS cap σ) (upd H D (.lst [])))
    (hR : ∀ D C s' H' m', H D = none → s.heap.objs.size ≤ C → s'.os = s.os → AllBare s'.gens → Un (frs X.stack) fp H H' s.heap s'.heap → HOk X.prog X.w H' s'.heap → s'.heap.Ns C m' → H' C = none → C ∉ fp → Q D H' → RR (.ref D) C (.ok .next) s') :
    wpAny (model X.prog X.w) X.A (newList []) (fun acc s₃ => wpAny (model X.prog X.w) X.A (newFunctionEnv sc X.env.globals (clOf X.env.cells sc.names []) [] X.env.qual none .none (some X.env)) (fun cenv s₄ =>
      codeAny (model X.prog X.w) X.A (.compStart (.ListComp elt [⟨tg, iter, ifs, 0⟩] sc pos) 0 (.ref it) acc { cenv with scope := relabel sc X.env }) (RR acc cenv.locals) s₄) E s₃) E s := by
  have hb : ∀ b ∈ fp, b < s.heap.objs.size := fun b hb => by
    obtain ⟨o, e, _⟩ := T.obj _ _ st b hb
    exact Heap.lt_size e
  refine wpAny_newObj_type (wpAny_newFunctionEnv c.nocell (by intro y hy; simp at hy) (fun h₁ hns₁ hsb₁ => ?_) c.kind)
  dsimp only at hns₁ hsb₁ ⊢
  generalize hH2 : s.heap.push { cls := .type "list", dict := none, data := .seq ([] : List Value).toArray } = H2 at hns₁ hsb₁ ⊢
  have hC : H2.objs.size = s.heap.objs.size + 1 := by rw [← hH2, Heap.size_push]
  have hCl : s.heap.objs.size ≤ H2.objs.size := by rw [hC]; exact Nat.le_succ _
  have hCn : s.heap.objs.size ≠ H2.objs.size := by rw [hC]; exact (Nat.succ_ne_self _).symm
  have old : ∀ b o, s.heap.get? b = some o → h₁.get? b = some o := fun b o e => by
    have l1 := Heap.lt_size e
    exact hsb₁.extBut b o (Nat.ne_of_lt (Nat.lt_of_lt_of_le l1 hCl)) (Heap.get?_push_of_some _ (hH2 ▸ Heap.get?_push_of_some _ e))
  have hl : h₁.get? s.heap.objs.size = some { cls := .type "list", data := .seq #[] 0 } := hsb₁.extBut _ _ hCn (Heap.get?_push_of_some _ (hH2 ▸ Heap.get?_push_size _ rfl))
  have hns₂ : h₁.Ns H2.objs.size fun _ => none := by simpa using hns₁
  have I4 : Inv (compCx X sc N' H2.objs.size s H fp) [] (capS cap σ) (upd H s.heap.objs.size (.lst [])) { s with heap := h₁, toks := s.toks + ([] : List (Str × Value)).length } := comp_inv c I hC rfl hf hb hns₂ hl old
  have hfr : H s.heap.objs.size = none := I.fresh
  have f4 : ∀ b ∈ fp, FpOk (compCx X sc N' H2.objs.size s H fp) [] (upd H s.heap.objs.size (.lst [])) b := fun b hb' => by
    obtain ⟨f0, f1, f2, f3, f4, f5⟩ := hf b hb'
    have lb := hb b hb'
    refine ⟨by rw [upd_ne (Nat.ne_of_lt lb)]; exact f0, (Nat.ne_of_lt (Nat.lt_of_lt_of_le lb hCl) : b ≠ H2.objs.size), fun z => ?_, .inl hb', fun x a e => f4 x a (lookup_clOf (c.cells I.ok) (fun z => by simp at z) e), fun p hp => absurd hp (by simp [compCx])⟩
    rcases List.mem_cons.mp (I.stkSub b z) with e | e
    · exact f1 e
    · exact f2 e
  have st4 : tn 0 h₁ := T.keep _ _ _ st fun b _ o e => old b o e
  have loop : ∀ s₅ : Shared, s₅ = { s with heap := h₁, toks := s.toks + ([] : List (Str × Value)).length } →
      codeAny (model X.prog X.w) X.A (.compLoop (.ListComp elt [⟨tg, iter, ifs, 0⟩] sc pos) 0 (.ref it) (.ref s.heap.objs.size) (compCx X sc N' H2.objs.size s H fp).env) (RR (.ref s.heap.objs.size) H2.objs.size) s₅ := by
    rintro s₅ rfl
    refine comp_loop (Y := compCx X sc N' H2.objs.size s H fp) (J := J) (fp := fp) (tn := tn) (Q := Q s.heap.objs.size) rfl hc (hg _ _ _ _) (ht _ _ _ _) (he _ _ _ _) T st4 f4 I4 (h _ hfr) fun τ' H' s' I' q' => ?_
    obtain ⟨m', hn', _⟩ := I'.loc
    exact hR _ _ s' H' m' hfr hCl I'.os I'.bare I'.base I'.hok hn' I'.free (fun z => absurd (Nat.lt_of_lt_of_le (hb _ z) hCl) (Nat.lt_irrefl _)) q'
  exact codeAny_compStart_list (loop _ rfl) (T.self _ 0 _ _ _ st4 (loop _ rfl))

def tComp (wi : TI) (cap : List (Option Nat)) (g : TG) (tc : TT) (te : TE) : TE := fun σ H Q => wi σ H fun J H1 => ∀ D, H1 D = none → RunC J g tc te D (fun H' => Q (.ref D) H') (capS cap σ) (upd H1 D (.lst []))

theorem Inv.fpCh {pins : List (Addr × Obj)} {H : Hp} {fp : List Addr} (hf : ∀ b ∈ fp, FpOk X pins H b) : ∀ b ∈ fp, (b ∈ X.ex ∨ X.s₀.heap.objs.size ≤ b) ∧ b ≠ X.env.locals ∧ (∀ x c, X.env.cells.lookup x = some c → c ≠ b) ∧ ∀ p ∈ X.pn ++ pins, p.1 ≠ b :=
  fun b hb => let ⟨_, f1, _, f3, f4, f5⟩ := hf b hb; ⟨f3, f1, f4, f5⟩

theorem pe_comp {wi : TI} (hc : X.calm = true) (hcap : capB X.env.scope X.N sc N' cap = true) (hi : PI X tg iter wi) (hg : ∀ C s₀ H₀ fp, PG (compCx X sc N' C s₀ H₀ fp) tg g) (ht : ∀ C s₀ H₀ fp, PTs (compCx X sc N' C s₀ H₀ fp) ifs tc)
    (he : ∀ C s₀ H₀ fp, PE (compCx X sc N' C s₀ H₀ fp) elt te) (hs : ∀ x, foldedSetIterable iter X.env x = pure x := by intro _; rfl) : PE X (.ListComp elt [⟨tg, iter, ifs, 0⟩] sc pos) (tComp wi cap g tc te) := by
  intro pins s σ H Q I h
  have c : CapOk X sc N' cap := capB_ok hcap
  rw [eval_ListComp]
  refine wpAny_comprehension_free (use := none) rfl hs (closure_ok (c.cells I.ok)) c.kind c.locals (thn (hi pins s σ H _ I h) fun v s1 h1 => thn h1 fun itv s2 h2 => ?_)
  obtain ⟨it, fp, tn, J, H2, e, I2, T, st2, f2, hW⟩ := h2
  subst e
  refine comp_block (RR := fun acc C => compPost (model X.prog X.w) X.A X.xe none (EP X pins σ Q) acc C) (Q := fun D H' => Q (.ref D) H') c hc hg ht he I2 T st2 f2 hW ?_
  intro D C s' H' m' hD hC hos hbare hun hok hn hHC hCf q
  refine ⟨m', hn, fun h' hsb => ?_⟩
  have I3 : Inv X pins σ H' s' := I2.call' hos hun hok hbare (Inv.fpCh f2)
  have f3 : FpOk X pins H' C := I2.fpOk hC hHC
  obtain ⟨_, k1, _, k3, k4, k5⟩ := f3
  have I4 : Inv X pins σ H' { s' with heap := h' } := I3.turned (t' := s'.toks) (fun b o hb e => (hsb.2 b hb).trans e) hHC k1 k3 k4 k5
  exact ⟨.ref D, H', I4, rfl, q⟩


theorem ps_setC {wi : TI} {i : Nat} {x : Str} {px spos : Pos} (hN : X.N.Nodup) (hi' : X.N[i]? = some x) (hx : Loc X.env.scope x) (hc : X.calm = true) (hcap : capB X.env.scope X.N sc N' cap = true) (hi : PI X tg iter wi)
    (hg : ∀ C s₀ H₀ fp, PG (compCx X sc N' C s₀ H₀ fp) tg g) (ht : ∀ C s₀ H₀ fp, PTs (compCx X sc N' C s₀ H₀ fp) ifs tc) (he : ∀ C s₀ H₀ fp, PE (compCx X sc N' C s₀ H₀ fp) elt te)
    (hsw : swapsWith (.ListComp elt [⟨tg, iter, ifs, 0⟩] sc pos) (some (.Name x px)) spos.line X.env = pure true := by rfl)
    (hs : ∀ x, foldedSetIterable iter X.env x = pure x := by intro _; rfl) (hf : X.fn x = true ∨ X.env.scope.names.lookup x = some .local := by first | exact .inl rfl | exact .inr rfl | assumption) :
    PS X (.Assign [.Name x px] (.ListComp elt [⟨tg, iter, ifs, 0⟩] sc pos) spos) (tAsg (tComp wi cap g tc te) (gName i)) := by
  intro pins s σ H D I h
  have c : CapOk X sc N' cap := capB_ok hcap
  rw [exec_Assign_Name_used _ _ _ _ hsw]
  refine wpAny_bind (wpAny_standAt (wpAny_bind ?_))
  show wpAny _ X.A (do let _ ← comprehension (.ListComp elt [⟨tg, iter, ifs, 0⟩] sc pos) sc X.env _ (newList []) false (eval iter X.env) (some (assign (.Name x px) X.env))) _ _ s
  refine wpAny_bind (thn (wpAny_comprehension_free (use := some (assign (.Name x px) X.env)) (Q := fun _ s' => SP X pins D .next s') rfl hs (closure_ok (c.cells I.ok)) c.kind c.locals
    (thn (hi pins s σ H _ I h) fun v s1 h1 => thn h1 fun itv s2 h2 => ?_)) fun _ s' hq => wpAny_pure (wpAny_pure hq))
  obtain ⟨it, fp, tn, J, H2, e, I2, T, st2, f2, hW⟩ := h2
  subst e
  refine comp_block (RR := fun acc C => compPost (model X.prog X.w) X.A X.xe (some (assign (.Name x px) X.env)) (fun _ s' => SP X pins D .next s') acc C) (Q := fun A H' => gName i (.ref A) σ H' D.nx) c hc hg ht he I2 T st2 f2 hW ?_
  intro A C s' H' m' hD hC hos hbare hun hok hn hHC hCf q
  have I3 : Inv X pins σ H' s' := I2.call' hos hun hok hbare (Inv.fpCh f2)
  have f3 : FpOk X pins H' C := I2.fpOk hC hHC
  obtain ⟨_, k1, _, k3, k4, k5⟩ := f3
  show wpAny _ X.A (assign (.Name x px) X.env (.ref A)) _ _ s'
  refine wpAny_assign_Name (store_ok2 I3 hN hi' hx (v := .ref A) rfl (fun s'' I'' ⟨a, hsb, ha⟩ => ?_) hf)
  have hCa : C ≠ a := by
    rcases ha with z | z
    · rw [z]; exact k1
    · exact fun z' => k4 x a z z'.symm
  refine ⟨m', hn.sameBut hsb hCa, fun h' hsb' => ?_⟩
  have I4 : Inv X pins (σ.set i (some (.ref A))) H' { s'' with heap := h' } := I''.turned (t' := s''.toks) (fun b o hb e => (hsb'.2 b hb).trans e) hHC k1 k3 k4 k5
  exact ⟨_, H', I4, q⟩
end


section
variable {g : TG} {tc : TT} {te : TE} {D : Addr} {Q : Hp → Prop} {τ : St} {H : Hp}
theorem comp_list {K : PySem.W.Frag} {a : Addr} {xs : List V} (Pv : Nat → List V → St → Hp → Prop) (h0 : Pv 0 [] τ H) (hl : ∀ i ys τ H, i ≤ xs.length → Pv i ys τ H → SqL K H a xs)
    (hs : ∀ i x ys τ H, xs[i]? = some x → Pv i ys τ H → g x τ H fun τ2 H2 => tc τ2 H2 fun b H3 => if b = true then te τ2 H3 fun y H4 => H4 D = some (.lst ys) ∧ ys.length < sizeLine ∧ Pv (i + 1) (ys ++ [y]) τ2 (upd H4 D (.lst (ys ++ [y]))) else Pv (i + 1) ys τ2 H3)
    (hd : ∀ ys τ H, Pv xs.length ys τ H → Q H) : RunC (Itl K a) g tc te D Q τ H := by
  refine ⟨fun i m ys τ H => m = xs.length - i ∧ i ≤ xs.length ∧ Pv i ys τ H, ⟨xs.length, by simp, Nat.zero_le _, h0⟩, ?_⟩
  rintro i m ys τ H ⟨rfl, hi, p⟩
  have q := hl i ys τ H hi p
  by_cases hlt : i < xs.length
  · refine .inr ⟨⟨xs, xs[i], q, by simp [hlt]⟩, Pv (i + 1), fun ys' τ' H' p' => ⟨xs.length - (i + 1), by omega, rfl, hlt, p'⟩, fun x H' y => ?_⟩
    obtain ⟨e, y⟩ := y
    subst e
    exact hs i x ys τ _ (y xs q) p
  · have e : i = xs.length := by omega
    subst e
    exact .inl ⟨⟨xs, q, Nat.le_refl _⟩, hd ys τ H p⟩
theorem comp_tup {K : PySem.W.Frag} {a : Addr} {xs : List V} (Pv : Nat → List V → St → Hp → Prop) (h0 : Pv 0 [] τ H) (hl : ∀ i ys τ H, i ≤ xs.length → Pv i ys τ H → SqT K H a xs)
    (hs : ∀ i x ys τ H, xs[i]? = some x → Pv i ys τ H → g x τ H fun τ2 H2 => tc τ2 H2 fun b H3 => if b = true then te τ2 H3 fun y H4 => H4 D = some (.lst ys) ∧ ys.length < sizeLine ∧ Pv (i + 1) (ys ++ [y]) τ2 (upd H4 D (.lst (ys ++ [y]))) else Pv (i + 1) ys τ2 H3)
    (hd : ∀ ys τ H, Pv xs.length ys τ H → Q H) : RunC (Itt K a) g tc te D Q τ H := by
  refine ⟨fun i m ys τ H => m = xs.length - i ∧ i ≤ xs.length ∧ Pv i ys τ H, ⟨xs.length, by simp, Nat.zero_le _, h0⟩, ?_⟩
  rintro i m ys τ H ⟨rfl, hi, p⟩
  have q := hl i ys τ H hi p
  by_cases hlt : i < xs.length
  · refine .inr ⟨⟨xs, xs[i], q, by simp [hlt]⟩, Pv (i + 1), fun ys' τ' H' p' => ⟨xs.length - (i + 1), by omega, rfl, hlt, p'⟩, fun x H' y => ?_⟩
    obtain ⟨e, y⟩ := y
    subst e
    exact hs i x ys τ _ (y xs q) p
  · have e : i = xs.length := by omega
    subst e
    exact .inl ⟨⟨xs, q, Nat.le_refl _⟩, hd ys τ H p⟩
theorem comp_range {lo : Int} {n : Nat} (Pv : Nat → List V → St → Hp → Prop) (h0 : Pv 0 [] τ H)
    (hs : ∀ i ys τ H, i < n → Pv i ys τ H → g (.int (lo + i)) τ H fun τ2 H2 => tc τ2 H2 fun b H3 => if b = true then te τ2 H3 fun y H4 => H4 D = some (.lst ys) ∧ ys.length < sizeLine ∧ Pv (i + 1) (ys ++ [y]) τ2 (upd H4 D (.lst (ys ++ [y]))) else Pv (i + 1) ys τ2 H3)
    (hd : ∀ ys τ H, Pv n ys τ H → Q H) : RunC (Itr lo n) g tc te D Q τ H := by
  refine ⟨fun i m ys τ H => m = n - i ∧ i ≤ n ∧ Pv i ys τ H, ⟨n, by simp, Nat.zero_le _, h0⟩, ?_⟩
  rintro i m ys τ H ⟨rfl, hi, p⟩
  by_cases hlt : i < n
  · refine .inr ⟨hlt, Pv (i + 1), fun ys' τ' H' p' => ⟨n - (i + 1), by omega, rfl, hlt, p'⟩, fun x H' y => ?_⟩
    obtain ⟨e, y⟩ := y
    subst e y
    exact hs i ys τ _ hlt p
  · have e : i = n := by omega
    subst e
    exact .inl ⟨Nat.le_refl _, hd ys τ H p⟩
end
end L2

set_option Elab.async false
set_option linter.all false
set_option maxRecDepth 100000
set_option maxHeartbeats 4000000

namespace L2
open PySem PySem.Spec PyProof.Rows PySem.SeqAt

inductive D where
  | non | bl (b : Bool) | int (i : Int) | str (x : Str) | tup (ds : List D) | lst (ds : List D)

mutual
def Rep (K : PySem.W.Frag) (H : Hp) : V → D → Prop
  | v, .non => v = .non
  | v, .bl b => v = .bl b
  | v, .int i => v = .int i
  | v, .str x => v = .str x
  | v, .tup ds => ∃ a vs, v = .ref a ∧ SqT K H a vs ∧ Reps K H vs ds
  | v, .lst ds => ∃ a vs, v = .ref a ∧ SqL K H a vs ∧ Reps K H vs ds
def Reps (K : PySem.W.Frag) (H : Hp) : List V → List D → Prop
  | vs, [] => vs = []
  | vs, d :: ds => ∃ v r, vs = v :: r ∧ Rep K H v d ∧ Reps K H r ds
end
mutual
def imm : D → Bool
  | .lst _ => false
  | .tup ds => imms ds
  | _ => true
def imms : List D → Bool
  | [] => true
  | d :: ds => imm d && imms ds
end
mutual
def dep : D → Nat
  | .lst ds => deps ds + 1
  | .tup ds => deps ds + 1
  | _ => 0
def deps : List D → Nat
  | [] => 0
  | d :: ds => max (dep d) (deps ds)
end
mutual
def eqD : D → D → Bool
  | .non, .non => true
  | .bl a, .bl b => a == b
  | .bl a, .int b => (if a then 1 else 0) == b
  | .int a, .bl b => a == (if b then 1 else 0)
  | .int a, .int b => a == b
  | .str a, .str b => a == b
  | .tup a, .tup b => eqDs a b
  | .lst a, .lst b => eqDs a b
  | _, _ => false
def eqDs : List D → List D → Bool
  | [], [] => true
  | a :: r, b :: q => eqD a b && eqDs r q
  | _, _ => false
end
mutual
theorem eqD_refl (d : D) : eqD d d = true := by
  cases d with
  | non => rfl
  | bl b => simp [eqD]
  | int b => simp [eqD]
  | str b => simp [eqD]
  | tup ds => simp only [eqD]; exact eqDs_refl ds
  | lst ds => simp only [eqD]; exact eqDs_refl ds
theorem eqDs_refl (ds : List D) : eqDs ds ds = true := by
  cases ds with
  | nil => rfl
  | cons d r => simp only [eqDs, Bool.and_eq_true]; exact ⟨eqD_refl d, eqDs_refl r⟩
end
theorem eqDs_len : ∀ {a b : List D}, eqDs a b = true → a.length = b.length
  | [], [], _ => rfl
  | [], _ :: _, h => by simp [eqDs] at h
  | _ :: _, [], h => by simp [eqDs] at h
  | x :: a, y :: b, h => by
    simp only [eqDs, Bool.and_eq_true] at h
    rw [List.length_cons, List.length_cons, eqDs_len h.2]
theorem eqDs_all : ∀ (a b : List D), a.length = b.length → eqDs a b = (List.range a.length).all fun j => match a[j]?, b[j]? with | some x, some y => eqD x y | _, _ => true
  | [], [], _ => by simp [eqDs]
  | [], _ :: _, h => by simp at h
  | _ :: _, [], h => by simp at h
  | x :: a, y :: b, h => by
    have h' : a.length = b.length := by simpa using h
    rw [List.length_cons, List.range_succ_eq_map, List.all_cons, List.all_map]
    simp only [eqDs, eqDs_all a b h']
    congr 1


structure TSame (H H' : Hp) : Prop where
  tup : ∀ b xs, H b = some (.tup xs) → H' b = some (.tup xs)
  frz : ∀ b o u, H b = some (.frz o u) → H' b = some (.frz o u)
section
variable {K : PySem.W.Frag} {H H' H1 H2 : Hp} {a l p : Addr} {xs : List V} {o : HO}
theorem TSame.refl : TSame H H := ⟨fun _ _ h => h, fun _ _ _ h => h⟩
theorem TSame.trans (x : TSame H H1) (y : TSame H1 H2) : TSame H H2 := ⟨fun b xs h => y.tup b xs (x.tup b xs h), fun b o u h => y.frz b o u (x.frz b o u h)⟩
theorem Same.t (x : Same H H') : TSame H H' := ⟨fun b xs h => x b _ h, fun b o u h => x b _ h⟩
theorem TSame.new (h : H l = none) : TSame H (upd H l o) := ⟨fun b xs e => by rw [upd_ne (ne_of_none e h)]; exact e, fun b ob u e => by rw [upd_ne (ne_of_none e h)]; exact e⟩
theorem TSame.lst (h : H l = some (.lst xs)) : TSame H (upd H l o) := ⟨fun b ys e => by rw [upd_ne (ne_of e h (by intro z; cases z))]; exact e, fun b ob u e => by rw [upd_ne (ne_of e h (by intro z; cases z))]; exact e⟩
theorem Same.new (h : H l = none) : Same H (upd H l o) := fun b u e => by rw [upd_ne (ne_of_none e h)]; exact e

theorem Same.turn (x : Same H H1) (h : H l = none) : Same H (upd H1 l o) := fun b u e => by rw [upd_ne (ne_of_none e h)]; exact x b u e
theorem SqT.t (x : TSame H H') (h : SqT K H a xs) : SqT K H' a xs := by
  rcases h with (h | ⟨o, h⟩) | h
  · exact .inl (.inl (x.tup _ _ h))
  · exact .inl (.inr ⟨o, x.frz _ _ _ h⟩)
  · exact .inr h
theorem Same.seqT (x : Same H H') (h : SqT K H a xs) : SqT K H' a xs := h.t x.t
theorem SqL.up (h : SqL K H a xs) (hn : H l = none ∨ (∃ ys, H l = some (.tup ys))) : SqL K (upd H l o) a xs := by
  rcases h with (h | ⟨o, h⟩) | h
  · refine .inl (.inl ?_)
    rw [upd_ne]
    · exact h
    · rcases hn with z | ⟨ys, z⟩
      · exact ne_of_none h z
      · exact ne_of h z (by intro q; cases q)
  · refine .inl (.inr ⟨o, ?_⟩)
    rw [upd_ne]
    · exact h
    · rcases hn with z | ⟨ys, z⟩
      · exact ne_of_none h z
      · exact ne_of h z (by intro q; cases q)
  · exact .inr h
mutual
theorem Rep.t (x : TSame H H') {v : V} {d : D} (hi : imm d = true) (h : Rep K H v d) : Rep K H' v d := by
  cases d with
  | non => exact h
  | bl b => exact h
  | int i => exact h
  | str x => exact h
  | tup ds =>
    obtain ⟨a, vs, e, q, r⟩ := h
    exact ⟨a, vs, e, q.t x, Reps.t x (by simpa [imm] using hi) r⟩
  | lst ds => simp [imm] at hi
theorem Reps.t (x : TSame H H') {vs : List V} {ds : List D} (hi : imms ds = true) (h : Reps K H vs ds) : Reps K H' vs ds := by
  cases ds with
  | nil => exact h
  | cons d r =>
    obtain ⟨v, q, e, h1, h2⟩ := h
    simp only [imms, Bool.and_eq_true] at hi
    exact ⟨v, q, e, Rep.t x hi.1 h1, Reps.t x hi.2 h2⟩
end
mutual
theorem Rep.same (x : Same H H') {v : V} {d : D} (h : Rep K H v d) : Rep K H' v d := by
  cases d with
  | non => exact h
  | bl b => exact h
  | int i => exact h
  | str x => exact h
  | tup ds =>
    obtain ⟨a, vs, e, q, r⟩ := h
    exact ⟨a, vs, e, x.seqT q, Reps.same x r⟩
  | lst ds =>
    obtain ⟨a, vs, e, q, r⟩ := h
    exact ⟨a, vs, e, x.seq q, Reps.same x r⟩
theorem Reps.same (x : Same H H') {vs : List V} {ds : List D} (h : Reps K H vs ds) : Reps K H' vs ds := by
  cases ds with
  | nil => exact h
  | cons d r =>
    obtain ⟨v, q, e, h1, h2⟩ := h
    exact ⟨v, q, e, Rep.same x h1, Reps.same x h2⟩
end
theorem Reps.length : ∀ {vs : List V} {ds : List D}, Reps K H vs ds → vs.length = ds.length
  | vs, [], h => by cases (show vs = [] from h); rfl
  | vs, d :: ds, h => by
    obtain ⟨v, r, rfl, _, h2⟩ := h
    rw [List.length_cons, List.length_cons, Reps.length h2]
theorem Reps.get : ∀ {vs : List V} {ds : List D} {i : Nat} {d : D}, Reps K H vs ds → ds[i]? = some d → ∃ v, vs[i]? = some v ∧ Rep K H v d
  | vs, [], i, d, h, e => by simp at e
  | vs, d0 :: ds, 0, d, h, e => by
    obtain ⟨v, r, rfl, h1, _⟩ := h
    simp only [List.getElem?_cons_zero, Option.some.injEq] at e
    subst e
    exact ⟨v, by simp, h1⟩
  | vs, d0 :: ds, i + 1, d, h, e => by
    obtain ⟨v, r, rfl, _, h2⟩ := h
    obtain ⟨u, e1, e2⟩ := Reps.get (i := i) h2 (by simpa using e)
    exact ⟨u, by simpa using e1, e2⟩
theorem Reps.getV : ∀ {vs : List V} {ds : List D} {i : Nat} {v : V}, Reps K H vs ds → vs[i]? = some v → ∃ d, ds[i]? = some d ∧ Rep K H v d := fun {vs ds i v} h e => by
  have hl := h.length
  have hi : i < vs.length := (List.getElem?_eq_some_iff.mp e).1
  obtain ⟨d, hd⟩ : ∃ d, ds[i]? = some d := ⟨ds[i]'(by omega), by simp <;> omega⟩
  obtain ⟨u, e1, e2⟩ := h.get hd
  rw [e] at e1
  cases e1
  exact ⟨d, hd, e2⟩
theorem Reps.append : ∀ {vs ws : List V} {ds es : List D}, Reps K H vs ds → Reps K H ws es → Reps K H (vs ++ ws) (ds ++ es)
  | vs, ws, [], es, h, h' => by cases (show vs = [] from h); exact h'
  | vs, ws, d :: ds, es, h, h' => by
    obtain ⟨v, r, rfl, h1, h2⟩ := h
    exact ⟨v, r ++ ws, rfl, h1, Reps.append h2 h'⟩
theorem Reps.one {v : V} {d : D} (h : Rep K H v d) : Reps K H [v] [d] := ⟨v, [], rfl, h, rfl⟩
theorem Reps.snoc {vs : List V} {ds : List D} {v : V} {d : D} (h : Reps K H vs ds) (h' : Rep K H v d) : Reps K H (vs ++ [v]) (ds ++ [d]) := h.append (.one h')
theorem Reps.take : ∀ {vs : List V} {ds : List D} (n : Nat), Reps K H vs ds → Reps K H (vs.take n) (ds.take n)
  | vs, ds, 0, h => by simp [Reps]
  | vs, [], n + 1, h => by cases (show vs = [] from h); simp [Reps]
  | vs, d :: ds, n + 1, h => by
    obtain ⟨v, r, rfl, h1, h2⟩ := h
    exact ⟨v, r.take n, rfl, h1, Reps.take n h2⟩
theorem Reps.drop : ∀ {vs : List V} {ds : List D} (n : Nat), Reps K H vs ds → Reps K H (vs.drop n) (ds.drop n)
  | vs, ds, 0, h => h
  | vs, [], n + 1, h => by cases (show vs = [] from h); simp [Reps]
  | vs, d :: ds, n + 1, h => by
    obtain ⟨v, r, rfl, h1, h2⟩ := h
    exact Reps.drop n h2

def cutD (ds : List D) (lo hi : Option Int) : List D := (ds.drop (HT.sIx ds.length 0 lo)).take (HT.sIx ds.length ds.length hi - HT.sIx ds.length 0 lo)
def nums (ns : List Int) : List D := ns.map D.int
abbrev tI (ns : List Int) : D := .tup (nums ns)
theorem imms_nums : ∀ ns : List Int, imms (nums ns) = true
  | [] => rfl
  | n :: ns => by show (imm (.int n) && imms (nums ns)) = true; rw [imms_nums ns]; rfl
theorem imm_tI (ns : List Int) : imm (tI ns) = true := imms_nums ns
theorem imms_tIs : ∀ xs : List (List Int), imms (xs.map tI) = true
  | [] => rfl
  | x :: xs => by show (imm (tI x) && imms (xs.map tI)) = true; rw [imms_tIs xs, imm_tI]; rfl
theorem eqDs_nums : ∀ a b : List Int, eqDs (nums a) (nums b) = decide (a = b)
  | [], [] => by simp [nums, eqDs]
  | [], _ :: _ => by simp [nums, eqDs]
  | _ :: _, [] => by simp [nums, eqDs]
  | x :: a, y :: b => by
    show (eqD (.int x) (.int y) && eqDs (nums a) (nums b)) = _
    rw [eqDs_nums a b]
    simp only [eqD]
    by_cases e : x = y
    · subst e; by_cases e2 : a = b <;> simp [e2]
    · simp [e]
theorem eqD_tI (a b : List Int) : eqD (tI a) (tI b) = decide (a = b) := by simp only [eqD]; exact eqDs_nums a b
theorem reps_nums : ∀ {vs : List V} {ns : List Int}, Reps K H vs (nums ns) ↔ vs = ns.map V.int
  | vs, [] => Iff.rfl
  | vs, n :: ns => by
    constructor
    · rintro ⟨v, r, rfl, h1, h2⟩
      have h1' : v = .int n := h1
      rw [h1', reps_nums.mp h2]; rfl
    · rintro rfl
      exact ⟨.int n, ns.map V.int, rfl, rfl, reps_nums.mpr rfl⟩
end


section
variable {X : Cx} {pins : List (Addr × Obj)} {σ : St} {H : Hp} {s : Shared}
theorem notBoth (I : Inv X pins σ H s) {a : Addr} {xs ys : List V} (h : SqT X.K H a xs) (h' : SqL X.K H a ys) : False := by
  obtain ⟨its, r, ⟨o, e, c, n, d⟩, _⟩ := I.tuple h
  obtain ⟨its', r', ⟨o', n', e', c', _, d'⟩, _⟩ := I.list h'
  rw [e] at e'; cases e'
  rw [c] at c'
  have z : ("tuple" : String) = "list" := by injection c'
  exact absurd z (by decide)
mutual
theorem Rep.inj (I : Inv X pins σ H s) {v : V} {d e : D} (h : Rep X.K H v d) (h' : Rep X.K H v e) : d = e := by
  cases d with
  | non => cases (show v = .non from h); cases e <;> first | rfl | (exfalso; first | (cases (show V.non = _ from h')) | (obtain ⟨_, _, z, _⟩ := h'; cases z))
  | bl b => cases (show v = .bl b from h); cases e <;> first | (cases (show V.bl b = _ from h'); rfl) | (exfalso; first | (cases (show V.bl b = _ from h')) | (obtain ⟨_, _, z, _⟩ := h'; cases z))
  | int b => cases (show v = .int b from h); cases e <;> first | (cases (show V.int b = _ from h'); rfl) | (exfalso; first | (cases (show V.int b = _ from h')) | (obtain ⟨_, _, z, _⟩ := h'; cases z))
  | str b => cases (show v = .str b from h); cases e <;> first | (cases (show V.str b = _ from h'); rfl) | (exfalso; first | (cases (show V.str b = _ from h')) | (obtain ⟨_, _, z, _⟩ := h'; cases z))
  | tup ds =>
    obtain ⟨a, vs, rfl, q, r⟩ := h
    cases e with
    | tup es =>
      obtain ⟨b, ws, z, q', r'⟩ := h'
      cases z
      have e1 := I.tuple_inj q q'
      subst e1
      rw [Reps.inj I r r']
    | lst es =>
      obtain ⟨b, ws, z, q', r'⟩ := h'
      cases z
      exact (notBoth I q q').elim
    | non => cases (show V.ref a = _ from h')
    | bl _ => cases (show V.ref a = _ from h')
    | int _ => cases (show V.ref a = _ from h')
    | str _ => cases (show V.ref a = _ from h')
  | lst ds =>
    obtain ⟨a, vs, rfl, q, r⟩ := h
    cases e with
    | lst es =>
      obtain ⟨b, ws, z, q', r'⟩ := h'
      cases z
      have e1 := I.list_inj q q'
      subst e1
      rw [Reps.inj I r r']
    | tup es =>
      obtain ⟨b, ws, z, q', r'⟩ := h'
      cases z
      exact (notBoth I q' q).elim
    | non => cases (show V.ref a = _ from h')
    | bl _ => cases (show V.ref a = _ from h')
    | int _ => cases (show V.ref a = _ from h')
    | str _ => cases (show V.ref a = _ from h')
theorem Reps.inj (I : Inv X pins σ H s) {vs : List V} {ds es : List D} (h : Reps X.K H vs ds) (h' : Reps X.K H vs es) : ds = es := by
  cases ds with
  | nil =>
    cases (show vs = [] from h)
    cases es with
    | nil => rfl
    | cons e es => obtain ⟨_, _, z, _⟩ := h'; cases z
  | cons d ds =>
    obtain ⟨v, r, rfl, h1, h2⟩ := h
    cases es with
    | nil => cases (show v :: r = [] from h')
    | cons e es =>
      obtain ⟨v', r', z, h1', h2'⟩ := h'
      cases z
      rw [Rep.inj I h1 h1', Reps.inj I h2 h2']
end


def EqD (X : Cx) (H : Hp) (s : Shared) (d : D) : Prop := ∀ (A : Around) (x y : V) (u v : Value) (e : D), A.units + dep d < cLine → Rep X.K H x d → Rep X.K H y e → RelV x u → RelV y v → RcAt A s u v (eqD d e) ∧ EqAt A s u v (eqD d e)
theorem seq_eq (I : Inv X pins σ H s) {ds es : List D} {vs ws : List V} {us us' : List Value} {A : Around} (hu : A.units + deps ds < cLine) (r : Reps X.K H vs ds) (r' : Reps X.K H ws es) (rv : Vals vs us) (rv' : Vals ws us')
    (ih : ∀ d ∈ ds, EqD X H s d) (hdm : ∀ d ∈ ds, dep d ≤ deps ds) : ∀ j (h1 : j < us.toArray.size) (h2 : j < us'.toArray.size), EqAt A s us.toArray[j] us'.toArray[j] (match ds[j]?, es[j]? with | some x, some y => eqD x y | _, _ => true) := by
  intro j h1 h2
  have l1 := r.length
  have l2 := r'.length
  have l3 := rv.length
  have l4 := rv'.length
  have h1' : j < us.length := by simpa using h1
  have h2' : j < us'.length := by simpa using h2
  have e1 : ds[j]? = some (ds[j]'(by omega)) := by simp <;> omega
  have e2 : es[j]? = some (es[j]'(by omega)) := by simp <;> omega
  obtain ⟨v, ev, rd⟩ := r.get e1
  obtain ⟨w, ew, re⟩ := r'.get e2
  obtain ⟨u, eu, ru⟩ := rv.get ev
  obtain ⟨u', eu', ru'⟩ := rv'.get ew
  have f1 : us.toArray[j] = u := by
    have : us[j]? = some us[j] := by simp
    rw [eu] at this
    have := (Option.some.inj this).symm
    simpa using this
  have f2 : us'.toArray[j] = u' := by
    have : us'[j]? = some us'[j] := by simp
    rw [eu'] at this
    have := (Option.some.inj this).symm
    simpa using this
  rw [f1, f2, e1, e2]
  have hm : ds[j]'(by omega) ∈ ds := List.getElem_mem _
  exact (ih _ hm A v w u u' _ (by have := hdm _ hm; omega) rd re ru ru').2
theorem deps_le : ∀ {ds : List D} {d : D}, d ∈ ds → dep d ≤ deps ds
  | d0 :: ds, d, h => by
    simp only [deps]
    rcases List.mem_cons.mp h with rfl | h
    · omega
    · have := deps_le h; omega
theorem range_min {a b : List D} (h : ¬ a.length = b.length) : eqDs a b = false := by
  cases q : eqDs a b with
  | false => rfl
  | true => exact absurd (eqDs_len q) h
mutual
theorem eqD_ok (I : Inv X pins σ H s) (d : D) : EqD X H s d := by
  intro A x y u v e hu hx hy rx ry
  cases d with
  | non =>
    cases (show x = .non from hx)
    cases (show u = Value.none from rx)
    cases e with
    | non => cases (show y = .non from hy); cases (show v = Value.none from ry); exact ⟨.none_none, .same _⟩
    | bl b => cases (show y = .bl b from hy); cases (show v = Value.bool b from ry); exact ⟨.none_bool b, .none_bool b⟩
    | int i => cases (show y = .int i from hy); obtain ⟨t, rfl⟩ := ry; exact ⟨.none_int i t, .none_int i t⟩
    | str z => cases (show y = .str z from hy); obtain ⟨t, rfl⟩ := ry; exact ⟨.none_str z t, .none_str z t⟩
    | tup es => obtain ⟨a, vs, rfl, q, r⟩ := hy; cases ry; obtain ⟨its, _, p, _⟩ := I.tuple q; exact ⟨.none_tuple p (by omega), .none_tuple p (by omega)⟩
    | lst es => obtain ⟨a, vs, rfl, q, r⟩ := hy; cases ry; obtain ⟨its, _, p, _⟩ := I.list q; exact ⟨.none_list p.isList (by omega), .none_list p.isList (by omega)⟩
  | bl c =>
    cases (show x = .bl c from hx)
    cases (show u = Value.bool c from rx)
    cases e with
    | non => cases (show y = .non from hy); cases (show v = Value.none from ry); exact ⟨.bool_none c, .bool_none c⟩
    | bl b => cases (show y = .bl b from hy); cases (show v = Value.bool b from ry); exact ⟨.bool_bool c b, .bool_bool c b⟩
    | int i => cases (show y = .int i from hy); obtain ⟨t, rfl⟩ := ry; exact ⟨.bool_int c i t, .bool_int c i t⟩
    | str z => cases (show y = .str z from hy); obtain ⟨t, rfl⟩ := ry; exact ⟨.bool_str c z t, .bool_str c z t⟩
    | tup es => obtain ⟨a, vs, rfl, q, r⟩ := hy; cases ry; obtain ⟨its, _, p, _⟩ := I.tuple q; exact ⟨.bool_tuple c p (by omega), .bool_tuple c p (by omega)⟩
    | lst es => obtain ⟨a, vs, rfl, q, r⟩ := hy; cases ry; obtain ⟨its, _, p, _⟩ := I.list q; exact ⟨.bool_list c p.isList (by omega), .bool_list c p.isList (by omega)⟩
  | int c =>
    cases (show x = .int c from hx)
    obtain ⟨t, rfl⟩ := rx
    cases e with
    | non => cases (show y = .non from hy); cases (show v = Value.none from ry); exact ⟨.int_none c t, .int_none c t⟩
    | bl b => cases (show y = .bl b from hy); cases (show v = Value.bool b from ry); exact ⟨.int_bool c t b, .int_bool c t b⟩
    | int i => cases (show y = .int i from hy); obtain ⟨t', rfl⟩ := ry; exact ⟨.int_int c t i t', .int_int c t i t'⟩
    | str z => cases (show y = .str z from hy); obtain ⟨t', rfl⟩ := ry; exact ⟨.int_str c t z t', .int_str c t z t'⟩
    | tup es => obtain ⟨a, vs, rfl, q, r⟩ := hy; cases ry; obtain ⟨its, _, p, _⟩ := I.tuple q; exact ⟨.int_tuple c t p (by omega), .int_tuple c t p (by omega)⟩
    | lst es => obtain ⟨a, vs, rfl, q, r⟩ := hy; cases ry; obtain ⟨its, _, p, _⟩ := I.list q; exact ⟨.int_list c t p.isList (by omega), .int_list c t p.isList (by omega)⟩
  | str c =>
    cases (show x = .str c from hx)
    obtain ⟨t, rfl⟩ := rx
    cases e with
    | non => cases (show y = .non from hy); cases (show v = Value.none from ry); exact ⟨.str_none c t, .str_none c t⟩
    | bl b => cases (show y = .bl b from hy); cases (show v = Value.bool b from ry); exact ⟨.str_bool c t b, .str_bool c t b⟩
    | int i => cases (show y = .int i from hy); obtain ⟨t', rfl⟩ := ry; exact ⟨.str_int c t i t', .str_int c t i t'⟩
    | str z => cases (show y = .str z from hy); obtain ⟨t', rfl⟩ := ry; exact ⟨.str_str c t z t', .str_str c t z t'⟩
    | tup es => obtain ⟨a, vs, rfl, q, r⟩ := hy; cases ry; obtain ⟨its, _, p, _⟩ := I.tuple q; exact ⟨.str_tuple c t p (by omega), .str_tuple c t p (by omega)⟩
    | lst es => obtain ⟨a, vs, rfl, q, r⟩ := hy; cases ry; obtain ⟨its, _, p, _⟩ := I.list q; exact ⟨.str_list c t p.isList (by omega), .str_list c t p.isList (by omega)⟩
  | tup ds =>
    have hx' := hx
    obtain ⟨a, vs, rfl, q, r⟩ := hx
    cases rx
    obtain ⟨its, rv, p, _⟩ := I.tuple q
    have hu' : A.units + 1 + deps ds < cLine := by simp only [dep] at hu; omega
    cases e with
    | non => cases (show y = .non from hy); cases (show v = Value.none from ry); exact ⟨.tuple_none p (by omega), .tuple_none p (by omega)⟩
    | bl b => cases (show y = .bl b from hy); cases (show v = Value.bool b from ry); exact ⟨.tuple_bool b p (by omega), .tuple_bool b p (by omega)⟩
    | int i => cases (show y = .int i from hy); obtain ⟨t', rfl⟩ := ry; exact ⟨.tuple_int i t' p (by omega), .tuple_int i t' p (by omega)⟩
    | str z => cases (show y = .str z from hy); obtain ⟨t', rfl⟩ := ry; exact ⟨.tuple_str z t' p (by omega), .tuple_str z t' p (by omega)⟩
    | lst es => obtain ⟨b, ws, rfl, q', r'⟩ := hy; cases ry; obtain ⟨its', _, p', _⟩ := I.list q'; exact ⟨.tuple_list p p'.isList (by omega), .tuple_list p p'.isList (by omega)⟩
    | tup es =>
      have hy' := hy
      obtain ⟨b, ws, rfl, q', r'⟩ := hy
      cases ry
      obtain ⟨its', rv', p', _⟩ := I.tuple q'
      have main : RcAt A s (.ref a) (.ref b) (eqD (.tup ds) (.tup es)) := by
        have := RcAt.tuples (A := A) p p' (by omega) (seq_eq I (A := A.in1) (by show A.units + 1 + deps ds < cLine; omega) r r' rv rv' (eqDs_ok I ds) fun d h => deps_le h)
        have l1 := r.length
        have l2 := r'.length
        have l3 := rv.length
        have l4 := rv'.length
        have e1 : its.toArray.size = ds.length := by simp <;> omega
        have e2 : its'.toArray.size = es.length := by simp <;> omega
        rw [e1, e2] at this
        simp only [eqD]
        by_cases hl : ds.length = es.length
        · rw [eqDs_all ds es hl]
          rw [← hl, Nat.min_self] at this
          simpa using this
        · rw [range_min hl]
          have z : (ds.length == es.length) = false := by simpa using hl
          rw [z, Bool.and_false] at this
          exact this
      refine ⟨main, ?_⟩
      by_cases hab : a = b
      · subst hab
        have e3 : D.tup ds = D.tup es := Rep.inj I hx' hy'
        rw [e3, eqD_refl]
        exact .same _
      · exact .of_refs hab main
  | lst ds =>
    have hx' := hx
    obtain ⟨a, vs, rfl, q, r⟩ := hx
    cases rx
    obtain ⟨its, rv, p, _⟩ := I.list q
    have hu' : A.units + 1 + deps ds < cLine := by simp only [dep] at hu; omega
    cases e with
    | non => cases (show y = .non from hy); cases (show v = Value.none from ry); exact ⟨.list_none p.isList (by omega), .list_none p.isList (by omega)⟩
    | bl b => cases (show y = .bl b from hy); cases (show v = Value.bool b from ry); exact ⟨.list_bool b p.isList (by omega), .list_bool b p.isList (by omega)⟩
    | int i => cases (show y = .int i from hy); obtain ⟨t', rfl⟩ := ry; exact ⟨.list_int i t' p.isList (by omega), .list_int i t' p.isList (by omega)⟩
    | str z => cases (show y = .str z from hy); obtain ⟨t', rfl⟩ := ry; exact ⟨.list_str z t' p.isList (by omega), .list_str z t' p.isList (by omega)⟩
    | tup es => obtain ⟨b, ws, rfl, q', r'⟩ := hy; cases ry; obtain ⟨its', _, p', _⟩ := I.tuple q'; exact ⟨.list_tuple p.isList p' (by omega), .list_tuple p.isList p' (by omega)⟩
    | lst es =>
      have hy' := hy
      obtain ⟨b, ws, rfl, q', r'⟩ := hy
      cases ry
      obtain ⟨its', rv', p', _⟩ := I.list q'
      have main : RcAt A s (.ref a) (.ref b) (eqD (.lst ds) (.lst es)) := by
        have l1 := r.length
        have l2 := r'.length
        have l3 := rv.length
        have l4 := rv'.length
        have e1 : its.toArray.size = ds.length := by simp <;> omega
        have e2 : its'.toArray.size = es.length := by simp <;> omega
        simp only [eqD]
        by_cases hl : ds.length = es.length
        · have := RcAt.lists (A := A) p.isList p'.isList (by omega) (by omega) (seq_eq I (A := A.in1) (by show A.units + 1 + deps ds < cLine; omega) r r' rv rv' (eqDs_ok I ds) fun d h => deps_le h)
          rw [e1] at this
          rw [eqDs_all ds es hl]
          exact this
        · rw [range_min hl]
          exact RcAt.lists_lengths p.isList p'.isList (by simpa [e1, e2] using hl) (by omega)
      refine ⟨main, ?_⟩
      by_cases hab : a = b
      · subst hab
        have e3 : D.lst ds = D.lst es := Rep.inj I hx' hy'
        rw [e3, eqD_refl]
        exact .same _
      · exact .of_refs hab main
theorem eqDs_ok (I : Inv X pins σ H s) (ds : List D) : ∀ d ∈ ds, EqD X H s d := by
  cases ds with
  | nil => exact fun _ h => nomatch h
  | cons d0 r =>
    intro d h
    rcases List.mem_cons.mp h with e | h
    · exact e ▸ eqD_ok I d0
    · exact eqDs_ok I r d h
end

def rEqD (K : PySem.W.Frag) (n : Nat) : R2 := fun x y H Q => ∃ d e, Rep K H x d ∧ Rep K H y e ∧ dep d ≤ n ∧ Q (.bl (eqD d e)) H
theorem op_eqD {n : Nat} (hu : X.A.units + n < cLine) : OpR X (compareOp .Eq) (rEqD X.K n) := by
  intro pins s σ H x y v u Q I rx ry h
  obtain ⟨d, e, hd, he, hn, q⟩ := h
  exact (eqD_ok I d X.A x y v u e (by omega) hd he rx ry).1 X.prog X.w X.xe _ ⟨.bl (eqD d e), H, I, rfl, q⟩
end
end L2

set_option Elab.async false
set_option linter.all false
set_option maxRecDepth 100000
set_option maxHeartbeats 4000000
namespace L2
open PySem PySem.Spec PyProof.Rows PySem.SeqAt

section
variable {X : Cx}



noncomputable def eqF (X : Cx) (H : Hp) (d : D) (u : Value) : Bool := @decide (∃ v e, RelV v u ∧ Rep X.K H v e ∧ eqD e d = true) (Classical.propDecidable _)
theorem eqF_of {pins : List (Addr × Obj)} {σ : St} {H : Hp} {s : Shared} (I : Inv X pins σ H s) {d e : D} {v : V} {u : Value} (r : RelV v u) (h : Rep X.K H v e) : eqF X H d u = eqD e d := by
  cases q : eqD e d with
  | true => exact @decide_eq_true _ (Classical.propDecidable _) ⟨v, e, r, h, q⟩
  | false =>
    refine @decide_eq_false _ (Classical.propDecidable _) ?_
    rintro ⟨v', e', r', h', q'⟩
    have := r.inj r'
    subst this
    rw [Rep.inj I h h'] at q
    rw [q] at q'
    cases q'
theorem eqF_at {pins : List (Addr × Obj)} {σ : St} {H : Hp} {s : Shared} (I : Inv X pins σ H s) {A : Around} {x : V} {v : Value} {d : D} {vs : List V} {us : List Value} {ds : List D} (hu : A.units + deps ds < cLine) (hx : Rep X.K H x d) (rx : RelV x v)
    (r : Reps X.K H vs ds) (rv : Vals vs us) : ∀ y, y ∈ us.toArray → EqAt A s y v (eqF X H d y) := by
  intro y hy
  have hy' : y ∈ us := by simpa using hy
  obtain ⟨i, hi⟩ := List.getElem?_of_mem hy'
  have hlt : i < us.length := (List.getElem?_eq_some_iff.mp hi).1
  have l1 := rv.length
  obtain ⟨w, hw⟩ : ∃ w, vs[i]? = some w := ⟨vs[i]'(by omega), by simp <;> omega⟩
  obtain ⟨u, hu2, ru⟩ := rv.get hw
  rw [hi] at hu2
  cases hu2
  obtain ⟨e, he, re⟩ := r.getV hw
  rw [eqF_of I ru re]
  have hm : e ∈ ds := List.mem_of_getElem? he
  exact (eqD_ok I e A w x y v d (by have := deps_le hm; omega) re hx ru rx).2
theorem any_eqF {pins : List (Addr × Obj)} {σ : St} {H : Hp} {s : Shared} (I : Inv X pins σ H s) {d : D} : ∀ {vs : List V} {us : List Value} {ds : List D}, Reps X.K H vs ds → Vals vs us → us.any (eqF X H d) = ds.any fun e => eqD e d
  | vs, us, [], r, rv => by
    cases (show vs = [] from r)
    cases rv
    rfl
  | vs, us, e :: ds, r, rv => by
    obtain ⟨v, q, rfl, h1, h2⟩ := r
    cases rv with
    | cons r1 r2 => rw [List.any_cons, List.any_cons, eqF_of I r1 h1, any_eqF I h2 r2]

def SeqD (K : PySem.W.Frag) (H : Hp) (y : V) (ds : List D) : Prop := Rep K H y (.lst ds) ∨ Rep K H y (.tup ds)
def rInD (K : PySem.W.Frag) (n : Nat) (neg : Bool) : R2 := fun x y H Q => ∃ d ds, Rep K H x d ∧ SeqD K H y ds ∧ deps ds + 1 ≤ n ∧ Q (.bl (if neg then !(ds.any fun e => eqD e d) else ds.any fun e => eqD e d)) H
theorem op_inD {n : Nat} (hu : X.A.units + n < cLine) : OpR X (compareOp .In) (rInD X.K n false) := by
  intro pins s σ H x y v u Q I rx ry h
  obtain ⟨d, ds, hx, hs, hn, q⟩ := h
  have fin : ∀ {us : List Value} {vs : List V}, Reps X.K H vs ds → Vals vs us → EP X pins σ Q (.bool (us.toArray.any (eqF X H d))) s := fun r rv =>
    ⟨.bl (ds.any fun e => eqD e d), H, I, by show Value.bool _ = Value.bool _; rw [List.any_toArray, any_eqF I r rv], q⟩
  rcases hs with ⟨a, vs, rfl, hq, r⟩ | ⟨a, vs, rfl, hq, r⟩
  · cases ry
    obtain ⟨its, rv, p, _⟩ := I.list hq
    exact in_listAt (eqF X H d) p.isList (eqF_at I (A := X.A.in1) (by show X.A.units + 1 + deps ds < cLine; omega) hx rx r rv) (fin r rv)
  · cases ry
    obtain ⟨its, rv, p, _⟩ := I.tuple hq
    exact in_tupleAt (eqF X H d) p (eqF_at I (A := X.A.in1) (by show X.A.units + 1 + deps ds < cLine; omega) hx rx r rv) (fin r rv)
theorem op_notInD {n : Nat} (hu : X.A.units + n < cLine) : OpR X (compareOp .NotIn) (rInD X.K n true) := by
  intro pins s σ H x y v u Q I rx ry h
  obtain ⟨d, ds, hx, hs, hn, q⟩ := h
  have fin : ∀ {us : List Value} {vs : List V}, Reps X.K H vs ds → Vals vs us → EP X pins σ Q (.bool (!us.toArray.any (eqF X H d))) s := fun r rv =>
    ⟨.bl (!(ds.any fun e => eqD e d)), H, I, by show Value.bool _ = Value.bool _; rw [List.any_toArray, any_eqF I r rv], q⟩
  rcases hs with ⟨a, vs, rfl, hq, r⟩ | ⟨a, vs, rfl, hq, r⟩
  · cases ry
    obtain ⟨its, rv, p, _⟩ := I.list hq
    exact notIn_listAt (eqF X H d) p.isList (eqF_at I (A := X.A.in1) (by show X.A.units + 1 + deps ds < cLine; omega) hx rx r rv) (fin r rv)
  · cases ry
    obtain ⟨its, rv, p, _⟩ := I.tuple hq
    exact notIn_tupleAt (eqF X H d) p (eqF_at I (A := X.A.in1) (by show X.A.units + 1 + deps ds < cLine; omega) hx rx r rv) (fin r rv)

def rIndex (K : PySem.W.Frag) (n : Nat) : V → List V → Hp → VK → Prop := fun x vs H Q => ∃ ds y d j, vs = [y] ∧ Rep K H x (.lst ds) ∧ Rep K H y d ∧ deps ds + 1 ≤ n ∧ ds.findIdx? (fun e => eqD e d) = some j ∧ Q (.int (j : Nat)) H
theorem mt_index {n : Nat} (hu : X.A.units + n < cLine) : MtR X "list.index" (rIndex X.K n) := by
  intro pins s σ H x vs v us Q I rx rv h
  obtain ⟨ds, y, d, j, rfl, ⟨a, ws, rfl, hq, r⟩, hy, hn, hj, q⟩ := h
  cases rx
  obtain ⟨u, rfl, ru⟩ := rv.one
  obtain ⟨its, rw', p, hz⟩ := I.list hq
  have l1 := r.length
  have l2 := rw'.length
  obtain ⟨hlt, hit, hno⟩ := List.findIdx?_eq_some_iff_getElem.mp hj
  have at' : ∀ m (hm : m < its.toArray.size) (hm' : m < ds.length), eqF X H d its.toArray[m] = eqD ds[m] d := fun m hm hm' => by
    obtain ⟨w, hw, re⟩ := r.get (i := m) (d := ds[m]) (by simp)
    obtain ⟨u', hu', ru'⟩ := rw'.get hw
    have e1 : its.toArray[m] = u' := by
      have hm2 : m < its.length := by simpa using hm
      have : its[m]? = some its[m] := by simp
      rw [hu'] at this
      have := (Option.some.inj this).symm
      simpa using this
    rw [e1]
    exact eqF_of I ru' re
  obtain ⟨o, k, ho, hc, hdn, hd⟩ := id p
  obtain ⟨cls, dd, data, sl⟩ := o
  simp only at hc hdn hd
  subst hc hdn hd
  have hsz : ds.length ≤ sizeLine := by omega
  have big : (sizeLine : Nat) < 2 ^ 62 := by rw [sizeLine_eq]; decide
  refine call_meets PySem.F.slot_list_index ⟨_, ho, rfl⟩ PySem.F.entry_list_index (PySem.F.args_list_index_2 _ _)
    (list_indexAt a its.toArray k none sl u (eqF X H d) j (by simp <;> omega) (by omega) ?_ ?_) ⟨ho, eqF_at I (A := X.A.in1) (by show X.A.units + 1 + deps ds < cLine; omega) hy ru r rw', ?_⟩
  · rw [at' j (by simp <;> omega) hlt]; exact hit
  · intro m hm hmj
    rw [at' m hm (by omega)]
    have := hno m hmj
    simpa using this
  · exact ⟨.int (j : Nat), H, I.tok _, ⟨_, rfl⟩, q⟩


def NeD (X : Cx) (H : Hp) : Prop := True
def rNeD (K : PySem.W.Frag) (n : Nat) : R2 := fun x y H Q => ∃ d e, Rep K H x d ∧ Rep K H y e ∧ dep d ≤ n ∧ Q (.bl (!eqD d e)) H
theorem op_neD {n : Nat} (hu : X.A.units + n < cLine) : OpR X (compareOp .NotEq) (rNeD X.K n) := by
  intro pins s σ H x y v u Q I rx ry h
  obtain ⟨d, e, hd, he, hn, q⟩ := h
  have fin : EP X pins σ Q (.bool (!eqD d e)) s := ⟨.bl (!eqD d e), H, I, rfl, q⟩
  have go : ∀ {k : Bool}, RcNeAt X.A s v u k → k = (!eqD d e) → wpAny (model X.prog X.w) X.A (compareOp .NotEq v u) (EP X pins σ Q) X.xe s := fun h1 h2 => by
    subst h2
    exact h1 X.prog X.w X.xe _ fin
  cases d with
  | non =>
    cases (show x = .non from hd)
    cases (show v = Value.none from rx)
    cases e with
    | non => cases (show y = .non from he); cases (show u = Value.none from ry); exact go .none_none rfl
    | bl b => cases (show y = .bl b from he); cases (show u = Value.bool b from ry); exact go (.none_bool b) rfl
    | int i => cases (show y = .int i from he); obtain ⟨t, rfl⟩ := ry; exact go (.none_int i t) rfl
    | str z => cases (show y = .str z from he); obtain ⟨t, rfl⟩ := ry; exact go (.none_str z t) rfl
    | tup es => obtain ⟨a, vs, rfl, q, r⟩ := he; cases ry; obtain ⟨its, _, p, _⟩ := I.tuple q; exact go (.none_tuple p (by omega)) rfl
    | lst es => obtain ⟨a, vs, rfl, q, r⟩ := he; cases ry; obtain ⟨its, _, p, _⟩ := I.list q; exact go (.none_list p.isList (by omega)) rfl
  | bl c =>
    cases (show x = .bl c from hd)
    cases (show v = Value.bool c from rx)
    cases e with
    | non => cases (show y = .non from he); cases (show u = Value.none from ry); exact go (.bool_none c) rfl
    | bl b => cases (show y = .bl b from he); cases (show u = Value.bool b from ry); exact go (.bool_bool c b) rfl
    | int i => cases (show y = .int i from he); obtain ⟨t, rfl⟩ := ry; exact go (.bool_int c i t) rfl
    | str z => cases (show y = .str z from he); obtain ⟨t, rfl⟩ := ry; exact go (.bool_str c z t) rfl
    | tup es => obtain ⟨a, vs, rfl, q, r⟩ := he; cases ry; obtain ⟨its, _, p, _⟩ := I.tuple q; exact go (.bool_tuple c p (by omega)) rfl
    | lst es => obtain ⟨a, vs, rfl, q, r⟩ := he; cases ry; obtain ⟨its, _, p, _⟩ := I.list q; exact go (.bool_list c p.isList (by omega)) rfl
  | int c =>
    cases (show x = .int c from hd)
    obtain ⟨t, rfl⟩ := rx
    cases e with
    | non => cases (show y = .non from he); cases (show u = Value.none from ry); exact go (.int_none c t) rfl
    | bl b => cases (show y = .bl b from he); cases (show u = Value.bool b from ry); exact go (.int_bool c t b) rfl
    | int i => cases (show y = .int i from he); obtain ⟨t', rfl⟩ := ry; exact go (.int_int c t i t') rfl
    | str z => cases (show y = .str z from he); obtain ⟨t', rfl⟩ := ry; exact go (.int_str c t z t') rfl
    | tup es => obtain ⟨a, vs, rfl, q, r⟩ := he; cases ry; obtain ⟨its, _, p, _⟩ := I.tuple q; exact go (.int_tuple c t p (by omega)) rfl
    | lst es => obtain ⟨a, vs, rfl, q, r⟩ := he; cases ry; obtain ⟨its, _, p, _⟩ := I.list q; exact go (.int_list c t p.isList (by omega)) rfl
  | str c =>
    cases (show x = .str c from hd)
    obtain ⟨t, rfl⟩ := rx
    cases e with
    | non => cases (show y = .non from he); cases (show u = Value.none from ry); exact go (.str_none c t) rfl
    | bl b => cases (show y = .bl b from he); cases (show u = Value.bool b from ry); exact go (.str_bool c t b) rfl
    | int i => cases (show y = .int i from he); obtain ⟨t', rfl⟩ := ry; exact go (.str_int c t i t') rfl
    | str z => cases (show y = .str z from he); obtain ⟨t', rfl⟩ := ry; exact go (.str_str c t z t') rfl
    | tup es => obtain ⟨a, vs, rfl, q, r⟩ := he; cases ry; obtain ⟨its, _, p, _⟩ := I.tuple q; exact go (.str_tuple c t p (by omega)) rfl
    | lst es => obtain ⟨a, vs, rfl, q, r⟩ := he; cases ry; obtain ⟨its, _, p, _⟩ := I.list q; exact go (.str_list c t p.isList (by omega)) rfl
  | tup ds =>
    obtain ⟨a, vs, rfl, q1, r⟩ := hd
    cases rx
    obtain ⟨its, rv, p, _⟩ := I.tuple q1
    have hu' : X.A.units + 1 + deps ds < cLine := by simp only [dep] at hn; omega
    cases e with
    | non => cases (show y = .non from he); cases (show u = Value.none from ry); exact go (.tuple_none p (by omega)) rfl
    | bl b => cases (show y = .bl b from he); cases (show u = Value.bool b from ry); exact go (.tuple_bool b p (by omega)) rfl
    | int i => cases (show y = .int i from he); obtain ⟨t', rfl⟩ := ry; exact go (.tuple_int i t' p (by omega)) rfl
    | str z => cases (show y = .str z from he); obtain ⟨t', rfl⟩ := ry; exact go (.tuple_str z t' p (by omega)) rfl
    | lst es => obtain ⟨b, ws, rfl, q', r'⟩ := he; cases ry; obtain ⟨its', _, p', _⟩ := I.list q'; exact go (.tuple_list p p'.isList (by omega)) rfl
    | tup es =>
      obtain ⟨b, ws, rfl, q', r'⟩ := he
      cases ry
      obtain ⟨its', rv', p', _⟩ := I.tuple q'
      refine go (RcNeAt.tuples p p' (by omega) (seq_eq I (A := X.A.in1) (by show X.A.units + 1 + deps ds < cLine; omega) r r' rv rv' (eqDs_ok I ds) fun d h => deps_le h)) ?_
      have l1 := r.length
      have l2 := r'.length
      have l3 := rv.length
      have l4 := rv'.length
      have e1 : its.toArray.size = ds.length := by simp <;> omega
      have e2 : its'.toArray.size = es.length := by simp <;> omega
      rw [e1, e2]
      simp only [eqD]
      by_cases hl : ds.length = es.length
      · rw [eqDs_all ds es hl, ← hl, Nat.min_self]
        simp
      · rw [range_min hl]
        have z : (ds.length == es.length) = false := by simpa using hl
        rw [z, Bool.and_false]
  | lst ds =>
    obtain ⟨a, vs, rfl, q1, r⟩ := hd
    cases rx
    obtain ⟨its, rv, p, _⟩ := I.list q1
    have hu' : X.A.units + 1 + deps ds < cLine := by simp only [dep] at hn; omega
    cases e with
    | non => cases (show y = .non from he); cases (show u = Value.none from ry); exact go (.list_none p.isList (by omega)) rfl
    | bl b => cases (show y = .bl b from he); cases (show u = Value.bool b from ry); exact go (.list_bool b p.isList (by omega)) rfl
    | int i => cases (show y = .int i from he); obtain ⟨t', rfl⟩ := ry; exact go (.list_int i t' p.isList (by omega)) rfl
    | str z => cases (show y = .str z from he); obtain ⟨t', rfl⟩ := ry; exact go (.list_str z t' p.isList (by omega)) rfl
    | tup es => obtain ⟨b, ws, rfl, q', r'⟩ := he; cases ry; obtain ⟨its', _, p', _⟩ := I.tuple q'; exact go (.list_tuple p.isList p' (by omega)) rfl
    | lst es =>
      obtain ⟨b, ws, rfl, q', r'⟩ := he
      cases ry
      obtain ⟨its', rv', p', _⟩ := I.list q'
      have l1 := r.length
      have l2 := r'.length
      have l3 := rv.length
      have l4 := rv'.length
      have e1 : its.toArray.size = ds.length := by simp <;> omega
      have e2 : its'.toArray.size = es.length := by simp <;> omega
      by_cases hl : ds.length = es.length
      · refine go (RcNeAt.lists p.isList p'.isList (by omega) (by omega) (seq_eq I (A := X.A.in1) (by show X.A.units + 1 + deps ds < cLine; omega) r r' rv rv' (eqDs_ok I ds) fun d h => deps_le h)) ?_
        rw [e1]
        simp only [eqD]
        rw [eqDs_all ds es hl]
      · refine go (RcNeAt.lists_lengths p.isList p'.isList (by simpa [e1, e2] using hl) (by omega)) ?_
        simp only [eqD]
        rw [range_min hl]
        rfl


def isD (n : String) : D → Bool
  | .non => false
  | .bl _ => n == "int" || n == "bool"
  | .int _ => n == "int"
  | .str _ => n == "str"
  | .tup _ => n == "tuple"
  | .lst _ => n == "list"
def tyD : D → String
  | .non => "NoneType"
  | .bl _ => "bool"
  | .int _ => "int"
  | .str _ => "str"
  | .tup _ => "tuple"
  | .lst _ => "list"
theorem kit_ok {K : PySem.W.Frag} {n : String} {d : D} (hn : n = "int" ∨ n = "bool" ∨ n = "str" ∨ n = "tuple" ∨ n = "list" ∨ n = "dict") : PySem.W.kitOne K (.type (tyD d)) (.type n) = some (isD n d) := by
  rcases hn with rfl | rfl | rfl | rfl | rfl | rfl <;> cases d <;> (unfold PySem.W.kitOne PySem.W.kitCls PySem.W.subIn tyD isD; first | rfl | decide +kernel)
theorem call_isinst : CallR X (.builtin "isinstance") (fun xs H Q => ∃ x n d, xs = [x, .ty n] ∧ (n = "int" ∨ n = "bool" ∨ n = "str" ∨ n = "tuple" ∨ n = "list" ∨ n = "dict") ∧ Rep X.K H x d ∧ Q (.bl (isD n d)) H) := by
  intro pins s σ H xs us Q I r h
  obtain ⟨x, n, d, rfl, hn, hx, q⟩ := h
  obtain ⟨u, v, rfl, rx, rt⟩ := vals2 r
  cases rt
  have k := kit_ok (K := X.K) (d := d) hn
  have fin : ∀ tk, EP X pins σ Q (.bool (isD n d)) { s with toks := tk } := fun tk => ⟨.bl (isD n d), H, I.tok tk, rfl, q⟩
  cases d with
  | non => cases (show x = .non from hx); cases (show u = Value.none from rx); exact PySem.W.kia_one PySem.W.kitx_none I.kIn True.intro k (fun z => nomatch z) fin
  | bl b => cases (show x = .bl b from hx); cases (show u = Value.bool b from rx); exact PySem.W.kia_one PySem.W.kitx_bool I.kIn True.intro k (fun z => nomatch z) fin
  | int b => cases (show x = .int b from hx); obtain ⟨t, rfl⟩ := rx; exact PySem.W.kia_one PySem.W.kitx_int I.kIn True.intro k (fun z => nomatch z) fin
  | str b => cases (show x = .str b from hx); obtain ⟨t, rfl⟩ := rx; exact PySem.W.kia_one PySem.W.kitx_str I.kIn True.intro k (fun z => nomatch z) fin
  | tup ds =>
    obtain ⟨a, vs, rfl, hq, _⟩ := hx
    cases rx
    obtain ⟨its, _, ⟨o, e, c, _⟩, _⟩ := I.tuple hq
    exact PySem.W.kia_one PySem.W.kitx_tuple I.kIn ⟨o, e, c⟩ k (fun z => nomatch z) fin
  | lst ds =>
    obtain ⟨a, vs, rfl, hq, _⟩ := hx
    cases rx
    obtain ⟨its, _, ⟨o, _, e, c, _⟩, _⟩ := I.list hq
    exact PySem.W.kia_one PySem.W.kitx_list I.kIn ⟨o, e, c⟩ k (fun z => nomatch z) fin


def rCatW (K : PySem.W.Frag) : R2 := fun x y H Q => ∃ a b xs ys, x = .ref a ∧ y = .ref b ∧ SqT K H a xs ∧ SqT K H b ys ∧ xs.length + ys.length ≤ sizeLine ∧ ∀ p H', Same H H' → SqT K H' p (xs ++ ys) → Q (.ref p) H'
theorem op_catW : OpR X (binaryOp .Add) (rCatW X.K) := by
  intro pins s σ H x y v u Q I rx ry h
  obtain ⟨a, b, xs, ys, rfl, rfl, ha, hb, hz, q⟩ := h
  by_cases hx : xs = []
  · subst hx
    cases rx
    cases ry
    obtain ⟨its, r1, p1, _⟩ := I.tuple ha
    obtain ⟨its2, r2, p2, _⟩ := I.tuple hb
    cases r1
    obtain ⟨⟨cls, dd, data, sl⟩, ho, hc, n, hd⟩ := id p1
    obtain ⟨⟨cls2, dd2, data2, sl2⟩, ho2, hc2, n2, hd2⟩ := id p2
    simp only at hc hd hc2 hd2
    subst hc hd hc2 hd2
    exact concat_meets ⟨_, ho, rfl⟩ ⟨_, ho2, rfl⟩ noFill_tuple_add seq_tuple_add PySem.F.slot_tuple_add PySem.F.entry_tuple_add (PySem.F.args_tuple_add_2 _ _)
      (tuple_addW0 a b _ _ n n2 dd dd2 sl sl2 (by simp)) ⟨ho, ho2, ⟨.ref b, H, I, rfl, q b H (Same.refl H) (by simpa using hb)⟩⟩
  · refine op_catT pins s σ H (.ref a) (.ref b) v u Q I rx ry ⟨a, b, xs, ys, rfl, rfl, ha, hb, hx, hz, fun e => ?_, fun e p hp => ?_⟩
    · subst e; exact q a H (Same.refl H) (by simpa using ha)
    · exact q p _ (Same.new hp) (.of upd_same)
def rSlTW (K : PySem.W.Frag) : V → Option Int → Option Int → Hp → VK → Prop := fun x lo hi H Q => ∃ a xs, x = .ref a ∧ SqT K H a xs ∧
  ¬ (HT.sIx xs.length 0 lo = 0 ∧ HT.sIx xs.length xs.length hi = xs.length) ∧ ∀ p H', Same H H' → SqT K H' p (cutV xs lo hi) → Q (.ref p) H'
theorem sl_tupW : SlR X (rSlTW X.K) := by
  intro pins s σ H x v vl vu lo hi sl Q I rx hs pl pu h
  obtain ⟨a, xs, rfl, hx, hw, q⟩ := h
  exact sl_tup pins s σ H (.ref a) v vl vu lo hi sl Q I rx hs pl pu ⟨a, xs, rfl, hx, hw, fun p hp => q p _ (Same.new hp) (.of upd_same)⟩

def rCatLW (K : PySem.W.Frag) : R2 := fun x y H Q => ∃ l b xs zs, x = .ref l ∧ y = .ref b ∧ SqL K H l xs ∧ SqL K H b zs ∧ xs.length + zs.length ≤ sizeLine ∧ ∀ p, H p = none → Q (.ref p) (upd H p (.lst (xs ++ zs)))
theorem op_catLW : OpR X (binaryOp .Add) (rCatLW X.K) := by
  intro pins s σ H x y v u Q I rx ry h
  obtain ⟨l, b, xs, zs, rfl, rfl, hl, hb, hz, q⟩ := h
  cases rx
  cases ry
  obtain ⟨its, r1, p1, _⟩ := I.list hl
  obtain ⟨its2, r2, p2, _⟩ := I.list hb
  obtain ⟨⟨cls, dd, data, sl⟩, n, ho, hc, hdd, hd⟩ := id p1
  obtain ⟨⟨cls2, dd2, data2, sl2⟩, n2, ho2, hc2, hdd2, hd2⟩ := id p2
  simp only at hc hd hc2 hd2
  subst hc hd hc2 hd2
  refine concat_meets ⟨_, ho, rfl⟩ ⟨_, ho2, rfl⟩ noFill_list_add seq_list_add PySem.F.slot_list_add PySem.F.entry_list_add (PySem.F.args_list_add_2 _ _)
    (list_addW l b its.toArray its2.toArray n n2 dd dd2 sl sl2 (by rw [List.size_toArray, List.size_toArray, ← r1.length, ← r2.length]; exact hz)) ⟨ho, ho2, ?_⟩
  rw [show its.toArray ++ its2.toArray = (its ++ its2).toArray by simp]
  exact ⟨.ref s.heap.objs.size, _, I.lnew (t' := s.toks) (r1.append r2) (by rw [List.length_append]; exact hz), rfl, q _ I.fresh⟩


theorem call_allB (hc : X.calm = true) : CallR X (.builtin "all") (fun xs H Q => ∃ (p : Addr) (bs : List Bool), xs = [.ref p] ∧ SqL X.K H p (bs.map V.bl) ∧ Q (.bl (bs.all id)) H) := by
  intro pins s σ H xs us Q I r h
  obtain ⟨p, bs, rfl, hq, q⟩ := h
  obtain ⟨u, rfl, ru⟩ := vals1 r
  cases ru
  obtain ⟨its, rv, pl, hz⟩ := I.list hq
  have hh : X.A.handled = none := I.ok.hd hc
  have rel : ∀ (i : Nat) (v : Value), its.toArray[i]? = some v → ∃ b, bs[i]? = some b ∧ v = .bool b := fun i v e => by
    have e' : its[i]? = some v := by simpa using e
    have hlt : i < its.length := (List.getElem?_eq_some_iff.mp e').1
    have l1 := rv.length
    rw [List.length_map] at l1
    have hb : bs[i]? = some (bs[i]'(by omega)) := by simp <;> omega
    obtain ⟨u, hu, ru⟩ := rv.get (i := i) (x := V.bl (bs[i]'(by omega))) (by rw [List.getElem?_map, hb]; rfl)
    rw [e'] at hu
    cases hu
    exact ⟨_, hb, ru⟩
  refine call_all_walk (wpAny_pyIter_list pl.isList ?_)
  refine ⟨s.heap.objs.size, [s.heap.objs.size, p], [s.heap.objs.size], its.toArray.size, _, _, fun i => (bs[i]?).getD true, rfl, Walks.list (show X.A.in1.handled = none from hh) s.heap.objs.size p ?_ its.toArray, ⟨⟨_, Heap.get?_push_size _ rfl, rfl, rfl⟩, ?_⟩, ?_, fun h' tk k => ?_⟩
  · obtain ⟨o, _, ho, _⟩ := pl
    exact Nat.ne_of_lt (Heap.lt_size ho)
  · exact pl.isList.at fun o e => Heap.get?_push_of_some _ e
  · intro i v s' Q' E' hv hQ
    obtain ⟨b, hb, rfl⟩ := rel i v hv
    dsimp only at hQ
    rw [hb] at hQ
    exact wpAny_truthy_bool hQ
  · have e : (List.range its.toArray.size).all (fun i => (bs[i]?).getD true) = bs.all id := by
      have l1 := rv.length
      rw [List.length_map] at l1
      rw [List.size_toArray, ← l1]
      rw [Bool.eq_iff_iff, List.all_eq_true, List.all_eq_true]
      constructor
      · intro hx b hb
        obtain ⟨i, hi⟩ := List.getElem?_of_mem hb
        have := hx i (List.mem_range.mpr (List.getElem?_eq_some_iff.mp hi).1)
        rw [hi] at this
        exact this
      · intro hx i hi
        have hlt := List.mem_range.mp hi
        have hb : bs[i]? = some bs[i] := by simp
        rw [hb]
        exact hx _ (List.getElem_mem _)
    rw [e]
    have I1 : Inv X pins σ H { s with heap := h', toks := tk } := I.kept (fun b o e => k b o (by simp; exact Nat.ne_of_lt (Heap.lt_size e)) (Heap.get?_push_of_some _ e))
    exact ⟨.bl (bs.all id), H, I1, rfl, q⟩
end


structure Has (P : Program) (w : World) (K : PySem.W.Frag) (mg : Str → Option Value) (base : Heap) (x : Str) (ps : List Str) (k : Nat) (sp : Sp) : Prop where
  ex : ∃ (f : Addr) (fd : FuncData), mg x = some (.ref f) ∧ PySem.W.keepIn K (.ref f) = true ∧ Binds K fd ps [] ∧ FnOk P w K mg base CX0 k f fd ps sp
theorem Has.mono {P : Program} {w : World} {K : PySem.W.Frag} {mg : Str → Option Value} {base : Heap} {x : Str} {ps : List Str} {j k : Nat} {sp : Sp} (h : Has P w K mg base x ps j sp) (hk : j ≤ k) : Has P w K mg base x ps k sp := by
  obtain ⟨f, fd, h1, h2, h3, h4⟩ := h.ex
  exact ⟨f, fd, h1, h2, h3, h4.mono hk⟩
theorem Has.imp {P : Program} {w : World} {K : PySem.W.Frag} {mg : Str → Option Value} {base : Heap} {x : Str} {ps : List Str} {k : Nat} {sp sp' : Sp} (h : Has P w K mg base x ps k sp) (hi : ∀ vs H Q E, sp' vs H Q E → sp vs H Q E) : Has P w K mg base x ps k sp' := by
  obtain ⟨f, fd, h1, h2, h3, h4⟩ := h.ex
  exact ⟨f, fd, h1, h2, h3, h4.imp hi⟩
section
variable {X : Cx} {x : Str} {ps : List Str} {j k : Nat} {sp : Sp} {p pos : Pos} {e : Expr} {es : List Expr} {t : TA}
theorem pe_callH (h : Has X.prog X.w X.K X.mg X.base x ps j sp) (hr : Room k X.A) (hg : Gl X x) (ha : PA X (e :: es) t) (hk : j ≤ k := by decide) (hdb : (x == ("__debug__" : Str)) = false := by decide)
    (he : starEach (e :: es) X.env = (false, eval e X.env) :: starEach es X.env := by rfl) (hpl : (backTo pos (starEach es X.env)).any (·.1) = false := by rfl) : PE X (.Call (.Name x p) (e :: es) [] pos) (tCall sp [] E0 t) := by
  obtain ⟨f, fd, h1, h2, h3, h4⟩ := h.ex
  exact pe_call h4 (hr.mono hk) hg h1 h2 h3 .nil pass0 ha hdb he hpl
end

theorem boot_intT : bootBuiltins "int" = some (.type "int") := by decide +kernel
theorem boot_boolT : bootBuiltins "bool" = some (.type "bool") := by decide +kernel
theorem boot_tupleT : bootBuiltins "tuple" = some (.type "tuple") := by decide +kernel
theorem boot_listT : bootBuiltins "list" = some (.type "list") := by decide +kernel
theorem boot_dictT : bootBuiltins "dict" = some (.type "dict") := by decide +kernel
theorem boot_maxB : bootBuiltins "max" = some (.builtin "max") := by decide +kernel
theorem boot_allB : bootBuiltins "all" = some (.builtin "all") := by decide +kernel
theorem boot_isinstanceB : bootBuiltins "isinstance" = some (.builtin "isinstance") := by decide +kernel
end L2

set_option Elab.async false
set_option linter.all false
namespace L2
open PySem PySem.Spec PyProof.Rows

section
variable {X : Cx} {K : PySem.W.Frag} {tg l : Expr} {tl : TE} {n : Nat}
theorem kop_catW (hK : X.K = K := by rfl) : OpR X (binaryOp .Add) (rCatW K) := by subst hK; exact op_catW
theorem kop_catLW (hK : X.K = K := by rfl) : OpR X (binaryOp .Add) (rCatLW K) := by subst hK; exact op_catLW
theorem ksl_tupW (hK : X.K = K := by rfl) : SlR X (rSlTW K) := by subst hK; exact sl_tupW
theorem ksl_list (hK : X.K = K := by rfl) : SlR X (rSlL K) := by subst hK; exact sl_list
theorem kix_list (hK : X.K = K := by rfl) : IxR X (rIxL K) := by subst hK; exact ix_list
theorem kix_tup (hK : X.K = K := by rfl) : IxR X (rIxT K) := by subst hK; exact ix_tup
theorem kcall_len_seq (hK : X.K = K := by rfl) : CallR X (.builtin "len") (fun xs H Q => ∃ p ys, xs = [.ref p] ∧ (SqL K H p ys ∨ SqT K H p ys) ∧ Q (.int ys.length) H) := by subst hK; exact call_len_seq
theorem kcall_list_of (hK : X.K = K := by rfl) : CallR X (.type "list") (fun xs H Q => ∃ p ys, xs = [.ref p] ∧ (SqL K H p ys ∨ SqT K H p ys) ∧ ∀ l, H l = none → Q (.ref l) (upd H l (.lst ys))) := by subst hK; exact call_list_of
theorem kcall_tuple_of (hK : X.K = K := by rfl) : CallR X (.type "tuple") (fun xs H Q => ∃ p ys, xs = [.ref p] ∧ ((SqL K H p ys ∧ ∀ l, H l = none → Q (.ref l) (upd H l (.tup ys))) ∨ (SqT K H p ys ∧ Q (.ref p) H))) := by subst hK; exact call_tuple_of
theorem kcall_isinst (hK : X.K = K := by rfl) : CallR X (.builtin "isinstance") (fun xs H Q => ∃ x n d, xs = [x, .ty n] ∧ (n = "int" ∨ n = "bool" ∨ n = "str" ∨ n = "tuple" ∨ n = "list" ∨ n = "dict") ∧ Rep K H x d ∧ Q (.bl (isD n d)) H) := by subst hK; exact call_isinst
theorem kcall_allB (hc : X.calm = true) (hK : X.K = K := by rfl) : CallR X (.builtin "all") (fun xs H Q => ∃ (p : Addr) (bs : List Bool), xs = [.ref p] ∧ SqL K H p (bs.map V.bl) ∧ Q (.bl (bs.all id)) H) := by subst hK; exact call_allB hc
theorem kop_inD (hu : X.A.units + n < cLine) (hK : X.K = K := by rfl) : OpR X (compareOp .In) (rInD K n false) := by subst hK; exact op_inD hu
theorem kop_notInD (hu : X.A.units + n < cLine) (hK : X.K = K := by rfl) : OpR X (compareOp .NotIn) (rInD K n true) := by subst hK; exact op_notInD hu
theorem kop_eqD (hu : X.A.units + n < cLine) (hK : X.K = K := by rfl) : OpR X (compareOp .Eq) (rEqD K n) := by subst hK; exact op_eqD hu
theorem kop_neD (hu : X.A.units + n < cLine) (hK : X.K = K := by rfl) : OpR X (compareOp .NotEq) (rNeD K n) := by subst hK; exact op_neD hu
theorem kmt_index (hu : X.A.units + n < cLine) (hK : X.K = K := by rfl) : MtR X "list.index" (rIndex K n) := by subst hK; exact mt_index hu
theorem kpi_list (hl : PE X l tl) (hK : X.K = K := by rfl) : PI X tg l (iList K tl) := by subst hK; exact pi_list hl
theorem kpi_tup (hl : PE X l tl) (hK : X.K = K := by rfl) : PI X tg l (iTup K tl) := by subst hK; exact pi_tup hl
variable {o e : Expr} {es : List Expr} {to : TE} {t : TA} {name : Str} {apos cpos : Pos} {T id : String} {r : V → List V → Hp → VK → Prop}
theorem kpe_bm (pa : PlainAttrs T) (slot : Slot T name id) (hty : typeOf (.builtin id) = pure (.type "method_descriptor")) (hm : MtR X id r) (ho : PE X o to) (ha : PA X (e :: es) t) (hK : X.K = K := by rfl)
    (hbase : attributeBase o name X.env (eval o X.env) = eval o X.env := by rfl)
    (hfew : ((backTo cpos (starEach (e :: es) X.env)).all (fun x => !x.1) && (backToKw cpos (keywordEach [] X.env)).all (fun x => x.1.isSome)
      && decide ((e :: es).length + ([] : List Keyword).length + (if ([] : List Keyword).isEmpty then 0 else 1) < 30)) = true := by rfl)
    (hline : (apos.endLine == cpos.line) = true := by rfl) (hs : starEach (e :: es) X.env = (false, eval e X.env) :: starEach es X.env := by rfl) (hplain : (backTo cpos (starEach es X.env)).any (·.1) = false := by rfl) :
    PE X (.Call (.Attribute o name apos) (e :: es) [] cpos) (tBM K T r to t) := by subst hK; exact pe_bm pa slot hty hm ho ha hbase hfew hline hs hplain
theorem kpg_tup {es : List Expr} {k : Nat} {t : TGs} {n : Nat} {pos : Pos} (hc : X.calm = true) (h : PGs X es t) (hK : X.K = K := by rfl)
    (hn : (assignEach es X.env).length = n := by rfl) (hst : (assignEach es X.env).findIdx? (·.1) = none := by rfl) : PG X (.Tuple es k pos) (gTup K n t) := by subst hK; exact pg_tup hc h hn hst
end
end L2

set_option linter.all false

namespace Hb

def facesBy (w : List Int) (fam : Int) : List (List Int) :=
  if fam = 0 then (if w.length < 2 then [] else (List.range w.length).map fun i => w.take i ++ w.drop (i + 1))
  else if w.length = 0 then []
  else if fam < 0 then (if w.length = 1 then [[], []] else w.map fun l => [l])
  else w.drop 1 :: ((List.range (w.length - 1)).map fun i => w.take i ++ [(w.getD i 0 + w.getD (i + 1) 0) % fam] ++ w.drop (i + 2)) ++ [w.take (w.length - 1)]


def Word (fam : Int) (w : List Int) : Prop :=
  (fam = 0 ∧ 1 ≤ w.length ∧ w.length ≤ 4) ∨ (fam < 0 ∧ (w.length = 0 ∨ w.length = 1 ∨ w.length = 3)) ∨ (0 < fam ∧ w.length ≤ 3)
def lv (fam : Int) (w : List Int) : Nat := if fam = 0 then w.length - 1 else if fam < 0 then (if w.length = 3 then 2 else w.length) else w.length


theorem word_cases {fam : Int} {w : List Int} (h : Word fam w) :
    (fam = 0 ∧ ((∃ a, w = [a]) ∨ (∃ a b, w = [a, b]) ∨ (∃ a b c, w = [a, b, c]) ∨ ∃ a b c d, w = [a, b, c, d])) ∨
    (fam < 0 ∧ (w = [] ∨ (∃ a, w = [a]) ∨ ∃ a b c, w = [a, b, c])) ∨
    (0 < fam ∧ (w = [] ∨ (∃ a, w = [a]) ∨ (∃ a b, w = [a, b]) ∨ ∃ a b c, w = [a, b, c])) := by
  rcases h with ⟨h0, h1, h2⟩ | ⟨h0, h1⟩ | ⟨h0, h1⟩
  · left
    refine ⟨h0, ?_⟩
    match w, h1, h2 with
    | [a], _, _ => exact .inl ⟨a, rfl⟩
    | [a, b], _, _ => exact .inr (.inl ⟨a, b, rfl⟩)
    | [a, b, c], _, _ => exact .inr (.inr (.inl ⟨a, b, c, rfl⟩))
    | [a, b, c, d], _, _ => exact .inr (.inr (.inr ⟨a, b, c, d, rfl⟩))
    | _ :: _ :: _ :: _ :: _ :: _, _, h => simp at h
  · right; left
    refine ⟨h0, ?_⟩
    match w, h1 with
    | [], _ => exact .inl rfl
    | [a], _ => exact .inr (.inl ⟨a, rfl⟩)
    | [a, b], h => simp at h
    | [a, b, c], _ => exact .inr (.inr ⟨a, b, c, rfl⟩)
    | _ :: _ :: _ :: _ :: _, h => simp at h
  · right; right
    refine ⟨h0, ?_⟩
    match w, h1 with
    | [], _ => exact .inl rfl
    | [a], _ => exact .inr (.inl ⟨a, rfl⟩)
    | [a, b], _ => exact .inr (.inr (.inl ⟨a, b, rfl⟩))
    | [a, b, c], _ => exact .inr (.inr (.inr ⟨a, b, c, rfl⟩))
    | _ :: _ :: _ :: _ :: _, h => simp at h

theorem f0_1 (a : Int) : facesBy [a] 0 = [] := rfl
theorem f0_2 (a b : Int) : facesBy [a, b] 0 = [[b], [a]] := rfl
theorem f0_3 (a b c : Int) : facesBy [a, b, c] 0 = [[b, c], [a, c], [a, b]] := rfl
theorem f0_4 (a b c d : Int) : facesBy [a, b, c, d] 0 = [[b, c, d], [a, c, d], [a, b, d], [a, b, c]] := rfl
section
variable {fam : Int}
theorem fn_0 (h : fam < 0) : facesBy [] fam = [] := by unfold facesBy; rw [if_neg (by omega), if_pos (by simp)]
theorem fn_1 (h : fam < 0) (a : Int) : facesBy [a] fam = [[], []] := by unfold facesBy; rw [if_neg (by omega), if_neg (by simp), if_pos h, if_pos (by simp)]
theorem fn_3 (h : fam < 0) (a b c : Int) : facesBy [a, b, c] fam = [[a], [b], [c]] := by unfold facesBy; rw [if_neg (by omega), if_neg (by simp), if_pos h, if_neg (by simp)]; rfl
theorem fp_0 (h : 0 < fam) : facesBy [] fam = [] := by unfold facesBy; rw [if_neg (by omega), if_pos (by simp)]
theorem fp_1 (h : 0 < fam) (a : Int) : facesBy [a] fam = [[], []] := by unfold facesBy; rw [if_neg (by omega), if_neg (by simp), if_neg (by omega)]; rfl
theorem fp_2 (h : 0 < fam) (a b : Int) : facesBy [a, b] fam = [[b], [(a + b) % fam], [a]] := by unfold facesBy; rw [if_neg (by omega), if_neg (by simp), if_neg (by omega)]; rfl
theorem fp_3 (h : 0 < fam) (a b c : Int) : facesBy [a, b, c] fam = [[b, c], [(a + b) % fam, c], [a, (b + c) % fam], [a, b]] := by unfold facesBy; rw [if_neg (by omega), if_neg (by simp), if_neg (by omega)]; rfl

theorem faces_word {w f : List Int} (h : Word fam w) (hf : f ∈ facesBy w fam) : Word fam f ∧ lv fam f + 1 = lv fam w := by
  rcases word_cases h with ⟨h0, ⟨a, rfl⟩ | ⟨a, b, rfl⟩ | ⟨a, b, c, rfl⟩ | ⟨a, b, c, d, rfl⟩⟩ | ⟨h0, rfl | ⟨a, rfl⟩ | ⟨a, b, c, rfl⟩⟩ | ⟨h0, rfl | ⟨a, rfl⟩ | ⟨a, b, rfl⟩ | ⟨a, b, c, rfl⟩⟩
  · subst h0; rw [f0_1] at hf; exact nomatch hf
  · subst h0; rw [f0_2] at hf
    simp only [List.mem_cons, List.not_mem_nil, or_false] at hf
    rcases hf with rfl | rfl <;> simp [Word, lv]
  · subst h0; rw [f0_3] at hf
    simp only [List.mem_cons, List.not_mem_nil, or_false] at hf
    rcases hf with rfl | rfl | rfl <;> simp [Word, lv]
  · subst h0; rw [f0_4] at hf
    simp only [List.mem_cons, List.not_mem_nil, or_false] at hf
    rcases hf with rfl | rfl | rfl | rfl <;> simp [Word, lv]
  · rw [fn_0 h0] at hf; exact nomatch hf
  · rw [fn_1 h0] at hf
    simp only [List.mem_cons, List.not_mem_nil, or_false, or_self] at hf
    subst hf
    have e : ¬ fam = 0 := by omega
    simp [Word, lv, h0, e]
  · rw [fn_3 h0] at hf
    have e : ¬ fam = 0 := by omega
    simp only [List.mem_cons, List.not_mem_nil, or_false] at hf
    rcases hf with rfl | rfl | rfl <;> simp [Word, lv, h0, e]
  · rw [fp_0 h0] at hf; exact nomatch hf
  · rw [fp_1 h0] at hf
    have e : ¬ fam = 0 := by omega
    have e' : ¬ fam < 0 := by omega
    simp only [List.mem_cons, List.not_mem_nil, or_false, or_self] at hf
    subst hf
    simp [Word, lv, h0, e, e']
  · rw [fp_2 h0] at hf
    have e : ¬ fam = 0 := by omega
    have e' : ¬ fam < 0 := by omega
    simp only [List.mem_cons, List.not_mem_nil, or_false] at hf
    rcases hf with rfl | rfl | rfl <;> simp [Word, lv, h0, e, e']
  · rw [fp_3 h0] at hf
    have e : ¬ fam = 0 := by omega
    have e' : ¬ fam < 0 := by omega
    simp only [List.mem_cons, List.not_mem_nil, or_false] at hf
    rcases hf with rfl | rfl | rfl | rfl <;> simp [Word, lv, h0, e, e']

theorem faces_len {w : List Int} (h : Word fam w) : (facesBy w fam).length = (if lv fam w = 0 then 0 else lv fam w + 1) ∧ lv fam w ≤ 3 := by
  rcases word_cases h with ⟨h0, ⟨a, rfl⟩ | ⟨a, b, rfl⟩ | ⟨a, b, c, rfl⟩ | ⟨a, b, c, d, rfl⟩⟩ | ⟨h0, rfl | ⟨a, rfl⟩ | ⟨a, b, c, rfl⟩⟩ | ⟨h0, rfl | ⟨a, rfl⟩ | ⟨a, b, rfl⟩ | ⟨a, b, c, rfl⟩⟩
  · subst h0; simp [f0_1, lv]
  · subst h0; simp [f0_2, lv]
  · subst h0; simp [f0_3, lv]
  · subst h0; simp [f0_4, lv]
  all_goals have e : ¬ fam = 0 := by omega
  · simp [fn_0 h0, lv, e, h0]
  · simp [fn_1 h0, lv, e, h0]
  · simp [fn_3 h0, lv, e, h0]
  all_goals have e' : ¬ fam < 0 := by omega
  · simp [fp_0 h0, lv, e, e']
  · simp [fp_1 h0, lv, e, e']
  · simp [fp_2 h0, lv, e, e']
  · simp [fp_3 h0, lv, e, e']


theorem faces_agree {w f g : List Int} {i j : Nat} (h : Word fam w) (hl : 2 ≤ lv fam w) (hij : i < j) (hf : (facesBy w fam)[j]? = some f) (hg : (facesBy w fam)[i]? = some g) : (facesBy f fam)[i]? = (facesBy g fam)[j - 1]? := by
  have hj : j < (facesBy w fam).length := (List.getElem?_eq_some_iff.mp hf).1
  rcases word_cases h with ⟨h0, ⟨a, rfl⟩ | ⟨a, b, rfl⟩ | ⟨a, b, c, rfl⟩ | ⟨a, b, c, d, rfl⟩⟩ | ⟨h0, rfl | ⟨a, rfl⟩ | ⟨a, b, c, rfl⟩⟩ | ⟨h0, rfl | ⟨a, rfl⟩ | ⟨a, b, rfl⟩ | ⟨a, b, c, rfl⟩⟩
  · subst h0; simp [lv] at hl
  · subst h0; simp [lv] at hl
  · subst h0
    rw [f0_3] at hf hg hj
    have hc : (i = 0 ∧ j = 1) ∨ (i = 0 ∧ j = 2) ∨ (i = 1 ∧ j = 2) := by simp at hj; omega
    rcases hc with ⟨rfl, rfl⟩ | ⟨rfl, rfl⟩ | ⟨rfl, rfl⟩
    · simp at hf hg; subst hf hg; rfl
    · simp at hf hg; subst hf hg; rfl
    · simp at hf hg; subst hf hg; rfl
  · subst h0
    rw [f0_4] at hf hg hj
    have hc : (i = 0 ∧ j = 1) ∨ (i = 0 ∧ j = 2) ∨ (i = 0 ∧ j = 3) ∨ (i = 1 ∧ j = 2) ∨ (i = 1 ∧ j = 3) ∨ (i = 2 ∧ j = 3) := by simp at hj; omega
    rcases hc with ⟨rfl, rfl⟩ | ⟨rfl, rfl⟩ | ⟨rfl, rfl⟩ | ⟨rfl, rfl⟩ | ⟨rfl, rfl⟩ | ⟨rfl, rfl⟩
    · simp at hf hg; subst hf hg; rfl
    · simp at hf hg; subst hf hg; rfl
    · simp at hf hg; subst hf hg; rfl
    · simp at hf hg; subst hf hg; rfl
    · simp at hf hg; subst hf hg; rfl
    · simp at hf hg; subst hf hg; rfl
  all_goals have e : ¬ fam = 0 := by omega
  · simp [lv, e, h0] at hl
  · simp [lv, e, h0] at hl
  · rw [fn_3 h0] at hf hg hj
    have hc : (i = 0 ∧ j = 1) ∨ (i = 0 ∧ j = 2) ∨ (i = 1 ∧ j = 2) := by simp at hj; omega
    rcases hc with ⟨rfl, rfl⟩ | ⟨rfl, rfl⟩ | ⟨rfl, rfl⟩
    · simp at hf hg; subst hf hg; simp [fn_1 h0]
    · simp at hf hg; subst hf hg; simp [fn_1 h0]
    · simp at hf hg; subst hf hg; simp [fn_1 h0]
  all_goals have e' : ¬ fam < 0 := by omega
  · simp [lv, e, e'] at hl
  · simp [lv, e, e'] at hl
  · rw [fp_2 h0] at hf hg hj
    have hc : (i = 0 ∧ j = 1) ∨ (i = 0 ∧ j = 2) ∨ (i = 1 ∧ j = 2) := by simp at hj; omega
    rcases hc with ⟨rfl, rfl⟩ | ⟨rfl, rfl⟩ | ⟨rfl, rfl⟩
    · simp at hf hg; subst hf hg; simp [fp_1 h0]
    · simp at hf hg; subst hf hg; simp [fp_1 h0]
    · simp at hf hg; subst hf hg; simp [fp_1 h0]
  · rw [fp_3 h0] at hf hg hj
    have hc : (i = 0 ∧ j = 1) ∨ (i = 0 ∧ j = 2) ∨ (i = 0 ∧ j = 3) ∨ (i = 1 ∧ j = 2) ∨ (i = 1 ∧ j = 3) ∨ (i = 2 ∧ j = 3) := by simp at hj; omega
    rcases hc with ⟨rfl, rfl⟩ | ⟨rfl, rfl⟩ | ⟨rfl, rfl⟩ | ⟨rfl, rfl⟩ | ⟨rfl, rfl⟩ | ⟨rfl, rfl⟩
    · simp at hf hg; subst hf hg; simp [fp_2 h0]
    · simp at hf hg; subst hf hg; simp [fp_2 h0]
    · simp at hf hg; subst hf hg; simp [fp_2 h0]
    · skip
      simp at hf hg; subst hf hg
      simp only [fp_2 h0, List.getElem?_cons_succ, List.getElem?_cons_zero, Nat.add_one_sub_one]
      congr 2
      rw [Int.add_emod_emod, Int.emod_add_emod, Int.add_assoc]
    · simp at hf hg; subst hf hg; simp [fp_2 h0]
    · simp at hf hg; subst hf hg; simp [fp_2 h0]
end


def lev (p : List Int) : Nat := p.length - 1

structure Fits (xs : List (List Int)) (p : List Int) : Prop where
  cnt : p.length = 0 ∨ p.length = 2 ∨ p.length = 3 ∨ p.length = 4
  low : ∀ f ∈ p, 0 ≤ f
  bel : ∀ f ∈ p, ∃ q, xs[f.toNat]? = some q ∧ lev q + 1 = lev p
  agr : 3 ≤ p.length → ∀ (i j : Nat) (f g : Int) (q r : List Int), i < j → p[j]? = some f → p[i]? = some g → xs[f.toNat]? = some q → xs[g.toNat]? = some r → q[i]? = r[j - 1]?
def IsShape (xs : List (List Int)) : Prop := ∀ (k : Nat) (p : List Int), xs[k]? = some p → Fits (xs.take k) p


def Ord (fam : Int) (ws : List (List Int)) : Prop := ∀ (k : Nat) (w : List Int), ws[k]? = some w → Word fam w ∧ ∀ f ∈ facesBy w fam, f ∈ ws.take k
theorem Ord.nil {fam : Int} : Ord fam [] := fun k w h => by simp at h
theorem Ord.snoc {fam : Int} {ws : List (List Int)} {w : List Int} (h : Ord fam ws) (hw : Word fam w) (hf : ∀ f ∈ facesBy w fam, f ∈ ws) : Ord fam (ws ++ [w]) := by
  intro k v hk
  by_cases hlt : k < ws.length
  · rw [List.getElem?_append_left hlt] at hk
    rw [List.take_append_of_le_length (by omega)]
    exact h k v hk
  · have hk' : k < (ws ++ [w]).length := (List.getElem?_eq_some_iff.mp hk).1
    have e : k = ws.length := by simp at hk'; omega
    subst e
    simp at hk
    subst hk
    rw [List.take_append_of_le_length (Nat.le_refl _), List.take_length]
    exact ⟨hw, hf⟩
theorem Ord.mem {fam : Int} {ws : List (List Int)} (h : Ord fam ws) {w : List Int} (hw : w ∈ ws) : Word fam w ∧ ∀ f ∈ facesBy w fam, f ∈ ws := by
  obtain ⟨k, hk⟩ := List.getElem?_of_mem hw
  obtain ⟨h1, h2⟩ := h k w hk
  exact ⟨h1, fun f hf => List.mem_of_mem_take (h2 f hf)⟩

def addAll (ws : List (List Int)) : List (List Int) → List (List Int)
  | [] => ws
  | w :: r => addAll (if w ∈ ws then ws else ws ++ [w]) r
theorem addAll_len : ∀ (rows ws : List (List Int)), (addAll ws rows).length ≤ ws.length + rows.length
  | [], ws => by simp [addAll]
  | w :: r, ws => by
    have h1 := addAll_len r (if w ∈ ws then ws else ws ++ [w])
    have h2 : (if w ∈ ws then ws else ws ++ [w]).length ≤ ws.length + 1 := by
      split
      · omega
      · simp
    simp only [addAll, List.length_cons]
    omega
theorem addAll_ord {fam : Int} : ∀ (rows ws : List (List Int)), Ord fam ws → (∀ (k : Nat) (w : List Int), rows[k]? = some w → Word fam w ∧ ∀ f ∈ facesBy w fam, f ∈ ws ∨ f ∈ rows.take k) → Ord fam (addAll ws rows)
  | [], ws, h, _ => h
  | w :: r, ws, h, hr => by
    have h0 := hr 0 w rfl
    have hw : ∀ f ∈ facesBy w fam, f ∈ ws := fun f hf => (h0.2 f hf).resolve_right (by simp)
    simp only [addAll]
    refine addAll_ord r _ ?_ fun k v hk => ?_
    · split
      · exact h
      · exact h.snoc h0.1 hw
    · obtain ⟨h1, h2⟩ := hr (k + 1) v (by simpa using hk)
      refine ⟨h1, fun f hf => ?_⟩
      rcases h2 f hf with z | z
      · left
        split
        · exact z
        · exact List.mem_append_left _ z
      · rw [List.take_succ_cons] at z
        rcases List.mem_cons.mp z with z | z
        · left
          subst z
          split
          · assumption
          · simp
        · exact .inr z

def addNew (ws : List (List Int)) : List (List Int) → List (List Int) → List (List Int)
  | acc, [] => acc
  | acc, f :: r => addNew ws (if f ∉ ws ∧ f ∉ acc then acc ++ [f] else acc) r
theorem addNew_sub {ws : List (List Int)} {x : List Int} : ∀ (fs acc : List (List Int)), x ∈ addNew ws acc fs → x ∈ acc ∨ x ∈ fs
  | [], acc, h => .inl h
  | f :: r, acc, h => by
    rcases addNew_sub r _ h with z | z
    · split at z
      · rcases List.mem_append.mp z with z | z
        · exact .inl z
        · exact .inr (by simp at z; simp [z])
      · exact .inl z
    · exact .inr (List.mem_cons_of_mem _ z)
theorem addNew_mono {ws : List (List Int)} {x : List Int} : ∀ (fs acc : List (List Int)), x ∈ acc → x ∈ addNew ws acc fs
  | [], acc, h => h
  | f :: r, acc, h => addNew_mono r _ (by split; exact List.mem_append_left _ h; exact h)
theorem addNew_has {ws : List (List Int)} {x : List Int} : ∀ (fs acc : List (List Int)), x ∈ fs → x ∈ ws ∨ x ∈ addNew ws acc fs
  | f :: r, acc, h => by
    rcases List.mem_cons.mp h with e | e
    · subst e
      by_cases h1 : x ∈ ws
      · exact .inl h1
      · right
        refine addNew_mono r _ ?_
        by_cases h2 : x ∈ acc
        · rw [if_neg (by simp [h2])]; exact h2
        · rw [if_pos ⟨h1, h2⟩]; simp
    · exact addNew_has r _ e
theorem addNew_len {ws : List (List Int)} : ∀ (fs acc : List (List Int)), (addNew ws acc fs).length ≤ acc.length + fs.length
  | [], acc => by simp [addNew]
  | f :: r, acc => by
    have h1 := addNew_len (ws := ws) r (if f ∉ ws ∧ f ∉ acc then acc ++ [f] else acc)
    have h2 : (if f ∉ ws ∧ f ∉ acc then acc ++ [f] else acc).length ≤ acc.length + 1 := by
      split
      · simp
      · omega
    simp only [addNew, List.length_cons]
    omega

def below (ws : List (List Int)) (fam : Int) : List (List Int) → List (List Int) → List (List Int)
  | acc, [] => acc
  | acc, w :: r => below ws fam (addNew ws acc (facesBy w fam)) r
theorem below_sub {ws : List (List Int)} {fam : Int} {x : List Int} : ∀ (l acc : List (List Int)), x ∈ below ws fam acc l → x ∈ acc ∨ ∃ w ∈ l, x ∈ facesBy w fam
  | [], acc, h => .inl h
  | w :: r, acc, h => by
    rcases below_sub r _ h with z | ⟨v, hv, z⟩
    · rcases addNew_sub _ _ z with z | z
      · exact .inl z
      · exact .inr ⟨w, List.mem_cons_self, z⟩
    · exact .inr ⟨v, List.mem_cons_of_mem _ hv, z⟩
theorem below_mono {ws : List (List Int)} {fam : Int} {x : List Int} : ∀ (l acc : List (List Int)), x ∈ acc → x ∈ below ws fam acc l
  | [], acc, h => h
  | w :: r, acc, h => below_mono r _ (addNew_mono _ _ h)
theorem below_has {ws : List (List Int)} {fam : Int} {x w : List Int} : ∀ (l acc : List (List Int)), w ∈ l → x ∈ facesBy w fam → x ∈ ws ∨ x ∈ below ws fam acc l
  | v :: r, acc, h, hx => by
    rcases List.mem_cons.mp h with e | e
    · subst e
      rcases addNew_has (ws := ws) _ acc hx with z | z
      · exact .inl z
      · exact .inr (below_mono r _ z)
    · exact below_has r _ e hx
theorem below_len {ws : List (List Int)} {fam : Int} : ∀ (l acc : List (List Int)), (∀ w ∈ l, Word fam w) → (below ws fam acc l).length ≤ acc.length + 4 * l.length
  | [], acc, _ => by simp [below]
  | w :: r, acc, h => by
    have h1 := below_len (ws := ws) r (addNew ws acc (facesBy w fam)) fun v hv => h v (List.mem_cons_of_mem _ hv)
    have h2 := addNew_len (ws := ws) (facesBy w fam) acc
    have h3 := faces_len (h w List.mem_cons_self)
    simp only [below, List.length_cons]
    split at h3 <;> omega
theorem addNew_snoc (ws : List (List Int)) (f : List Int) : ∀ (fs acc : List (List Int)), addNew ws acc (fs ++ [f]) = (if f ∉ ws ∧ f ∉ addNew ws acc fs then addNew ws acc fs ++ [f] else addNew ws acc fs)
  | [], acc => rfl
  | g :: fs, acc => addNew_snoc ws f fs _
theorem below_snoc (ws : List (List Int)) (fam : Int) (w : List Int) : ∀ (l acc : List (List Int)), below ws fam acc (l ++ [w]) = addNew ws (below ws fam acc l) (facesBy w fam)
  | [], acc => rfl
  | v :: l, acc => below_snoc ws fam w l _
theorem addAll_snoc (w : List Int) : ∀ (rows ws : List (List Int)), addAll ws (rows ++ [w]) = (if w ∈ addAll ws rows then addAll ws rows else addAll ws rows ++ [w])
  | [], ws => rfl
  | v :: rows, ws => addAll_snoc w rows _

def layers (ws : List (List Int)) (fam : Int) : Nat → List (List Int) → List (List Int) → List (List Int)
  | 0, layer, rows => rows
  | n + 1, layer, rows => layers ws fam n (below ws fam [] layer) (layer ++ rows)
theorem layers_ok {ws : List (List Int)} {fam : Int} : ∀ (n : Nat) (layer rows : List (List Int)), (∀ w ∈ layer, Word fam w ∧ lv fam w < n) →
    (∀ (k : Nat) (w : List Int), rows[k]? = some w → Word fam w ∧ ∀ f ∈ facesBy w fam, f ∈ ws ∨ f ∈ layer ∨ f ∈ rows.take k) →
    ∀ (k : Nat) (w : List Int), (layers ws fam n layer rows)[k]? = some w → Word fam w ∧ ∀ f ∈ facesBy w fam, f ∈ ws ∨ f ∈ (layers ws fam n layer rows).take k
  | 0, layer, rows, hl, hr, k, w, hk => by
    obtain ⟨h1, h2⟩ := hr k w hk
    refine ⟨h1, fun f hf => ?_⟩
    rcases h2 f hf with z | z | z
    · exact .inl z
    · exact absurd (hl f z).2 (by omega)
    · exact .inr z
  | n + 1, layer, rows, hl, hr, k, w, hk => by
    refine layers_ok n _ _ ?_ ?_ k w hk
    · intro v hv
      rcases below_sub _ _ hv with z | ⟨u, hu, z⟩
      · exact nomatch z
      · obtain ⟨q1, q2⟩ := hl u hu
        obtain ⟨q3, q4⟩ := faces_word q1 z
        exact ⟨q3, by omega⟩
    · intro m v hm
      by_cases hlt : m < layer.length
      · rw [List.getElem?_append_left hlt] at hm
        have hv : v ∈ layer := List.mem_of_getElem? hm
        refine ⟨(hl v hv).1, fun f hf => ?_⟩
        rcases below_has (ws := ws) layer [] hv hf with z | z
        · exact .inl z
        · exact .inr (.inl z)
      · rw [List.getElem?_append_right (by omega)] at hm
        obtain ⟨h1, h2⟩ := hr _ v hm
        refine ⟨h1, fun f hf => ?_⟩
        rcases h2 f hf with z | z | z
        · exact .inl z
        · right; right
          rw [List.take_append]
          refine List.mem_append_left _ ?_
          rw [List.take_of_length_le (by omega)]
          exact z
        · right; right
          rw [List.take_append]
          exact List.mem_append_right _ z

def wordsWith (ws : List (List Int)) (w : List Int) (fam : Int) : List (List Int) := addAll ws (layers ws fam 4 [w] [])
theorem wordsWith_ord {ws : List (List Int)} {w : List Int} {fam : Int} (h : Ord fam ws) (hw : Word fam w) : Ord fam (wordsWith ws w fam) := by
  refine addAll_ord _ _ h (layers_ok 4 [w] [] ?_ ?_)
  · intro v hv
    have e : v = w := by simpa using hv
    subst e
    exact ⟨hw, by have := (faces_len hw).2; omega⟩
  · intro k v hk
    simp at hk

def idx (ws : List (List Int)) (f : List Int) : Nat := ws.findIdx (· == f)
theorem idx_get {ws : List (List Int)} {f : List Int} (h : f ∈ ws) : ws[idx ws f]? = some f := by
  unfold idx
  have hl : ws.findIdx (· == f) < ws.length := List.findIdx_lt_length_of_exists ⟨f, h, by simp⟩
  rw [List.getElem?_eq_getElem hl]
  have := List.findIdx_getElem (xs := ws) (p := (· == f)) (w := hl)
  simpa using this
theorem idx_lt {ws : List (List Int)} {f : List Int} {k : Nat} (h : f ∈ ws.take k) : idx ws f < k := by
  unfold idx
  obtain ⟨i, hi⟩ := List.getElem?_of_mem h
  have hlt : i < (ws.take k).length := (List.getElem?_eq_some_iff.mp hi).1
  rw [List.getElem?_take] at hi
  split at hi
  · rename_i hik
    have hl : i < ws.length := (List.getElem?_eq_some_iff.mp hi).1
    have e : ws[i] = f := by
      rw [List.getElem?_eq_getElem hl] at hi
      exact Option.some.inj hi
    have hle : ws.findIdx (· == f) ≤ i := by
      apply Nat.le_of_not_lt
      intro hgt
      have := List.not_of_lt_findIdx hgt
      simp [e] at this
    omega
  · cases hi

def shapeOf (ws : List (List Int)) (fam : Int) : List (List Int) := ws.map fun w => (facesBy w fam).map fun f => (idx ws f : Int)
theorem shapeOf_get {ws : List (List Int)} {fam : Int} {k : Nat} {w : List Int} (h : ws[k]? = some w) : (shapeOf ws fam)[k]? = some ((facesBy w fam).map fun f => (idx ws f : Int)) := by
  unfold shapeOf
  rw [List.getElem?_map, h]
  rfl
theorem shapeOf_shape {ws : List (List Int)} {fam : Int} (h : Ord fam ws) : IsShape (shapeOf ws fam) := by
  intro k p hp
  unfold shapeOf at hp
  rw [List.getElem?_map] at hp
  cases hw : ws[k]? with
  | none => rw [hw] at hp; cases hp
  | some w =>
    rw [hw] at hp
    have hp' : (facesBy w fam).map (fun f => (idx ws f : Int)) = p := by simpa using hp
    subst hp'
    obtain ⟨h1, h2⟩ := h k w hw
    obtain ⟨n1, n2⟩ := faces_len h1
    have look : ∀ f ∈ facesBy w fam, ((shapeOf ws fam).take k)[((idx ws f : Nat) : Int).toNat]? = some ((facesBy f fam).map fun g => (idx ws g : Int)) := fun f hf => by
      have hm := h2 f hf
      have hlt := idx_lt hm
      rw [Int.toNat_natCast, List.getElem?_take, if_pos hlt]
      exact shapeOf_get (idx_get (List.mem_of_mem_take hm))
    refine ⟨?_, ?_, ?_, ?_⟩
    · rw [List.length_map]
      by_cases hz : lv fam w = 0
      · rw [if_pos hz] at n1; omega
      · rw [if_neg hz] at n1; omega
    · intro f hf
      obtain ⟨g, _, rfl⟩ := List.mem_map.mp hf
      omega
    · intro f hf
      obtain ⟨g, hg, rfl⟩ := List.mem_map.mp hf
      refine ⟨_, look g hg, ?_⟩
      obtain ⟨w1, l1⟩ := faces_word h1 hg
      obtain ⟨m1, _⟩ := faces_len w1
      unfold lev
      rw [List.length_map, List.length_map]
      have hz : ¬ lv fam w = 0 := by omega
      rw [if_neg hz] at n1
      by_cases hy : lv fam g = 0
      · rw [if_pos hy] at m1; omega
      · rw [if_neg hy] at m1; omega
    · intro hl i j f g q r hij hf hg hq hr
      rw [List.length_map] at hl
      rw [List.getElem?_map] at hf hg
      cases ef : (facesBy w fam)[j]? with
      | none => rw [ef] at hf; cases hf
      | some F =>
        cases eg : (facesBy w fam)[i]? with
        | none => rw [eg] at hg; cases hg
        | some G =>
          rw [ef] at hf
          rw [eg] at hg
          have ef' : ((idx ws F : Nat) : Int) = f := by simpa using hf
          have eg' : ((idx ws G : Nat) : Int) = g := by simpa using hg
          subst ef' eg'
          rw [look F (List.mem_of_getElem? ef)] at hq
          rw [look G (List.mem_of_getElem? eg)] at hr
          cases hq
          cases hr
          have hz : ¬ lv fam w = 0 := by intro z; rw [if_pos z] at n1; omega
          rw [if_neg hz] at n1
          rw [List.getElem?_map, List.getElem?_map, faces_agree h1 (by omega) hij ef eg]
theorem layers_len {ws : List (List Int)} {fam : Int} {w : List Int} (hw : Word fam w) : (layers ws fam 4 [w] []).length ≤ 85 := by
  have step : ∀ l : List (List Int), (∀ v ∈ l, Word fam v) → (below ws fam [] l).length ≤ 4 * l.length ∧ ∀ v ∈ below ws fam [] l, Word fam v := fun l hl => by
    refine ⟨by have := below_len (ws := ws) l [] hl; simpa using this, fun v hv => ?_⟩
    rcases below_sub _ _ hv with z | ⟨u, hu, z⟩
    · exact nomatch z
    · exact (faces_word (hl u hu) z).1
  have s0 : ∀ v ∈ [w], Word fam v := fun v hv => by have e : v = w := by simpa using hv
                                                    subst e; exact hw
  obtain ⟨a1, b1⟩ := step _ s0
  obtain ⟨a2, b2⟩ := step _ b1
  obtain ⟨a3, b3⟩ := step _ b2
  simp only [layers, List.length_append, List.length_nil, List.length_cons] at a1 a2 a3 ⊢
  omega
end Hb

set_option linter.all false
namespace Hb

def pc (xs : List (List Int)) (p : Int) : List Int := xs.getD p.toNat []
def InS (xs : List (List Int)) (p : Int) : Prop := 0 ≤ p ∧ p < (xs.length : Int)
def lastL (l : List Int) : List Int := l.drop (l.length - 1)
def corn (xs : List (List Int)) : Nat → Int → List Int
  | 0, p => [p]
  | n + 1, p => if (pc xs p).length = 0 then [p] else corn xs n ((pc xs p).getD ((pc xs p).length - 1) 0) ++ lastL (corn xs n ((pc xs p).getD 0 0))
section
variable {xs : List (List Int)}
def cor (xs : List (List Int)) (p : Int) : List Int := corn xs 3 p
end
end Hb

set_option Elab.async false
set_option linter.all false
set_option maxRecDepth 100000
set_option maxHeartbeats 4000000

namespace Hb
open PySem L2

def cellAt (ns : List Int) (k : Int) : Int := ns.getD k.toNat 0

abbrev LT (K : PySem.W.Frag) (H : Hp) (v : V) (xs : List (List Int)) : Prop := Rep K H v (.lst (xs.map tI))
abbrev TI (K : PySem.W.Frag) (H : Hp) (v : V) (ns : List Int) : Prop := Rep K H v (tI ns)

section
variable {K : PySem.W.Frag} {H H' : Hp}
theorem TI.sq {v : V} {ns : List Int} (h : TI K H v ns) : ∃ a, v = .ref a ∧ SqT K H a (ns.map V.int) := by
  obtain ⟨a, vs, e, q, r⟩ := h
  rw [reps_nums.mp r] at q
  exact ⟨a, e, q⟩
theorem TI.mk {a : Addr} {ns : List Int} (h : SqT K H a (ns.map V.int)) : TI K H (.ref a) ns := ⟨a, _, rfl, h, reps_nums.mpr rfl⟩
theorem TI.same {v : V} {ns : List Int} (s : Same H H') (h : TI K H v ns) : TI K H' v ns := Rep.same s h
theorem TI.t {v : V} {ns : List Int} (s : TSame H H') (h : TI K H v ns) : TI K H' v ns := Rep.t s (imm_tI ns) h
theorem cut_take (xs : List V) (k : Nat) : cutV xs none (some (k : Int)) = xs.take k := by
  unfold cutV
  rw [HT.sIx_none, HT.sIx_nat, Nat.sub_zero, List.drop_zero, List.take_eq_take_iff]
  omega
theorem cut_drop (xs : List V) (k : Nat) : cutV xs (some (k : Int)) none = xs.drop k := by
  unfold cutV
  rw [HT.sIx_none, HT.sIx_nat]
  by_cases h : k ≤ xs.length
  · rw [Nat.min_eq_left h, List.take_of_length_le (by rw [List.length_drop]; omega)]
  · rw [Nat.min_eq_right (by omega), List.drop_length, List.drop_of_length_le (by omega)]
    simp
theorem push_reps {D : Addr} {ys : List V} {v : V} {d : L2.D} {ds : List L2.D} (hD : H D = some (.lst ys)) (r : Reps K H ys ds) (rv : Rep K H v d) (hi : imms (ds ++ [d]) = true) : Reps K (upd H D (.lst (ys ++ [v]))) (ys ++ [v]) (ds ++ [d]) :=
  (r.snoc rv).t (TSame.lst hD) hi
theorem push_TI {D : Addr} {ys : List V} {v : V} {xs : List (List Int)} {x : List Int} (hD : H D = some (.lst ys)) (r : Reps K H ys (xs.map tI)) (rv : TI K H v x) : Reps K (upd H D (.lst (ys ++ [v]))) (ys ++ [v]) ((xs ++ [x]).map tI) := by
  have e : (xs ++ [x]).map tI = xs.map tI ++ [tI x] := by simp
  have h := imms_tIs (xs ++ [x])
  rw [e] at h ⊢
  exact push_reps hD r rv h

def SameX (B : Addr) (H H' : Hp) : Prop := ∀ b o, b ≠ B → H b = some o → H' b = some o
theorem SameX.refl (B : Addr) (H : Hp) : SameX B H H := fun _ _ _ h => h
theorem SameX.trans {B : Addr} {H H1 H2 : Hp} (a : SameX B H H1) (b : SameX B H1 H2) : SameX B H H2 := fun c o n h => b c o n (a c o n h)
theorem SameX.of {B : Addr} {H H1 : Hp} (a : Same H H1) : SameX B H H1 := fun c o _ h => a c o h
theorem SameX.upd {B : Addr} {H H1 : Hp} {o : HO} (a : SameX B H H1) : SameX B H (upd H1 B o) := fun c u n h => by rw [upd_ne n]; exact a c u n h
theorem SameX.t {B : Addr} {H H1 : Hp} {us : List V} (a : SameX B H H1) (h : H B = some (.lst us)) : TSame H H1 :=
  ⟨fun b xs e => a b _ (ne_of e h (by intro z; cases z)) e, fun b o u e => a b _ (ne_of e h (by intro z; cases z)) e⟩
theorem SameX.same {B : Addr} {H0 H H1 : Hp} (a : SameX B H H1) (s : Same H0 H) (h : H0 B = none) : Same H0 H1 := fun b o e => a b o (ne_of_none e h) (s b o e)
theorem deps_nums : ∀ ns : List Int, deps (nums ns) = 0
  | [] => rfl
  | n :: ns => by show max (dep (.int n)) (deps (nums ns)) = 0; rw [deps_nums ns]; rfl
theorem deps_tIs : ∀ xs : List (List Int), deps (xs.map tI) ≤ 1
  | [] => Nat.zero_le _
  | x :: xs => by
    have h1 := deps_tIs xs
    have h2 : dep (tI x) = 1 := by show deps (nums x) + 1 = 1; rw [deps_nums]
    show max (dep (tI x)) (deps (xs.map tI)) ≤ 1
    omega
theorem any_tI (f : List Int) : ∀ xs : List (List Int), (xs.map tI).any (fun e => eqD e (tI f)) = decide (f ∈ xs)
  | [] => rfl
  | x :: xs => by
    rw [List.map_cons, List.any_cons, any_tI f xs, eqD_tI]
    by_cases h : x = f
    · subst h; simp
    · have h' : ¬ f = x := fun z => h z.symm
      simp [h, h']
theorem ifP {c A B : Prop} [Decidable c] (hc : c) (h : A) : if c then A else B := by rw [if_pos hc]; exact h
theorem ifN {c A B : Prop} [Decidable c] (hc : ¬ c) (h : B) : if c then A else B := by rw [if_neg hc]; exact h
theorem neI {a b : Int} (h : ¬ a = b) : (!decide (V.int a = V.int b)) = true := by simp [h]
theorem eqI {a b : Int} (h : a = b) : ¬ (!decide (V.int a = V.int b)) = true := by simp [h]
theorem noI {a b : Int} (h : ¬ a = b) : ¬ decide (V.int a = V.int b) = true := by simp [h]
theorem comp_list0 {g : TG} {te : TE} {D : Addr} {Q : Hp → Prop} {τ : St} {H : Hp} {K : PySem.W.Frag} {a : Addr} {xs : List V} (Pv : Nat → List V → St → Hp → Prop) (h0 : Pv 0 [] τ H) (hl : ∀ i ys τ H, i ≤ xs.length → Pv i ys τ H → SqL K H a xs)
    (hs : ∀ i x ys τ H, xs[i]? = some x → Pv i ys τ H → g x τ H fun τ2 H2 => te τ2 H2 fun y H4 => H4 D = some (.lst ys) ∧ ys.length < sizeLine ∧ Pv (i + 1) (ys ++ [y]) τ2 (upd H4 D (.lst (ys ++ [y]))))
    (hd : ∀ ys τ H, Pv xs.length ys τ H → Q H) : RunC (Itl K a) g tYes te D Q τ H := comp_list Pv h0 hl (fun i x ys τ H e p => hs i x ys τ H e p) hd
theorem comp_tup0 {g : TG} {te : TE} {D : Addr} {Q : Hp → Prop} {τ : St} {H : Hp} {K : PySem.W.Frag} {a : Addr} {xs : List V} (Pv : Nat → List V → St → Hp → Prop) (h0 : Pv 0 [] τ H) (hl : ∀ i ys τ H, i ≤ xs.length → Pv i ys τ H → SqT K H a xs)
    (hs : ∀ i x ys τ H, xs[i]? = some x → Pv i ys τ H → g x τ H fun τ2 H2 => te τ2 H2 fun y H4 => H4 D = some (.lst ys) ∧ ys.length < sizeLine ∧ Pv (i + 1) (ys ++ [y]) τ2 (upd H4 D (.lst (ys ++ [y]))))
    (hd : ∀ ys τ H, Pv xs.length ys τ H → Q H) : RunC (Itt K a) g tYes te D Q τ H := comp_tup Pv h0 hl (fun i x ys τ H e p => hs i x ys τ H e p) hd
theorem comp_range0 {g : TG} {te : TE} {D : Addr} {Q : Hp → Prop} {τ : St} {H : Hp} {lo : Int} {n : Nat} (Pv : Nat → List V → St → Hp → Prop) (h0 : Pv 0 [] τ H)
    (hs : ∀ i ys τ H, i < n → Pv i ys τ H → g (.int (lo + i)) τ H fun τ2 H2 => te τ2 H2 fun y H4 => H4 D = some (.lst ys) ∧ ys.length < sizeLine ∧ Pv (i + 1) (ys ++ [y]) τ2 (upd H4 D (.lst (ys ++ [y]))))
    (hd : ∀ ys τ H, Pv n ys τ H → Q H) : RunC (Itr lo n) g tYes te D Q τ H := comp_range Pv h0 (fun i ys τ H e p => hs i ys τ H e p) hd
theorem tSeq_cut {t u : TS} {D : Ends} {σ : St} {H : Hp} (P : St → Hp → Prop) (hu : ∀ σ' H', P σ' H' → u D σ' H') (h : (∀ σ' H', P σ' H' → u D σ' H') → tSeq t u D σ H) : tSeq t u D σ H := h hu
theorem findIdx_tI {f : List Int} : ∀ {ws : List (List Int)}, f ∈ ws → (ws.map tI).findIdx? (fun e => eqD e (tI f)) = some (idx ws f) := fun {ws} h => by
  have e : (ws.map tI).findIdx? (fun e => eqD e (tI f)) = ws.findIdx? (fun w => w == f) := by
    rw [List.findIdx?_map]
    congr 1
    funext w
    show eqD (tI w) (tI f) = (w == f)
    rw [eqD_tI]
    by_cases z : w = f
    · subst z; simp
    · simp [z]
  rw [e, List.findIdx?_eq_some_of_exists (xs := ws) (p := fun w => w == f) ⟨f, h, by simp⟩]
  rfl
theorem small {n : Nat} (h : n ≤ 1000000) : n < sizeLine := Nat.lt_of_le_of_lt h (by decide)
theorem smallE {n : Nat} (h : n ≤ 1000000) : n ≤ sizeLine := Nat.le_of_lt (small h)
end
section
variable (K : PySem.W.Frag)
def sp_cell_at : Sp := fun vs H Q _ => ∃ (a : Addr) (ns : List Int) (k : Int), vs = [.ref a, .int k] ∧ SqL K H a (ns.map V.int) ∧ 0 ≤ k ∧ ns.length ≤ 63 ∧ Q (.int (cellAt ns k)) H

def sp_faces_by : Sp := fun vs H Q _ => ∃ (v : V) (w : List Int) (fam : Int), vs = [v, .int fam] ∧ TI K H v w ∧ Word fam w ∧
  ∀ (p : Addr) (us : List V) (H' : Hp), H p = none → Same H H' → H' p = some (.lst us) → Reps K H' us ((facesBy w fam).map tI) → Q (.ref p) H'
def sp_word_by : Sp := fun vs H Q _ => ∃ (c fam letters : Int), vs = [.int c, .int fam, .int letters] ∧ 0 < letters ∧ letters < 100 ∧ fam < 100 ∧
  ∀ (v : V) (H' : Hp) (w : List Int), Same H H' → TI K H' v w → Word fam w → Q v H'
def sp_words_with : Sp := fun vs H Q _ => ∃ (l : Addr) (us : List V) (v : V) (ws : List (List Int)) (w : List Int) (fam : Int), vs = [.ref l, v, .int fam] ∧ H l = some (.lst us) ∧ Reps K H us (ws.map tI) ∧ TI K H v w ∧ Word fam w ∧ ws.length ≤ 100 ∧
  ∀ (p : Addr) (us' : List V) (H' : Hp), H p = none → Same H H' → H' p = some (.lst us') → Reps K H' us' ((wordsWith ws w fam).map tI) → Q (.ref p) H'

def sp_law : Sp := fun vs H Q _ => ∃ (a : Addr) (ns : List Int), vs = [.ref a] ∧ SqL K H a (ns.map V.int) ∧ ns.length ≤ 63 ∧ ∀ H', Q (.bl true) H'
def sp_shape_by : Sp := fun vs H Q _ => ∃ (a : Addr) (ns : List Int) (kind most : Int), vs = [.int kind, .ref a, .int most] ∧ SqL K H a (ns.map V.int) ∧ ns.length ≤ 63 ∧ 0 ≤ most ∧ most ≤ 100 ∧
  ∀ (p : Addr) (us : List V) (H' : Hp) (xs : List (List Int)), H p = none → Same H H' → H' p = some (.lst us) → Reps K H' us (xs.map tI) → IsShape xs → (xs.length : Int) ≤ most → Q (.ref p) H'
end
end Hb

set_option Elab.async false
set_option linter.all false
set_option maxRecDepth 100000
set_option maxHeartbeats 4000000
namespace Hb
open PySem L2
def wholeD (d : L2.D) : Bool := isD "int" d && !isD "bool" d
def belowD (d : L2.D) (b : Int) : Bool := match d with
  | .int i => decide (0 ≤ i) && decide (i < b)
  | _ => false
def levI (n : Nat) : Int := if (0 : Int) > (n : Int) - 1 then 0 else (n : Int) - 1
def placeLev (xs : List (List Int)) (d : L2.D) (l : Int) : Bool := match d with
  | .int i => decide (0 ≤ i) && decide (i < (xs.length : Int)) && decide (levI (xs.getD i.toNat []).length = l)
  | _ => false
def agreeAt (xs : List (List Int)) (p : List Int) (j i : Nat) : Bool := decide ((xs.getD (p.getD j 0).toNat []).getD i 0 = (xs.getD (p.getD i 0).toNat []).getD (j - 1) 0)
def agreeB (xs : List (List Int)) (p : List Int) : Bool := (List.range p.length).all fun j => (List.range j).all fun i => agreeAt xs p j i
def toI : L2.D → Int
  | .int i => i
  | _ => 0
def cntB (n : Nat) : Bool := n == 0 || n == 2 || n == 3 || n == 4
def fitsD (xs : List (List Int)) (d : L2.D) : Bool := match d with
  | .tup ds => cntB ds.length && ds.all (fun e => placeLev xs e (levI ds.length - 1)) && (decide (levI ds.length < 2) || agreeB xs (ds.map toI))
  | _ => false
theorem cntB_le {n : Nat} (h : cntB n = true) : n ≤ 4 ∧ n ≠ 1 := by
  unfold cntB at h
  simp only [Bool.or_eq_true, beq_iff_eq] at h
  omega
section
variable (K : PySem.W.Frag)
def sp_is_whole : Sp := fun vs H Q _ => ∃ (x : V) (d : L2.D), vs = [x] ∧ Rep K H x d ∧ Q (.bl (wholeD d)) H
abbrev sp_L_whole : Sp := sp_is_whole K
def sp_is_whole_below : Sp := fun vs H Q _ => ∃ (x : V) (d : L2.D) (b : Int), vs = [x, .int b] ∧ Rep K H x d ∧ Q (.bl (belowD d b)) H
def sp_level_of : Sp := fun vs H Q _ => ∃ (x : V) (ds : List L2.D), vs = [x] ∧ SeqD K H x ds ∧ Q (.int (levI ds.length)) H
def sp_is_place_of_level : Sp := fun vs H Q _ => ∃ (a : Addr) (x : V) (d : L2.D) (l : Int) (xs : List (List Int)), vs = [.ref a, x, .int l] ∧ LT K H (.ref a) xs ∧ Rep K H x d ∧ Q (.bl (placeLev xs d l)) H
def sp_faces_agree : Sp := fun vs H Q _ => ∃ (a : Addr) (v : V) (xs : List (List Int)) (p : List Int), vs = [.ref a, v] ∧ LT K H (.ref a) xs ∧ TI K H v p ∧ p.length ≤ 4 ∧
  (∀ f ∈ p, 0 ≤ f ∧ f < (xs.length : Int) ∧ (xs.getD f.toNat []).length + 1 = p.length) ∧ Q (.bl (agreeB xs p)) H
def sp_fits : Sp := fun vs H Q _ => ∃ (a : Addr) (th : V) (d : L2.D) (xs : List (List Int)), vs = [.ref a, th] ∧ LT K H (.ref a) xs ∧ Rep K H th d ∧ ∀ H', Same H H' → Q (.bl (fitsD xs d)) H'
abbrev sp_L_fits_by : Sp := sp_fits K
abbrev sp_L_cell_at : Sp := sp_cell_at K
abbrev sp_L_faces_by : Sp := sp_faces_by K
abbrev sp_L_word_by : Sp := sp_word_by K
abbrev sp_L_words_with : Sp := sp_words_with K
abbrev sp_L_shape_by : Sp := sp_shape_by K
end
section
variable {K : PySem.W.Frag} {H : Hp}
theorem LT.get {a : Addr} {xs : List (List Int)} {i : Int} (h : LT K H (.ref a) xs) (h0 : 0 ≤ i) (h1 : i < (xs.length : Int)) : ∃ us v, SqL K H a us ∧ atI us i = some v ∧ TI K H v (xs.getD i.toNat []) := by
  obtain ⟨a', us, e, hq, r⟩ := h
  cases e
  obtain ⟨j, rfl⟩ := Int.eq_ofNat_of_zero_le h0
  have hj : j < xs.length := by omega
  have e : (xs.map tI)[j]? = some (tI xs[j]) := by rw [List.getElem?_map, List.getElem?_eq_getElem hj]; rfl
  obtain ⟨v, hv, tv⟩ := r.get e
  refine ⟨us, v, hq, atI_nat hv, ?_⟩
  rw [Int.toNat_natCast, List.getD_eq_getElem?_getD, List.getElem?_eq_getElem hj]
  exact tv
theorem LT.len {a : Addr} {xs : List (List Int)} (h : LT K H (.ref a) xs) : ∃ us, SqL K H a us ∧ us.length = xs.length := by
  obtain ⟨a', us, e, hq, r⟩ := h
  cases e
  exact ⟨us, hq, by have := r.length; simpa using this⟩
theorem TI.get {v : V} {p : List Int} {i : Int} (h : TI K H v p) (h0 : 0 ≤ i) (h1 : i < (p.length : Int)) : ∃ a, v = .ref a ∧ SqT K H a (p.map V.int) ∧ atI (p.map V.int) i = some (.int (p.getD i.toNat 0)) := by
  obtain ⟨a, e, hq⟩ := h.sq
  refine ⟨a, e, hq, ?_⟩
  obtain ⟨j, rfl⟩ := Int.eq_ofNat_of_zero_le h0
  have hj : j < p.length := by omega
  refine atI_nat ?_
  rw [List.getElem?_map, List.getElem?_eq_getElem hj]
  simp [hj]
theorem levI_eq (n : Nat) : levI n = ((n - 1 : Nat) : Int) := by unfold levI; split <;> omega
end
end Hb

set_option Elab.async false
set_option linter.all false
set_option maxRecDepth 100000
set_option maxHeartbeats 4000000

namespace L2
open PySem PySem.Spec PyProof.Rows

theorem ObjOk.ob {P : Program} {w : World} {H : Hp} {h : Heap} {a : Addr} {o : HO} (x : ObjOk P w H h a o) : ∃ u, h.get? a = some u := by
  cases o with
  | lst xs => obtain ⟨_, _, _, _, e⟩ := x; exact ⟨_, e⟩
  | tup xs => obtain ⟨_, _, _, ob, e, _⟩ := x; exact ⟨_, e⟩
  | dK kvs => obtain ⟨_, _, _, _, ob, _, _, e, _⟩ := x; exact ⟨_, e⟩
  | dT kvs => obtain ⟨_, _, _, _, ob, _, _, e, _⟩ := x; exact ⟨_, e⟩
  | set S n => obtain ⟨ob, _, _, _, e, _⟩ := x; exact ⟨_, e⟩
  | ins C dx fs => obtain ⟨_, _, _, e, _⟩ := x; exact ⟨_, e⟩
  | own y => exact x
  | xd fs => obtain ⟨_, ⟨ob, _, _, e, _⟩, _⟩ := x; exact ⟨_, e⟩
  | rng lo hi => obtain ⟨_, _, _, e⟩ := x; exact ⟨_, e⟩
  | frz ob u => obtain ⟨e, _⟩ := x; exact ⟨_, e⟩
  | tbl ps => exact ⟨_, (show h.get? a = some _ from x)⟩
  | met f y => exact ⟨_, (show h.get? a = some _ from x)⟩
  | ext φ => obtain ⟨_, e, _⟩ := x; exact e


structure XUn (fs : List Addr) (H H' : Hp) (h B h' : Heap) : Prop where
  kp : ∀ b o, h.get? b = some o → H b = none → b ∉ fs → B.get? b = some o
  sl : ∀ b o, h.get? b = some o → H b = none → b ∈ fs → ∃ z, h'.get? b = some { o with slots := z }
  fr : ∀ b o, h.get? b = some o → H b = none → H' b = none
  th : ∀ b o, h.get? b = some o → b ∉ fs → ∃ z, B.get? b = some z
  tu : ∀ b xs, H b = some (.tup xs) → H' b = some (.tup xs)
  fz : ∀ b o u, H b = some (.frz o u) → H' b = some (.frz o u)
  tb : ∀ b ps, H b = some (.tbl ps) → ∃ more, H' b = some (.tbl (ps ++ more))
section
variable {fs : List Addr} {H H' : Hp} {h B h' h2 : Heap}
theorem XUn.un (x : XUn fs H H' h B h') (hB : B.StaysIn h2) (hf : ∀ b ∈ fs, H b = none) (hs : ∀ b o, h'.get? b = some o → b ∈ fs → ∃ z, h2.get? b = some { o with slots := z }) : Un fs [] H H' h h2 where
  keep := fun b o e n hb _ => hB b o (x.kp b o e n hb)
  slot := fun b o e n hb _ => by
    obtain ⟨z, e1⟩ := x.sl b o e n hb
    obtain ⟨z', e2⟩ := hs b _ e1 hb
    exact ⟨z', e2⟩
  free := fun b o e n _ => x.fr b o e n
  there := fun b o e _ => by
    by_cases hb : b ∈ fs
    · obtain ⟨z, e1⟩ := x.sl b o e (hf b hb) hb
      obtain ⟨z', e2⟩ := hs b _ e1 hb
      exact ⟨_, e2⟩
    · obtain ⟨z, e1⟩ := x.th b o e hb
      exact ⟨z, hB b z e1⟩
  tups := x.tu
  frzs := x.fz
  tbls := x.tb
theorem frames_up {l : List Env} (ff : h'.FunFrames B l) (up : h'.UpToSlots h2) : ∀ b o, h'.get? b = some o → b ∈ frs l → ∃ z, h2.get? b = some { o with slots := z } := fun b o e hb => by
  obtain ⟨_, o', e', hd⟩ := ff.mem hb
  rw [e] at e'
  cases e'
  exact up b o e hd
theorem XUn.next {l : List Env} (x : XUn (frs l) H H' h B h') (ff : h'.FunFrames B l) (up : h'.UpToSlots h2) : XUn (frs l) H H' h B h2 :=
  ⟨x.kp, fun b o e n hb => by
    obtain ⟨z, e1⟩ := x.sl b o e n hb
    obtain ⟨z', e2⟩ := frames_up ff up b _ e1 hb
    exact ⟨z', e2⟩, x.fr, x.th, x.tu, x.fz, x.tb⟩
end


def CX1 (P : Program) (w : World) : CXT := fun outer H s E u s' => ∃ (e : Addr) (cls a0 : Value) (B : Heap) (H' : Hp), u = .ref e ∧ s'.os = s.os ∧ AllBare s'.gens ∧ XUn (frs outer) H H' s.heap B s'.heap ∧ HOk P w H' B ∧ Heap.FlyingW B outer e cls a0 s'.heap ∧ E cls none H'

def FlyAt (X : Cx) (pins : List (Addr × Obj)) (e : Addr) (cls a0 : Value) (σ : St) (H' : Hp) (s' : Shared) : Prop :=
  ∃ (B : Heap) (H : Hp) (s : Shared), Inv X pins σ H s ∧ s'.os = s.os ∧ AllBare s'.gens ∧ XUn (frs X.stack) H H' s.heap B s'.heap ∧ HOk X.prog X.w H' B ∧ Heap.FlyingW B X.stack e cls a0 s'.heap

abbrev XJ := Value → St → Hp → Prop
def Fly (X : Cx) (J : XJ) (u : Value) (s' : Shared) : Prop := ∃ (e : Addr) (cls a0 : Value) (σ : St) (H' : Hp), u = .ref e ∧ FlyAt X [] e cls a0 σ H' s' ∧ J cls σ H'
def Flies (X : Cx) (J : XJ) : Prop := ∀ u s', Fly X J u s' → X.xe u s'
def Makes (X : Cx) (J : XJ) : Prop := ∀ (pins : List (Addr × Obj)) (σ : St) (H : Hp) (s : Shared) (e : Addr) (cls : Value) (vs : List Value) (h' : Heap), Inv X pins σ H s → Heap.MadeExcOf s.heap h' e cls vs → J cls σ H → X.xe (.ref e) { s with heap := h' }


def excO (e : Addr) (cls : Value) : HO := .ext fun h => ∃ o vs, h.get? e = some o ∧ o.cls = cls ∧ o.data = .fields vs

section
variable {X : Cx} {pins : List (Addr × Obj)} {σ : St} {H H' : Hp} {s s' : Shared} {e : Addr} {cls a0 : Value}
theorem Inv.nopin (I : Inv X pins σ H s) : Inv X [] σ H s := I.pins_of (fun p hp => nomatch hp)
theorem FlyAt.step {B : Heap} {h2 : Heap} {S : Shared} (I : Inv X pins σ H S) (q1 : s'.os = S.os) (q2 : AllBare s'.gens) (q3 : XUn (frs X.stack) H H' S.heap B s'.heap) (q4 : HOk X.prog X.w H' B) (q5 : Heap.FlyingW B X.stack e cls a0 s'.heap)
    (f : Heap.FlyingW B X.stack e cls a0 h2) (up : s'.heap.UpToSlots h2) : FlyAt X pins e cls a0 σ H' { s' with heap := h2 } :=
  ⟨B, H, S, I, q1, q2, q3.next q5.2.2.1 up, q4, f⟩

theorem FlyAt.apart {B : Heap} {S : Shared} (q3 : XUn (frs X.stack) H H' S.heap B s'.heap) (q5 : Heap.FlyingW B X.stack e cls a0 s'.heap) : S.heap.get? e = none := by
  cases z : S.heap.get? e with
  | none => rfl
  | some o =>
    by_cases hb : e ∈ frs X.stack
    · obtain ⟨_, o', e1, hd⟩ := q5.2.2.1.mem hb
      obtain ⟨oe, vs, e2, _, d2, _⟩ := q5.first
      rw [e1] at e2
      cases e2
      exact absurd d2 (hd vs)
    · obtain ⟨o', e1⟩ := q3.th e o z hb
      have e2 := q5.2.1
      rw [e1] at e2
      cases e2
theorem HOk.none_of {P : Program} {w : World} {B : Heap} (q : HOk P w H' B) (z : B.get? e = none) : H' e = none := by
  cases y : H' e with
  | none => rfl
  | some o =>
    obtain ⟨u, e1⟩ := (q e o y).ob
    rw [e1] at z
    cases z
theorem FlyAt.inv (F : FlyAt X pins e cls a0 σ H' s') : Inv X pins σ H' s' ∧ H' e = none := by
  obtain ⟨B, H, S, I, q1, q2, q3, q4, q5⟩ := F
  exact ⟨I.call' (ch := []) q1 (q3.un q5.1 I.stkFree fun b o e1 _ => ⟨o.slots, e1⟩) (q4.kept q5.1) q2 (fun b z => absurd z (by simp)), q4.none_of q5.2.1⟩

theorem FlyAt.held (F : FlyAt X pins e cls a0 σ H' s') : Inv X pins σ (upd H' e (excO e cls)) s' ∧ H' e = none := by
  obtain ⟨B, H, S, I, q1, q2, q3, q4, q5⟩ := F
  have hn := q4.none_of q5.2.1
  have ha := FlyAt.apart q3 q5
  have ne : ∀ b u, H' b = some u → b ≠ e := fun b u y => ne_of_none y hn
  have q6 : XUn (frs X.stack) H (upd H' e (excO e cls)) S.heap B s'.heap :=
    ⟨q3.kp, q3.sl, fun b o e1 n => by
      have : b ≠ e := fun z => by rw [z, ha] at e1; cases e1
      rw [upd_ne this]
      exact q3.fr b o e1 n, q3.th, fun b xs y => by
      have y' := q3.tu b xs y
      rw [upd_ne (ne b _ y')]
      exact y', fun b o u y => by
      have y' := q3.fz b o u y
      rw [upd_ne (ne b _ y')]
      exact y', fun b ps y => by
      obtain ⟨more, y'⟩ := q3.tb b ps y
      exact ⟨more, by rw [upd_ne (ne b _ y')]; exact y'⟩⟩
  refine ⟨I.call' (ch := []) q1 (q6.un q5.1 I.stkFree fun b o e1 _ => ⟨o.slots, e1⟩) (fun b u y => ?_) q2 (fun b z => absurd z (by simp)), hn⟩
  have hk := q4.kept q5.1
  by_cases hb : b = e
  · subst hb
    rw [upd_same] at y
    cases y
    obtain ⟨oe, vs, e2, c2, d2, _⟩ := q5.first
    exact ⟨⟨oe, vs, e2, c2, d2⟩, ⟨oe, e2⟩, fun h1 h2 ⟨o, ws, a1, a2, a3⟩ k => ⟨o, ws, k o a1, a2, a3⟩⟩
  · rw [upd_ne hb] at y
    exact (hk b u y).stay (fun _ _ _ q => q) (fun c q => by rw [upd_ne (ne c _ q)]; exact q) fun c xs q => by rw [upd_ne (ne c _ q)]; exact q
end


section
variable {P : Program} {w : World} {K : PySem.W.Frag} {mg : Str → Option Value} {base : Heap} {N : List Str} {qual : Str} {scope : Scope} {f : Addr} {cd : Value} {A : Around} {outer : List Env} {s : Shared} {H : Hp} {E : XK}
theorem frs_def : frs (envOfC qual scope s.heap.objs.size f cd :: outer) = s.heap.objs.size :: frs outer := rfl
theorem makes_def : Makes (cxOf (CX1 P w) P w K mg base N qual scope f cd A outer s H E) (fun cls _ H' => E cls none H') := by
  intro pins σ H1 s1 e cls vs h' I hx hj
  have fin : ∀ env ∈ (envOfC qual scope s.heap.objs.size f cd :: outer), ∀ b, env.frame = some b → b ∈ frs (envOfC qual scope s.heap.objs.size f cd :: outer) := fun env he b hb => List.mem_filterMap.mpr ⟨env, he, hb⟩
  have old : ∀ b o, s.heap.get? b = some o → b ∉ frs outer → b ∉ frs (envOfC qual scope s.heap.objs.size f cd :: outer) := fun b o e1 hb z => by
    rw [frs_def] at z
    rcases List.mem_cons.mp z with y | y
    · exact absurd (Heap.lt_size e1) (by rw [y]; exact Nat.lt_irrefl _)
    · exact hb y
  have nx : ∀ b : Addr, b ∉ ([] : List Addr) := fun b => by simp
  have fr1 : ∀ b ∈ frs (envOfC qual scope s.heap.objs.size f cd :: outer), H1 b = none := I.stkFree
  show wpAny (model P w) (A.deeper (envOfC qual scope s.heap.objs.size f cd)) (leaving (envOfC qual scope s.heap.objs.size f cd) (.ref e)) _ _ { s1 with heap := h' }
  refine wpAny_leaves_madeW (L := s.heap.objs.size) (base := PySem.W.hideAll s1.heap (frs (envOfC qual scope s.heap.objs.size f cd :: outer))) (h := s1.heap) I.ok.frames rfl (fun b o q => PySem.W.of_hideAll _ q) (PySem.W.funFrames_hide I.stack fin) hx fun h2 t x1 x2 x3 x4 => ?_
  refine ⟨e, cls, .ref t, _, H1, rfl, I.os, I.bare, ⟨fun b o e1 n hb => ?_, fun b o e1 n hb => ?_, fun b o e1 n => I.base.free b o e1 n (nx b), fun b o e1 hb => ?_, I.base.tups, I.base.frzs, I.base.tbls⟩, ?_, x1, hj⟩
  · exact PySem.W.hideAll_get _ (I.base.keep b o e1 n hb (nx b)) (old b o e1 hb)
  · obtain ⟨z, e2⟩ := I.base.slot b o e1 n hb (nx b)
    obtain ⟨_, o', e3, hd⟩ := I.ok.funs.mem hb
    have e3' : s.heap.get? b = some o' := e3
    rw [e1] at e3'
    cases e3'
    obtain ⟨z2, e4⟩ := x4 b _ (hx.keeps b _ e2) hd
    exact ⟨z2, e4⟩
  · obtain ⟨o', e2⟩ := I.base.there b o e1 (nx b)
    exact ⟨o', PySem.W.hideAll_get _ e2 (old b o e1 hb)⟩
  · intro a u y
    refine (I.hok a u y).stay (fun b v hb q => PySem.W.hideAll_get _ q fun hm => ?_) (fun _ q => q) fun _ _ q => q
    have z := fr1 b hm
    rcases hb with rfl | hb
    · rw [y] at z; cases z
    · rw [hb] at z; cases z

theorem Fun.okX {x : Str} {st : Stmt} {fd : FuncData} {ps : List Str} {k : Nat} {sp : Sp} (F : Fun K x qual st f fd) (S : FnScope N ps (defScope st)) (len : ∀ vs H Q E, sp vs H Q E → vs.length = ps.length)
    (hbody : ∀ (cdv : Value) (A : Around) (outer : List Env) (s : Shared) (H : Hp) (vs : List V) (Q : VK) (E : XK), Room k (A.deeper (envOfC qual (defScope st) s.heap.objs.size f cdv)) → sp vs H Q E →
      ∃ t, PSs (cxOf (CX1 P w) P w K mg base N qual (defScope st) f cdv A outer s H E) (defBody st) t ∧ t { nx := fun _ H' => Q .non H', rt := Q } (start N vs) H) : FnOk P w K mg base (CX1 P w) (k + 1) f fd ps sp := by
  obtain ⟨oc, od, kV, doc, pm, an, cdv, ct, osl, rfl, lk, hcd⟩ := F.ex
  exact fn_of lk hcd S len fun A outer s H vs Q E hr hsp => hbody cdv A outer s H vs Q E hr hsp
end
structure HasX (P : Program) (w : World) (K : PySem.W.Frag) (mg : Str → Option Value) (base : Heap) (x : Str) (ps : List Str) (k : Nat) (sp : Sp) : Prop where
  ex : ∃ (f : Addr) (fd : FuncData), mg x = some (.ref f) ∧ PySem.W.keepIn K (.ref f) = true ∧ Binds K fd ps [] ∧ FnOk P w K mg base (CX1 P w) k f fd ps sp

theorem HasX.down {P : Program} {w : World} {K : PySem.W.Frag} {mg : Str → Option Value} {base : Heap} {x : Str} {ps : List Str} {k : Nat} {sp sp' : Sp} (h : HasX P w K mg base x ps k sp) (hi : ∀ vs H Q E, sp' vs H Q E → sp vs H Q (fun _ _ _ => False)) : Has P w K mg base x ps k sp' := by
  obtain ⟨f, fd, h1, h2, h3, h4⟩ := h.ex
  refine ⟨f, fd, h1, h2, h3, ⟨fun vs H Q E z => h4.len vs H Q _ (hi vs H Q E z), fun A outer s H args us vs Q E hr he hb hv hs => codeAny_mono (h4.run A outer s H args us vs Q _ hr he hb hv (hi vs H Q E hs)) fun r s' q => ?_⟩⟩
  cases r with
  | error u =>
    obtain ⟨_, _, _, _, _, _, _, _, _, _, _, z⟩ := q
    exact z.elim
  | ok fl => cases fl <;> exact q


def tCallX (sp : Sp) (J : XJ) (t : TA) : TE := fun σ H Q => t σ H fun vs H1 => sp vs H1 Q (fun cls _ H2 => J cls σ H2)
section
variable {X : Cx} {J : XJ} {x : Str} {ps : List Str} {j k : Nat} {sp : Sp} {p pos : Pos} {e : Expr} {es : List Expr} {t : TA}
theorem run_fnX {pins : List (Addr × Obj)} {σ : St} {H : Hp} {s : Shared} {Q : VK} {us : List Value} {vs : List V} {f : Addr} {fd : FuncData} (F : FnOk X.prog X.w X.K X.mg X.base (CX1 X.prog X.w) k f fd ps sp) (hr : Room k X.A) (hb : Binds X.K fd ps []) (hx : Flies X J)
    (I : Inv X pins σ H s) (r : Vals vs us) (h : sp vs H Q (fun cls _ H2 => J cls σ H2)) : wpAny (model X.prog X.w) X.A (call (.ref f) us) (EP X pins σ Q) X.xe s := by
  have hl : us.length = ps.length := by rw [← r.length]; exact F.len _ _ _ _ h
  have hb1 := hb s us I.kIn (by rw [List.append_nil]; exact hl)
  rw [List.append_nil] at hb1
  refine wpAny_call (codeAny_mono (F.run X.A X.stack s H ⟨us, []⟩ us vs Q _ hr I.env0 hb1 r h) fun q s' hq => ?_)
  cases q with
  | error u =>
    obtain ⟨e, cls, a0, B, H', rfl, q1, q2, q3, q4, q5, q6⟩ := hq
    exact hx _ _ ⟨e, cls, a0, σ, H', rfl, ⟨B, H, s, I.nopin, q1, q2, q3, q4, q5⟩, q6⟩
  | ok fl =>
    cases fl with
    | ret u => exact I.after hq
    | next => exact False.elim hq
    | brk => exact False.elim hq
    | cont => exact False.elim hq
theorem pe_callX (hx : Flies X J) (h : HasX X.prog X.w X.K X.mg X.base x ps j sp) (hr : Room k X.A) (hg : Gl X x) (ha : PA X (e :: es) t) (hk : j ≤ k := by decide) (hdb : (x == ("__debug__" : Str)) = false := by decide)
    (he : starEach (e :: es) X.env = (false, eval e X.env) :: starEach es X.env := by rfl) (hpl : (backTo pos (starEach es X.env)).any (·.1) = false := by rfl) : PE X (.Call (.Name x p) (e :: es) [] pos) (tCallX sp J t) := by
  intro pins s σ H Q I hw
  obtain ⟨f, fd, h1, h2, h3, h4⟩ := h.ex
  refine wpAny_Call_Name_kw (ld_glob I hg h1 ?_ hdb)
  refine PySem.W.callWith_K (h₀ := X.base) I.ok.mod.kin h2 (thn (ha pos pins s σ H _ I hw) fun us s1 ⟨vs, H1, I1, r, q⟩ => ⟨I1.kIn, ?_⟩) he hpl
  exact run_fnX h4 (hr.mono hk) h3 hx I1 r q
end


abbrev bmV : List Value := [.type "ValueError", .type "Exception", .type "BaseException", .type "object"]
theorem own_obj {K : PySem.W.Frag} {h : Heap} {C : Addr} {bmB : List Value} {nid : String} (X : K.In h) (z : PySem.W.excIn K C bmB nid = true) :
    ∃ bm N nm q bs hdct sn sub ab col dd k0 k1 k2 k3 k5 mN, h.get? C = some (excClassObj nm q C N bs bm hdct sn sub ab col dd k0 k1 k2 k3 k5 nid) ∧ h.Ns N mN ∧ mN "__init__" = none ∧ OwnTail h bmB bm := by
  unfold PySem.W.excIn at z
  split at z
  case h_2 => cases z
  case h_1 dd cd sl ho =>
    split at z
    case h_2 => cases z
    case h_1 C' bm k0 k1 k2 k3 n k5 hm hs =>
      rw [Bool.and_eq_true, Bool.and_eq_true, Bool.and_eq_true, Bool.and_eq_true, Bool.and_eq_true, beq_iff_eq, beq_iff_eq, Bool.not_eq_true', beq_iff_eq] at z
      obtain ⟨⟨⟨⟨⟨z1, z2⟩, z3⟩, z4⟩, z5⟩, z6⟩ := z
      obtain ⟨nm, bs, mro, ns, qn, hd, sn, sub, ab, col, del⟩ := cd
      have hm' : mro = .ref C' :: bm := hm
      have z3' : del = false := z3
      subst hm' z3' z1 z2
      have hsl : sl = #[k0, k1, k2, k3, some (.builtin n), k5] := by
        cases sl with
        | mk l =>
          have : l = [k0, k1, k2, k3, some (.builtin n), k5] := hs
          rw [this]
      subst hsl
      exact ⟨bm, ns, nm, qn, bs, hd, sn, sub, ab, col, dd, k0, k1, k2, k3, k5, _, X _ _ ho, .of_isNs (PySem.W.isNs_of_in X z5), PySem.W.nsMap_none_of_in X z5 z6, PySem.W.tail_of_in X z4⟩
def tRaise (J : XJ) (C : Addr) (t : TA) : TS := fun _ σ H => t σ H fun vs H1 => vs.length ≤ sizeLine ∧ J (.ref C) σ H1
theorem ps_raise {X : Cx} {J : XJ} {C : Addr} {x : Str} {np cpos pos : Pos} {e : Expr} {es : List Expr} {t : TA} (hx : Makes X J) (hc : X.calm = true) (hg : Gl X x) (hm : X.mg x = some (.ref C)) (z : PySem.W.excIn X.K C bmV "ValueError.__new__" = true) (ha : PA X (e :: es) t)
    (hdb : (x == ("__debug__" : Str)) = false := by decide) (he : starEach (e :: es) X.env = (false, eval e X.env) :: starEach es X.env := by rfl) (hpl : (backTo cpos (starEach es X.env)).any (·.1) = false := by rfl) :
    PS X (.Raise (some (.Call (.Name x np) (e :: es) [] cpos)) none pos) (tRaise J C t) := by
  intro pins s σ H D I h
  obtain ⟨bm, N, nm, q, bs, hdct, sn, sub, ab, col, dd, k0, k1, k2, k3, k5, mN, hC, hN, hni, T⟩ := own_obj I.mod.kin z
  have hp2 : (backTo cpos (starEach (e :: es) X.env)).any (·.1) = false := by
    rw [he]
    show (false || (backTo cpos (starEach es X.env)).any (·.1)) = false
    rw [hpl]
    rfl
  refine wpAny_Raise_call_subT PySem.F.excBase_ValueError (C := C) (nm := nm) (q := q) (N := N) (bs := bs) (bm := bm) (hdct := hdct) (sn := sn) (sub := sub) (ab := ab) (col := col) (dd := dd) (k0 := k0) (k1 := k1) (k2 := k2) (k3 := k3) (k5 := k5) (mN := mN)
    (T.hasType PySem.F.excBase_ValueError.hasBase) (I.ok.hd hc) hp2 hni (ld_glob I hg hm ⟨rfl, ?_⟩ hdb)
  have a1 := thn (ha cpos pins s σ H _ I h) (Q' := fun us s2 => (⟨us, []⟩ : Args).kw = [] ∧ us.length ≤ sizeLine ∧ s2.heap.get? C = some (excClassObj nm q C N bs bm hdct sn sub ab col dd k0 k1 k2 k3 k5 "ValueError.__new__") ∧ s2.heap.Ns N mN ∧ OwnTail s2.heap bmV bm ∧
      ∀ h' e, Heap.MadeExcOf s2.heap h' e (.ref C) us → X.xe (.ref e) { s2 with heap := h' }) fun us s2 ⟨vs, H1, I1, r, hl, hj⟩ =>
    ⟨rfl, by rw [← r.length]; exact hl, I1.bk _ _ hC, hN.keeps I1.bk, T.keeps I1.bk, fun h' e2 hmk => hx pins σ H1 s2 e2 _ _ h' I1 hmk hj⟩
  rw [he] at a1 ⊢
  exact Calls.evalArgs_plain a1


theorem PS.nox {X : Cx} {st : Stmt} {t : TS} (h : PS X.nox st t) : PS X st t := fun pins s σ H D I hw =>
  wpAny_mono (h pins s σ H D (I.wish _) hw) (fun _ _ q => q.unwish) fun _ _ z => False.elim z
end L2

set_option Elab.async false
set_option linter.all false
set_option maxRecDepth 100000
set_option maxHeartbeats 4000000

namespace L2
open PySem PySem.Spec PyProof.Rows PySem.W

section
variable {X : Cx} {pins pn : List (Addr × Obj)} {σ : St} {H : Hp} {s : Shared} {J : XJ}
abbrev Cx.pinned (X : Cx) (pn : List (Addr × Obj)) : Cx := { X with pn := X.pn ++ pn }
theorem Cx.Ok.pinned (ok : X.Ok) (pn : List (Addr × Obj)) : (X.pinned pn).Ok :=
  ⟨ok.mod, ok.kind, ok.glob, ok.blt, ok.above, ok.inj, ok.has, ok.cab, ok.hd, ok.frames, ok.stk, ok.exf, ok.bs, ok.bsz, ok.noex, ok.exfs, ok.funs, ok.frf⟩
theorem Cx.Ok.unpinned' (ok : (X.pinned pn).Ok) : X.Ok :=
  ⟨ok.mod, ok.kind, ok.glob, ok.blt, ok.above, ok.inj, ok.has, ok.cab, ok.hd, ok.frames, ok.stk, ok.exf, ok.bs, ok.bsz, ok.noex, ok.exfs, ok.funs, ok.frf⟩
theorem Inv.toPn (I : Inv X pins σ H s) : Inv (X.pinned pins) [] σ H s := ⟨I.ok.pinned _, I.os, I.bare, I.base, I.loc, I.cell, I.free, I.freeC, fun p hp => I.pin p (by simpa using hp), I.hok, I.len⟩
theorem Inv.ofPn (I : Inv (X.pinned pins) [] σ H s) : Inv X pins σ H s := ⟨I.ok.unpinned', I.os, I.bare, I.base, I.loc, I.cell, I.free, I.freeC, fun p hp => I.pin p (by simpa using hp), I.hok, I.len⟩

abbrev Cx.tried (X : Cx) (pn : List (Addr × Obj)) (J : XJ) : Cx := (X.pinned pn).wish (Fly (X.pinned pn) J)
theorem flies_tried : Flies (X.tried pn J) J := fun u s' ⟨e, cls, a0, σ, H', h1, ⟨B, H, S, I, q⟩, h3⟩ => ⟨e, cls, a0, σ, H', h1, ⟨B, H, S, I.unwish, q⟩, h3⟩

abbrev Cx.suite (X : Cx) (e : Addr) : Cx := { X with A := X.A.mark (some (.ref e)), calm := false, xe := fun _ _ => False }
theorem Cx.Ok.suite (ok : X.Ok) (e : Addr) : (X.suite e).Ok :=
  ⟨ok.mod, ok.kind, ok.glob, ok.blt, ok.above, ok.inj, ok.has, ok.cab, fun z => Bool.noConfusion z, ok.frames, ok.stk, ok.exf, ok.bs, ok.bsz, ok.noex, ok.exfs, ok.funs, ok.frf⟩
theorem Inv.suite (I : Inv X pins σ H s) (e : Addr) : Inv (X.suite e) pins σ H s := ⟨I.ok.suite e, I.os, I.bare, I.base, I.loc, I.cell, I.free, I.freeC, I.pin, I.hok, I.len⟩
theorem Inv.unsuite {e : Addr} (ok : X.Ok) (I : Inv (X.suite e) pins σ H s) : Inv X pins σ H s := ⟨ok, I.os, I.bare, I.base, I.loc, I.cell, I.free, I.freeC, I.pin, I.hok, I.len⟩


theorem unname_ok {M : Model} {A : Around} {E : Value → Shared → Prop} {i : Nat} {n : Str} {pos : Pos} {Q : Unit → Shared → Prop} (I : Inv X pins σ H s) (hN : X.N.Nodup) (hi : X.N[i]? = some n) (hk : X.env.kindOf n = some .local)
    (h : ∀ s', Inv X pins (σ.set i none) H s' → Q () s') : wpAny M A (do bindName X.env n .none; unbindBehindTheSuite X.env n pos) Q E s := by
  obtain ⟨m, hn, hl⟩ := id I.loc
  have hcls : (X.env.scope.kind == .class || (X.env.scope.kind == .module && X.env.locals != X.env.globals)) = false := by rw [I.ok.kind]; rfl
  refine wpAny_nameGoes_keeps hk hn hcls fun h' v hn' hs => h _ ?_
  have lt : ∀ b o, X.s₀.heap.get? b = some o → b ≠ X.env.locals := fun b o e => Nat.ne_of_lt (Nat.lt_of_lt_of_le (Heap.lt_size e) I.ok.above)
  refine ⟨I.ok, I.os, I.bare, ⟨fun b o e z hb hx => (hs.2 b (lt b o e)).trans (I.base.keep b o e z hb hx), fun b o e z hb hx => ?_, I.base.free, fun b o e hx => ?_, I.base.tups, I.base.frzs, I.base.tbls⟩, ⟨_, hn', fun j y v' e1 e2 e3 => ?_⟩, fun y c e => ?_, I.free, I.freeC, fun p hp => ?_, fun b o e => ?_, by simpa using I.len⟩
  · obtain ⟨sl, e1⟩ := I.base.slot b o e z hb hx
    exact ⟨sl, (hs.2 b (lt b o e)).trans e1⟩
  · obtain ⟨o', e1⟩ := I.base.there b o e hx
    exact ⟨o', (hs.2 b (lt b o e)).trans e1⟩
  · have hj : i ≠ j := by
      rintro rfl
      rw [List.getElem?_set] at e2
      simp at e2
    rw [List.getElem?_set_ne hj] at e2
    obtain ⟨u, r, q⟩ := hl j y v' e1 e2 e3
    refine ⟨u, r, ?_⟩
    rcases q with ⟨k, z⟩ | ⟨k, c, z, w'⟩
    · have : y ≠ n := fun z' => hj (nodup_ix hN hi (z' ▸ e1))
      exact .inl ⟨k, by simp [this, z]⟩
    · exact .inr ⟨k, c, z, w'.sameBut hs (I.cne y c z)⟩
  · obtain ⟨w', z⟩ := I.cell y c e
    exact ⟨w', z.sameBut hs (I.cne y c e)⟩
  · obtain ⟨e, z, ne, nf, d⟩ := I.pin p hp
    exact ⟨(hs.2 p.1 ne).trans e, z, ne, nf, d⟩
  · refine (I.hok b o e).stay (fun c w' hc q => (hs.2 c ?_).trans q) (fun _ q => q) fun _ _ q => q
    rintro rfl
    have hf := I.free
    rcases hc with rfl | hc
    · rw [hf] at e; cases e
    · rw [hf] at hc; cases hc
end


def PH (X : Cx) (hs : List ExceptHandler) (th : Ends → XJ) : Prop := ∀ (pins : List (Addr × Obj)) (s : Shared) (σ : St) (H : Hp) (D : Ends) (e : Addr) (cls a0 : Value), FlyAt X pins e cls a0 σ H s → th D cls σ H →
  wpAny (model X.prog X.w) X.A (handleBy (.ref e) X.env hs) (SP X pins D) X.xe s
def hNo : Ends → XJ := fun _ _ _ _ => False
theorem ph_none {X : Cx} : PH X [] hNo := fun _ _ _ _ _ _ _ _ _ h => h.elim

def behind (i : Nat) (D : Ends) : Ends := { nx := fun σ H => D.nx (σ.set i none) H, rt := D.rt, bk := fun σ H => D.bk (σ.set i none) H, ct := fun σ H => D.ct (σ.set i none) H }
def hAs (K : Frag) (C : Addr) (i : Nat) (ts : TS) (th : Ends → XJ) : Ends → XJ := fun D cls σ H => ∃ (C' : Addr) (b : Bool), cls = .ref C' ∧ subIn K (.ref C') (.ref C) = some b ∧
  if b = true then ∀ e, H e = none → ts (behind i D) (σ.set i (some (.ref e))) (upd H e (excO e cls)) else th D cls σ H

theorem exc_match {M : Model} {A : Around} {E : Value → Shared → Prop} {nm q : Str} {C C' N : Addr} {bs bm : List Value} {hdct : Bool} {sn : List Str} {sub : List Value} {ab : Bool} {col : Option Bool} {dd : Option Addr} {k0 k1 k2 k3 k5 : Option Value} {nid : String}
    {h : Heap} {g : Array GenState} {d : Drawn} {t : Nat} {os : OsState} {e : Addr} {oe : Obj} {b : Bool} {Q : Bool → Shared → Prop} (hC : h.get? C = some (excClassObj nm q C N bs bm hdct sn sub ab col dd k0 k1 k2 k3 k5 nid))
    (he : h.get? e = some oe) (hcls : oe.cls = .ref C') (hbase : bm.contains (.type "BaseException") = true) (LS : Looks M h (isSubtype (.ref C') (.ref C)) b) (hq : Q b ⟨h, g, d, t, os⟩) : wpAny M A (excMatches (.ref e) (.ref C)) Q E ⟨h, g, d, t, os⟩ := by
  have hb2 : (Value.ref C :: bm).contains (.type "BaseException") = true := by rw [List.contains_cons, hbase, Bool.or_true]
  have tnt := tc_notTuple
  unfold excMatches
  repeat (first | (with_reducible refine wpAny_loadPart_at he ?_; rw [hcls]) | with_reducible refine wpAny_loadPart_at hC ?_ | (with_reducible refine wpAny_isSubtype_exc hC ?_; rw [hb2]) | with_reducible refine LS.at ?_ | wp_step)
  cases b <;> (wp_walk; exact hq)

section
variable {X : Cx} {th : Ends → XJ}
theorem ph_as {x n : Str} {i : Nat} {C : Addr} {np hpos : Pos} {b0 : Stmt} {bs : List Stmt} {ts : TS} {rest : List ExceptHandler} (hN : X.N.Nodup) (hi : X.N[i]? = some n) (hk : X.env.kindOf n = some .local) (hg : Gl X x) (hm : X.mg x = some (.ref C)) (hC : ktsIn X.K C "BaseException" = true)
    (hs : ∀ e, PSs (X.suite e) (b0 :: bs) ts) (hr : PH X rest th) (hdb : (x == ("__debug__" : Str)) = false := by decide) : PH X (.ExceptHandler (some (.Name x np)) (some n) (b0 :: bs) hpos :: rest) (hAs X.K C i ts th) := by
  intro pins s σ H D e cls a0 F h
  obtain ⟨C', b, rfl, hb, h⟩ := h
  have I := F.inv.1
  obtain ⟨nm, qn, N, bs', bm, hdct, sn, sub, ab, col, dd, k0, k1, k2, k3, k5, nid, hCo, hbase, _⟩ := kts_cls I.kIn hC
  have F' := F
  obtain ⟨B, H0, S, I0, q1, q2, q3, q4, q5⟩ := F'
  obtain ⟨oe, he, hcls⟩ := q5.there
  refine wpAny_handleBy_cons (codeAny_handlers_test (ld_glob (X := X.suite e) (I.suite e) hg hm ?_ hdb)) (by intro q; cases q)
  have LS : Looks (model X.prog X.w) s.heap (isSubtype (.ref C') (.ref C)) b := looks_subIn I.kIn hb
  obtain ⟨sh, sg, sd, st, so⟩ := s
  refine exc_match hCo he hcls hbase LS ?_
  cases b with
  | false =>
    rw [if_neg Bool.false_ne_true] at h
    exact hr pins _ σ H D e _ a0 F h
  | true =>
    rw [if_pos rfl] at h
    refine codeAny_handlers_suite_as ?_
    refine lands_againW q5 fun h6 f6 up6 => ?_
    have F6 := FlyAt.step I0 q1 q2 q3 q4 q5 f6 up6
    obtain ⟨I6, hn⟩ := F6.held
    refine store_ok (v := .ref e) I6 hN hi (.inl hk) rfl (fun s7 I7 => ?_) (.inr hk)
    refine wpAny_mono (hs e pins s7 _ _ (behind i D) (I7.suite e) (h e hn)) (fun f s8 q => ?_) fun _ _ z => z.elim
    have go : ∀ {σ' : St} {H' : Hp} {f : Flow}, Inv (X.suite e) pins σ' H' s8 → (∀ s9, Inv X pins (σ'.set i none) H' s9 → SP X pins D f s9) → wpAny (model X.prog X.w) X.A (do bindName X.env n .none; unbindBehindTheSuite X.env n hpos) (fun _ s9 => SP X pins D f s9) X.xe s8 :=
      fun {σ' H' f} I8 k => unname_ok (I8.unsuite I.ok) hN hi hk k
    cases f with
    | next => obtain ⟨σ', H', I8, q⟩ := q; exact go I8 fun s9 I9 => ⟨_, H', I9, q⟩
    | brk => obtain ⟨σ', H', I8, q⟩ := q; exact go I8 fun s9 I9 => ⟨_, H', I9, q⟩
    | cont => obtain ⟨σ', H', I8, q⟩ := q; exact go I8 fun s9 I9 => ⟨_, H', I9, q⟩
    | ret u => obtain ⟨v, σ', H', I8, r, q⟩ := q; exact go I8 fun s9 I9 => ⟨v, _, H', I9, r, q⟩

def tTry (tb : XJ → TS) (th : Ends → XJ) : TS := fun D σ H => tb (th D) D σ H
theorem ps_try {tb : XJ → TS} {body : List Stmt} {h0 : ExceptHandler} {hs : List ExceptHandler} {pos : Pos} (hb : ∀ pn J, PSs (X.tried pn J) body (tb J)) (hh : PH X (h0 :: hs) th) (hstk : X.stack = X.env :: X.outer := by rfl) (hfr : X.env.frame = some X.env.locals := by rfl) :
    PS X (.Try body (h0 :: hs) [] [] pos) (tTry tb th) := by
  intro pins s σ H D I h
  refine wpAny_Try_except (wpAny_mono (hb pins (th D) [] s σ H D (I.toPn.wish _) h) (fun f s1 q => ?_) fun u s1 q => ?_)
  · cases f with
    | next => obtain ⟨σ', H', I', q⟩ := q; exact wpAny_execs_nil ⟨σ', H', I'.unwish.ofPn, q⟩
    | brk => obtain ⟨σ', H', I', q⟩ := q; exact ⟨σ', H', I'.unwish.ofPn, q⟩
    | cont => obtain ⟨σ', H', I', q⟩ := q; exact ⟨σ', H', I'.unwish.ofPn, q⟩
    | ret u => obtain ⟨v, σ', H', I', r, q⟩ := q; exact ⟨v, σ', H', I'.unwish.ofPn, r, q⟩
  · obtain ⟨e, cls, a0, σ', H', rfl, ⟨B, H1, S, I1, q1, q2, q3, q4, q5⟩, hj⟩ := q
    have q5' : Heap.FlyingW B (X.env :: X.outer) e cls a0 s1.heap := hstk ▸ q5
    refine wpAny_looks_onW (L := X.env.locals) (I.ok.frames.trans (congrArg some hstk)) hfr q5' fun h4 held4 up4 => ?_
    refine wpAny_landsW held4 fun h5 fl5 up5 => ?_
    exact hh pins _ σ' H' D e cls a0 (FlyAt.step (s' := s1) I1.ofPn q1 q2 q3 q4 q5 (hstk ▸ fl5) (up4.trans up5)) hj
end


structure ExcC (K : Frag) (C : Addr) : Prop where
  cls : ktsIn K C "BaseException" = true
  ga : findIn K (.ref C) "__getattribute__" = some (some (.builtin "BaseException.__getattribute__"))
  gt : findIn K (.ref C) "__getattr__" = some none
  cl : findIn K (.ref C) "__class__" = some (some (.builtin "object.__class__"))
  ob : subIn K (.ref C) (.type "object") = some true
  be : subIn K (.ref C) (.type "BaseException") = some true
section
variable {prog : Program} {w : World} {A : Around} {E : Value → Shared → Prop} {h : Heap} {g : Array GenState} {d : Drawn} {t : Nat} {os : OsState} {a C : Addr} {o : Obj} {K : Frag}
theorem xcls_get {R : Result → Shared → Prop} (X : K.In h) (Z : ExcC K C) (hx : h.get? a = some o) (hc : o.cls = .ref C) (hq : R (.ok (.ret (.ref C))) ⟨h, g, d, t, os⟩) :
    codeAny (model prog w) A (.call (.builtin "getset_descriptor.__get__") ⟨[.builtin "object.__class__", .ref a, .ref C], []⟩) R ⟨h, g, d, t, os⟩ := by
  have ht : (⟨h, g, d, t, os⟩ : Shared).TypeIs (.builtin "object.__class__") "getset_descriptor" := F.typeOf_object_class
  have LS : Looks (model prog w) h (isSubtype (.ref C) (.type (".".intercalate ("object.__class__".cutAt '.').dropLast))) true := by rw [F.owner_object_class]; exact looks_subIn X Z.ob
  refine codeAny_call_builtin F.slot_gs_get.plain F.entry_gs_get (F.slot_gs_get.check _ _ _ _ _ _ _ _ ht (F.args_gs_get _ _ _) ?_)
  repeat (any_goals (first | assumption | (with_reducible refine wpAny_loadPart_at hx ?_; rw [hc]) | with_reducible refine LS.at ?_ | wp_step))
  refine ⟨Code.quiet_builtin _ (by decide +kernel), codeAny_builtin F.entry_object_class ?_⟩
  repeat (any_goals (first | assumption | (with_reducible refine wpAny_loadPart_at hx ?_; rw [hc]) | wp_step))
theorem xcls_entry {tk : Tok} {Q : Fin → Shared → Prop} (X : K.In h) (Z : ExcC K C) (hx : h.get? a = some o) (hc : o.cls = .ref C) (hq : Q (.done (.ret (.ref C))) ⟨h, g, d, t, os⟩) :
    wpAny (model prog w) A (Builtin.«object.__getattribute__» ⟨[.ref a, .str "__class__" tk], []⟩) Q E ⟨h, g, d, t, os⟩ := by
  have ht : (⟨h, g, d, t, os⟩ : Shared).TypeIs (.builtin "object.__class__") "getset_descriptor" := F.typeOf_object_class
  have L1 : Looks (model prog w) h (typeLookup (.ref C) "__class__") (some (.builtin "object.__class__")) := looks_findIn X Z.cl
  have f5 := F.typeOf_object_class
  have f6 := F.slot_gs_get.lookup
  have f7 := F.slot_gs_set.lookup
  repeat (any_goals (first | assumption | (with_reducible refine wpAny_loadPart_at hx ?_; rw [hc]) | with_reducible refine L1.at ?_ | wp_step))
  refine xcls_get X Z hx hc ?_
  repeat (any_goals (first | assumption | wp_step))
theorem xcls_check {M : Model} {nameV : Value} {Q : Unit → Shared → Prop} (X : K.In h) (Z : ExcC K C) (hx : h.get? a = some o) (hc : o.cls = .ref C) (hq : Q () ⟨h, g, d, t, os⟩) :
    wpAny M A (checkBuiltinCall "BaseException.__getattribute__" ⟨[.ref a, nameV], []⟩) Q E ⟨h, g, d, t, os⟩ := by
  have hk : builtinKind "BaseException.__getattribute__" = some .slot := by decide +kernel
  have hsp : splitId "BaseException.__getattribute__" = some ("BaseException", "__getattribute__") := by decide +kernel
  have LS : Looks M h (isSubtype (.ref C) (.type "BaseException")) true := looks_subIn X Z.be
  have ha := F.args_bexc_ga (.ref a) nameV
  simp only [checkBuiltinCall, hk, hsp]
  refine wpAny_bind ?_
  unfold isInstance
  repeat (first | (with_reducible refine wpAny_loadPart_at hx ?_; rw [hc]) | with_reducible refine LS.at ?_ | wp_step)
  exact hq
theorem xcls_call {tk : Tok} {R : Result → Shared → Prop} (X : K.In h) (Z : ExcC K C) (hx : h.get? a = some o) (hc : o.cls = .ref C) (hq : R (.ok (.ret (.ref C))) ⟨h, g, d, t, os⟩) :
    codeAny (model prog w) A (.call (.builtin "BaseException.__getattribute__") ⟨[.ref a, .str "__class__" tk], []⟩) R ⟨h, g, d, t, os⟩ :=
  codeAny_call_builtin F.attr_ValueError.ga.plain F.entry_bexc_ga (xcls_check X Z hx hc (xcls_entry X Z hx hc hq))
theorem xcls_by {tk : Tok} {fill expr : Bool} {Q : Value → Shared → Prop} (X : K.In h) (Z : ExcC K C) (hx : h.get? a = some o) (hc : o.cls = .ref C) (hq : Q (.ref C) ⟨h, g, d, t, os⟩) :
    wpAny (model prog w) A (getAttrBy (.ref a) (.str "__class__" tk) fill expr) Q E ⟨h, g, d, t, os⟩ := by
  have f3 := F.attr_ValueError.ga.bind (.ref a)
  have hx0 : (expr && onTheHeap (Value.builtin "BaseException.__getattribute__")) = false := by cases expr <;> rfl
  have hx2 : (Value.builtin "BaseException.__getattribute__" == Value.builtin "object.__getattribute__") = false := by decide +kernel
  have hx1 : (onTheHeap (Value.ref C) && Value.builtin "BaseException.__getattribute__" == Value.builtin "object.__getattribute__") = false := by rw [hx2]; rfl
  have L1 : Looks (model prog w) h (typeLookup (.ref C) "__getattribute__") (some (.builtin "BaseException.__getattribute__")) := looks_findIn X Z.ga
  have L2' : Looks (model prog w) h (typeLookup (.ref C) "__getattr__") none := looks_findIn X Z.gt
  repeat (any_goals (first | assumption | (with_reducible refine wpAny_loadPart_at hx ?_; rw [hc]) | with_reducible refine L1.at ?_ | with_reducible refine L2'.at ?_ | wp_step))
  refine xcls_call X Z hx hc ?_
  repeat (any_goals (first | assumption | wp_step))
theorem xcls_attr {Q : Option Value → Shared → Prop} (X : K.In h) (Z : ExcC K C) (hx : h.get? a = some o) (hc : o.cls = .ref C) (hq : Q (some (.ref C)) ⟨h, g, d, t + 1, os⟩) : wpAny (model prog w) A (getAttr? (.ref a) "__class__") Q E ⟨h, g, d, t, os⟩ := by
  unfold getAttr? getAttrBy?
  repeat (any_goals (first | assumption | with_reducible apply xcls_by X Z hx hc | wp_step))
theorem kitx_exc (Z : ExcC K C) : KitX K (.ref a) (.ref C) (fun h => ∃ o, h.get? a = some o ∧ o.cls = .ref C) where
  ty := fun M h X ⟨o, e, c⟩ => by
    have := (Looks.ld (M := M) (part := none) e).andThen (f := fun ob => pure ob.cls) .now
    rw [c] at this
    exact this
  it := fun M h X _ => by
    obtain ⟨nm, qn, N, bs', bm, hdct, sn, sub, ab, col, dd, k0, k1, k2, k3, k5, nid, hCo, _, _⟩ := kts_cls X Z.cls
    intro A' Q' E' s' k q
    unfold isType loadHead
    exact wpAny_bind (wpAny_loadPart (k _ _ hCo) (wpAny_pure q))
  ne := fun h tp dd its n sl X htp => by
    obtain ⟨nm, qn, N, bs', bm, hdct, sn, sub, ab, col, dd, k0, k1, k2, k3, k5, nid, hCo, _, _⟩ := kts_cls X Z.cls
    refine Bool.eq_false_iff.mpr fun q => ?_
    have e : C = tp := Value.ref.inj (beq_iff_eq.mp q)
    subst e
    have z := congrArg Obj.cls (Option.some.inj (hCo.symm.trans htp))
    have z2 : ("type" : String) = "tuple" := by injection z
    exact absurd z2 (by decide)
  ca := fun {prog w A E Q s} X ⟨o, e, c⟩ k => by
    obtain ⟨sh, sg, sd, st, so⟩ := s
    exact xcls_attr X Z e c k
end
section
variable {X : Cx} {K : Frag}

theorem kcall_isiX (hK : X.K = K := by rfl) : CallR X (.builtin "isinstance") (fun xs H Q => ∃ (e C : Addr) (y : V) (c : Value) (b : Bool), xs = [.ref e, y] ∧ RelV y c ∧ (∀ u, RelV y u → u = c) ∧ H e = some (excO e (.ref C)) ∧ ExcC K C ∧ kitOne K (.ref C) c = some b ∧ Q (.bl b) H) := by
  subst hK
  intro pins s σ H xs us Q I r h
  obtain ⟨e, C, y, c, b, rfl, _, hy, hH, Z, kk, q⟩ := h
  obtain ⟨u, v, rfl, rx, rt⟩ := vals2 r
  cases rx
  cases hy v rt
  have ho := I.hok e _ hH
  obtain ⟨⟨o, vs, e1, c1, _⟩, _⟩ := ho
  exact kia_one (kitx_exc Z) I.kIn ⟨o, e1, c1⟩ kk (fun z => nomatch z) fun tk => ⟨.bl b, H, I.tok tk, rfl, q⟩
theorem ref_only {D : Addr} : ∀ u, RelV (.ref D) u → u = .ref D := fun u h => h
theorem ty_only {n : String} : ∀ u, RelV (.ty n) u → u = .type n := fun u h => h
end
end L2

set_option Elab.async false
set_option linter.all false
set_option maxRecDepth 100000
set_option maxHeartbeats 4000000

namespace L2
open PySem PySem.Spec PyProof.Rows

def Ite (K : PySem.W.Frag) (a : Addr) : It :=
  ⟨fun i H => ∃ xs x, SqL K H a xs ∧ xs[i]? = some x, fun i H x H' => ∃ p v, H p = none ∧ x = .ref p ∧ H' = upd H p (.tup [.int i, v]) ∧ ∀ xs, SqL K H a xs → xs[i]? = some v, fun i H => ∃ xs, SqL K H a xs ∧ xs.length ≤ i⟩
theorem turn_enum {P : Program} {w : World} {K : PySem.W.Frag} {es : List Expr} {x1 : Nat} {tpos : Pos} (a e it : Addr) (hne : e ≠ it) : Turn P w K (.Tuple es x1 tpos) (Ite K a) [e, it] e (fun i h => (∃ old, IsEnum h e it (i : Int) old) ∧ h.IsListIter it a i) where
  mem := by simp
  obj := fun i h st b hb => by
    obtain ⟨⟨old, h1⟩, o, h2, c, d⟩ := st
    rcases List.mem_cons.mp hb with rfl | hb
    · exact ⟨_, h1, fun v z => by cases (show Data.fields _ = Data.cell v from z)⟩
    · have z : b = it := by simpa using hb
      subst z
      exact ⟨o, h2, fun v z => by rw [d] at z; cases z⟩
  keep := fun i h h' st k => by
    obtain ⟨⟨old, h1⟩, h2⟩ := st
    exact ⟨⟨old, k e (by simp) _ h1⟩, h2.at fun o z => k it (by simp) o z⟩
  item := by
    intro X hP hw hK hc i pins s σ H E I hf st hg
    subst hP hw hK
    obtain ⟨⟨old, h1⟩, h2⟩ := st
    obtain ⟨xs, x, hq, hx⟩ := hg
    obtain ⟨its, rv, p, hz⟩ := I.list hq
    obtain ⟨u, hu, ru⟩ := rv.get hx
    have fe := hf e (by simp)
    have fi := hf it (by simp)
    have lte : e < s.heap.objs.size := Heap.lt_size h1
    have hfresh : H s.heap.objs.size = none := I.hok.fresh (Nat.le_refl _)
    refine wpAny_pyNext_enum_item h1 h2 p.isList (x := u) (by simpa using hu) hne fun h' hout hit' htup hsz hk => ?_
    refine ⟨_, rfl, wpAny_letOwnedTupleGo_enum hout fun h3 hen hsb => ?_⟩
    replace hsb : Heap.SameBut e h' h3 := hsb
    have kk : ∀ b o, b ≠ e → b ≠ it → s.heap.get? b = some o → h3.get? b = some o := fun b o n1 n2 z => (hsb.2 b n1).trans (hk b o n1 n2 z)
    have ht3 : h3.get? s.heap.objs.size = some { cls := .type "tuple", data := .seq #[.int i s.toks, u] } := (hsb.2 _ (Nat.ne_of_gt lte)).trans htup
    have hi3 : h3.IsListIter it a (i + 1) := hit'.at fun o z => (hsb.2 it hne.symm).trans z
    have nch : ∀ b, b ∉ [e, it] → b ≠ e ∧ b ≠ it := fun b hb => by simpa using hb
    have ntr : ∀ b v, H b = some v → b ≠ e ∧ b ≠ it := fun b v z => ⟨ne_of_none z fe.1, ne_of_none z fi.1⟩
    have nsz : ∀ b v, H b = some v → b ≠ s.heap.objs.size := fun b v z => ne_of_none z hfresh
    refine ⟨.ref s.heap.objs.size, upd H s.heap.objs.size (.tup [.int i, x]), ?_, rfl, ⟨s.heap.objs.size, x, hfresh, rfl, rfl, fun ys hy => by rw [I.list_inj hy hq]; exact hx⟩, ⟨⟨_, hen⟩, hi3⟩, fun b hb => ?_⟩
    · refine Inv.step (s := s) (h' := h3) (t' := s.toks + 1) (H' := upd H s.heap.objs.size (.tup [.int i, x])) I (g' := s.gens) (d' := s.drawn) (ch := [e, it]) (fun b hb => ?_) (fun b o _ _ hb z _ => kk b o (nch b hb).1 (nch b hb).2 z) (fun b o _ _ hb z _ => ⟨o.slots, kk b o (nch b hb).1 (nch b hb).2 z⟩) (fun b o hb z n => ?_) (fun b o hb z => ⟨o, kk b o (nch b hb).1 (nch b hb).2 z⟩)
        (fun b ys z => by rw [upd_ne (nsz b _ z)]; exact z) (fun b o v z => by rw [upd_ne (nsz b _ z)]; exact z) (fun b ps z => ⟨#[], by rw [upd_ne (nsz b _ z), z]; simp⟩) (fun m hm => ?_) (fun b v z => ?_) I.bare
      · rcases List.mem_cons.mp hb with rfl | hb
        · exact ⟨fe.2.2.2.1, fe.2.1, fe.2.2.2.2.1, fe.2.2.2.2.2⟩
        · have z : b = it := by simpa using hb
          subst z
          exact ⟨fi.2.2.2.1, fi.2.1, fi.2.2.2.2.1, fi.2.2.2.2.2⟩
      · rw [upd_ne (Nat.ne_of_lt (Heap.lt_size z))]
        exact n
      · obtain ⟨o, es', ep, ho, r⟩ := hm
        exact ⟨o, es', ep, kk _ o fe.2.1.symm fi.2.1.symm ho, r⟩
      · by_cases hb : b = s.heap.objs.size
        · subst hb
          rw [upd_same] at z
          cases z
          exact ⟨(by show (2 : Nat) ≤ sizeLine; decide), [.int i s.toks, u], .cons ⟨_, rfl⟩ (.cons ru .nil), ⟨_, ht3, rfl, rfl, _, rfl⟩⟩
        · rw [upd_ne hb] at z
          refine (I.hok b v z).stay (fun c y hc' q => ?_) (fun c q => by rw [upd_ne (nsz c _ q)]; exact q) fun c ys q => by rw [upd_ne (nsz c _ q)]; exact q
          rcases hc' with rfl | hc'
          · exact kk _ _ (ntr _ _ z).1 (ntr _ _ z).2 q
          · exact kk _ _ (ntr _ _ hc').1 (ntr _ _ hc').2 q
    · have lb : b < s.heap.objs.size := by
        rcases List.mem_cons.mp hb with rfl | hb
        · exact lte
        · have z : b = it := by simpa using hb
          subst z
          obtain ⟨o, z, _⟩ := h2
          exact Heap.lt_size z
      rw [upd_ne (Nat.ne_of_lt lb)]
      exact (hf b hb).1
  done := by
    intro X hP hw hK hc i pins s σ H E I hf st hg
    subst hP hw hK
    obtain ⟨⟨old, h1⟩, h2⟩ := st
    obtain ⟨xs, hq, hx⟩ := hg
    obtain ⟨its, rv, p, hz⟩ := I.list hq
    obtain ⟨f0, f1, f2, f3, f4, f5⟩ := hf it (by simp)
    have hl := rv.length
    exact wpAny_pyNext_enum_end (I.ok.hd hc) h1 h2 p.isList (by simp; omega) fun h' eb => ⟨rfl, I.turned (t' := s.toks) (fun b o hb z => eb b o hb z) f0 f1 f3 f4 f5⟩
  self := fun _ _ _ _ _ st h => by
    obtain ⟨⟨old, h1⟩, h2⟩ := st
    exact wpAny_pyIter_enum h1 h

def iEnum (K : PySem.W.Frag) (ta : TA) : TI := fun σ H R => ta σ H fun vs H1 => ∃ a, vs = [.ref a] ∧ (∃ xs, SqL K H1 a xs) ∧ R (Ite K a) H1
theorem boot_enumerateT : bootBuiltins "enumerate" = some (.type "enumerate") := by decide +kernel
theorem pi_enum {X : Cx} {K : PySem.W.Frag} {es : List Expr} {x1 : Nat} {tpos : Pos} {a : Expr} {ta : TA} {p pos : Pos} (hg : Gl X "enumerate") (hm : X.mg "enumerate" = none) (ha : PA X [a] ta) (hK : X.K = K := by rfl) (hs : starEach [a] X.env = [(false, eval a X.env)] := by rfl) : PI X (.Tuple es x1 tpos) (.Call (.Name "enumerate" p) [a] [] pos) (iEnum K ta) := by
  subst hK
  intro pins s σ H R I h
  refine Call_ (ld_blt I hg hm boot_enumerateT (PyProof.Rows.callWith_type1 (thn (ha pos pins s σ H _ I h) fun us s1 ⟨vs, H1, I1, r1, q1⟩ => ?_) hs rfl))
  obtain ⟨l, e, ⟨xs, hq⟩, q⟩ := q1
  subst e
  cases r1 with
  | cons r rr =>
    cases rr
    cases r
    obtain ⟨its, rv, pl, hz⟩ := I1.list hq
    refine call_enumerate_list pl.isList fun h' hen hit hsz hk => ?_
    refine wpAny_pyIter_enum hen ⟨s1.heap.objs.size + 1, [s1.heap.objs.size + 1, s1.heap.objs.size], _, _, H1, rfl, I1.kept (t' := s1.toks) hk, turn_enum l _ _ (Nat.succ_ne_self _), ⟨⟨_, hen⟩, hit⟩, fun b hb => ?_, q⟩
    have lb : s1.heap.objs.size ≤ b := by
      rcases List.mem_cons.mp hb with rfl | hb
      · exact Nat.le_succ _
      · have z : b = s1.heap.objs.size := by simpa using hb
        rw [z]
        exact Nat.le_refl _
    exact I1.fpOk lb (I1.hok.fresh lb)
section
variable {g : TG} {tc : TT} {te : TE} {D : Addr} {Q : Hp → Prop} {τ : St} {H : Hp}
theorem comp_enum {K : PySem.W.Frag} {a : Addr} {xs : List V} (Pv : Nat → List V → St → Hp → Prop) (h0 : Pv 0 [] τ H) (hl : ∀ i ys τ H, i ≤ xs.length → Pv i ys τ H → SqL K H a xs)
    (hs : ∀ i x ys τ H p, xs[i]? = some x → Pv i ys τ H → H p = none → g (.ref p) τ (upd H p (.tup [.int i, x])) fun τ2 H2 => tc τ2 H2 fun b H3 => if b = true then te τ2 H3 fun y H4 => H4 D = some (.lst ys) ∧ ys.length < sizeLine ∧ Pv (i + 1) (ys ++ [y]) τ2 (upd H4 D (.lst (ys ++ [y]))) else Pv (i + 1) ys τ2 H3)
    (hd : ∀ ys τ H, Pv xs.length ys τ H → Q H) : RunC (Ite K a) g tc te D Q τ H := by
  refine ⟨fun i m ys τ H => m = xs.length - i ∧ i ≤ xs.length ∧ Pv i ys τ H, ⟨xs.length, by simp, Nat.zero_le _, h0⟩, ?_⟩
  rintro i m ys τ H ⟨rfl, hi, pp⟩
  have q := hl i ys τ H hi pp
  by_cases hlt : i < xs.length
  · refine .inr ⟨⟨xs, xs[i], q, by simp [hlt]⟩, Pv (i + 1), fun ys' τ' H' p' => ⟨xs.length - (i + 1), by omega, rfl, hlt, p'⟩, fun x H' y => ?_⟩
    obtain ⟨p, v, hp, rfl, rfl, y⟩ := y
    exact hs i v ys τ _ p (y xs q) pp hp
  · have e : i = xs.length := by omega
    subst e
    exact .inl ⟨⟨xs, q, Nat.le_refl _⟩, hd ys τ H pp⟩
theorem for_enum {K : PySem.W.Frag} {a : Addr} {xs : List V} {g : TG} {tb : TS} {D : Ends} {σ : St} {H : Hp} (Pv : Nat → St → Hp → Prop) (h0 : Pv 0 σ H) (hl : ∀ i σ H, i ≤ xs.length → Pv i σ H → SqL K H a xs)
    (hs : ∀ i x σ H p, xs[i]? = some x → Pv i σ H → H p = none → g (.ref p) σ (upd H p (.tup [.int i, x])) fun σ2 H2 => tb { D with nx := Pv (i + 1), ct := Pv (i + 1), bk := D.nx } σ2 H2) (hd : ∀ σ H, Pv xs.length σ H → D.nx σ H) :
    ∃ W : Nat → Nat → St → Hp → Prop, (∃ m, W 0 m σ H) ∧ ∀ i m σ H, W i m σ H →
      ((Ite K a).stop i H ∧ D.nx σ H) ∨ ((Ite K a).go i H ∧ ∃ N : St → Hp → Prop, (∀ σ' H', N σ' H' → ∃ m', m' < m ∧ W (i + 1) m' σ' H') ∧ ∀ x H', (Ite K a).yld i H x H' → g x σ H' fun σ2 H2 => tb { D with nx := N, ct := N, bk := D.nx } σ2 H2) := by
  refine ⟨fun i m σ H => m = xs.length - i ∧ i ≤ xs.length ∧ Pv i σ H, ⟨xs.length, by simp, Nat.zero_le _, h0⟩, ?_⟩
  rintro i m σ H ⟨rfl, hi, pp⟩
  have q := hl i σ H hi pp
  by_cases hlt : i < xs.length
  · refine .inr ⟨⟨xs, xs[i], q, by simp [hlt]⟩, Pv (i + 1), fun σ' H' p' => ⟨xs.length - (i + 1), by omega, rfl, hlt, p'⟩, fun x H' y => ?_⟩
    obtain ⟨p, v, hp, rfl, rfl, y⟩ := y
    exact hs i v σ _ p (y xs q) pp hp
  · have e : i = xs.length := by omega
    subst e
    exact .inl ⟨⟨xs, q, Nat.le_refl _⟩, hd σ H pp⟩
end
end L2

set_option Elab.async false
set_option linter.all false
set_option maxRecDepth 100000
set_option maxHeartbeats 4000000

namespace L2
open PySem PySem.Spec PyProof.Rows

def Itz (K : PySem.W.Frag) (a b : Addr) : It :=
  ⟨fun i H => ∃ xs ys x y, SqL K H a xs ∧ SqL K H b ys ∧ xs[i]? = some x ∧ ys[i]? = some y,
   fun i H v H' => ∃ p x y, H p = none ∧ v = .ref p ∧ H' = upd H p (.tup [x, y]) ∧ (∀ xs, SqL K H a xs → xs[i]? = some x) ∧ ∀ ys, SqL K H b ys → ys[i]? = some y,
   fun i H => ∃ xs ys, SqL K H a xs ∧ SqL K H b ys ∧ (xs.length ≤ i ∨ ys.length ≤ i)⟩
def iZip (K : PySem.W.Frag) (ta : TA) : TI := fun σ H R => ta σ H fun vs H1 => ∃ a b, vs = [.ref a, .ref b] ∧ (∃ xs, SqL K H1 a xs) ∧ (∃ ys, SqL K H1 b ys) ∧ R (Itz K a b) H1
section
variable {g : TG} {tc : TT} {te : TE} {D : Addr} {Q : Hp → Prop} {τ : St} {H : Hp}
end


theorem op_mulX {X : Cx} : OpR X (binaryOp .Mult) (rI IntMulOk fun i j => .int (i * j)) := opI fun _ _ _ _ _ _ _ hc q => mul_int q hc
theorem mulokL {i j : Int} (h1 : -(2 ^ 64) < i) (h2 : i < 2 ^ 64) : IntMulOk i j := CMul.ok (.inl ⟨h1, h2⟩)
theorem mulokR {i j : Int} (h1 : -(2 ^ 64) < j) (h2 : j < 2 ^ 64) : IntMulOk i j := CMul.ok (.inr ⟨h1, h2⟩)
end L2


namespace L2
open PySem PySem.W PySem.Calls PyProof.Rows
def cellBits : Nat := 1048576
end L2

set_option Elab.async false
set_option linter.all false
set_option maxRecDepth 100000
set_option maxHeartbeats 4000000
namespace L2
open PySem PySem.Spec PyProof.Rows PySem.SeqAt
section
variable {X : Cx}
theorem count_eqF {pins : List (Addr × Obj)} {σ : St} {H : Hp} {s : Shared} (I : Inv X pins σ H s) {d : D} : ∀ {vs : List V} {us : List Value} {ds : List D}, Reps X.K H vs ds → Vals vs us → us.countP (eqF X H d) = ds.countP fun e => eqD e d
  | vs, us, [], r, rv => by
    cases (show vs = [] from r)
    cases rv
    rfl
  | vs, us, e :: ds, r, rv => by
    obtain ⟨v, q, rfl, h1, h2⟩ := r
    cases rv with
    | cons r1 r2 => rw [List.countP_cons, List.countP_cons, eqF_of I r1 h1, count_eqF I h2 r2]

def rCount (K : PySem.W.Frag) (n : Nat) : V → List V → Hp → VK → Prop := fun x vs H Q => ∃ ds y d, vs = [y] ∧ Rep K H x (.tup ds) ∧ Rep K H y d ∧ deps ds + 1 ≤ n ∧ Q (.int ((ds.countP fun e => eqD e d : Nat) : Int)) H
theorem mt_count {n : Nat} (hu : X.A.units + n < cLine) : MtR X "tuple.count" (rCount X.K n) := by
  intro pins s σ H x vs v us Q I rx rv h
  obtain ⟨ds, y, d, rfl, ⟨a, ws, rfl, hq, r⟩, hy, hn, q⟩ := h
  cases rx
  obtain ⟨u, rfl, ru⟩ := rv.one
  obtain ⟨its, rw', p, hz⟩ := I.tuple hq
  obtain ⟨o, ho, hc, k, hd⟩ := id p
  obtain ⟨cls, dd, data, sl⟩ := o
  simp only at hc hd
  subst hc hd
  refine call_meets PySem.F.slot_tuple_count ⟨_, ho, rfl⟩ PySem.F.entry_tuple_count (PySem.F.args_tuple_count_2 _ _)
    (tuple_countAt a its.toArray k dd sl u (eqF X H d)) ⟨ho, eqF_at I (A := X.A.in1) (by show X.A.units + 1 + deps ds < cLine; omega) hy ru r rw', ?_⟩
  refine ⟨.int _, H, I.tok _, ⟨_, rfl⟩, ?_⟩
  rw [List.toList_toArray, count_eqF I r rw']
  exact q

theorem Inv.tupleN {pins : List (Addr × Obj)} {σ : St} {H : Hp} {s : Shared} {a : Addr} {xs : List V} (I : Inv X pins σ H s) (h : SqT X.K H a xs) : ∃ o, s.heap.get? a = some o ∧ o.cls = .type "tuple" ∧ o.dict = none := by
  rcases h with h | ⟨o, its, n, hk, hc, hdn, hs, hz, r⟩
  · obtain ⟨z, its, r, o, e, c, d, _⟩ := (show ObjOk _ _ _ _ _ (.tup xs) from h.ok I.hok)
    exact ⟨o, e, c, d⟩
  · exact ⟨o, I.kIn a o hk, hc, hdn⟩
def tBMT (K : PySem.W.Frag) (r : V → List V → Hp → VK → Prop) (to : TE) (t : TA) : TE := fun σ H Q => to σ H fun x H1 => (∃ p xs, x = .ref p ∧ SqT K H1 p xs) ∧ t σ H1 fun xs H2 => r x xs H2 Q
section
variable {o e : Expr} {es : List Expr} {to : TE} {t : TA} {name : Str} {apos cpos : Pos} {id : String} {r : V → List V → Hp → VK → Prop}
theorem pe_bmT (pa : PlainAttrs "tuple") (slot : Slot "tuple" name id) (hty : typeOf (.builtin id) = pure (.type "method_descriptor")) (hm : MtR X id r) (ho : PE X o to) (ha : PA X (e :: es) t)
    (hbase : attributeBase o name X.env (eval o X.env) = eval o X.env := by rfl)
    (hfew : ((backTo cpos (starEach (e :: es) X.env)).all (fun x => !x.1) && (backToKw cpos (keywordEach [] X.env)).all (fun x => x.1.isSome)
      && decide ((e :: es).length + ([] : List Keyword).length + (if ([] : List Keyword).isEmpty then 0 else 1) < 30)) = true := by rfl)
    (hline : (apos.endLine == cpos.line) = true := by rfl) (hs : starEach (e :: es) X.env = (false, eval e X.env) :: starEach es X.env := by rfl) (hplain : (backTo cpos (starEach es X.env)).any (·.1) = false := by rfl) :
    PE X (.Call (.Attribute o name apos) (e :: es) [] cpos) (tBMT X.K r to t) := by
  intro pins s σ H Q I h
  refine wpAny_Call_method_late hbase hfew hline rfl (thn (ho pins s σ H _ I h) fun v s1 ⟨x, H1, I1, r1, ⟨p, xs, ex, hq⟩, q1⟩ => ?_)
  subst ex
  cases r1
  obtain ⟨ob, he, hc, hd⟩ := Inv.tupleN I1 hq
  refine ⟨"tuple", id, pa, slot, hty, ⟨ob, he, hc⟩, fun a' ea => ?_, ?_⟩
  · cases ea
    exact ⟨ob, he, hd⟩
  have hA := ha cpos pins s1 σ H1 _ I1 q1
  rw [hs] at hA ⊢
  refine Calls.callWith_builtin (by show (false || (backTo cpos (starEach es X.env)).any (·.1)) = false; rw [hplain] <;> rfl) (Calls.evalArgs_plain ?_)
  exact thn hA fun us s2 ⟨vs, H2, I2, r2, q2⟩ => hm pins s2 σ H2 (.ref p) vs (.ref p) us Q I2 rfl r2 q2
theorem kpe_bmT {K : PySem.W.Frag} (pa : PlainAttrs "tuple") (slot : Slot "tuple" name id) (hty : typeOf (.builtin id) = pure (.type "method_descriptor")) (hm : MtR X id r) (ho : PE X o to) (ha : PA X (e :: es) t) (hK : X.K = K := by rfl)
    (hbase : attributeBase o name X.env (eval o X.env) = eval o X.env := by rfl)
    (hfew : ((backTo cpos (starEach (e :: es) X.env)).all (fun x => !x.1) && (backToKw cpos (keywordEach [] X.env)).all (fun x => x.1.isSome)
      && decide ((e :: es).length + ([] : List Keyword).length + (if ([] : List Keyword).isEmpty then 0 else 1) < 30)) = true := by rfl)
    (hline : (apos.endLine == cpos.line) = true := by rfl) (hs : starEach (e :: es) X.env = (false, eval e X.env) :: starEach es X.env := by rfl) (hplain : (backTo cpos (starEach es X.env)).any (·.1) = false := by rfl) :
    PE X (.Call (.Attribute o name apos) (e :: es) [] cpos) (tBMT K r to t) := by subst hK; exact pe_bmT pa slot hty hm ho ha hbase hfew hline hs hplain
end
theorem kmt_count {K : PySem.W.Frag} {n : Nat} (hu : X.A.units + n < cLine) (hK : X.K = K := by rfl) : MtR X "tuple.count" (rCount K n) := by subst hK; exact mt_count hu
end
end L2

set_option Elab.async false
set_option linter.all false
set_option maxRecDepth 100000
set_option maxHeartbeats 4000000

namespace L2
open PySem PySem.Spec PyProof.Rows
def intOf : Expr → Option Int
  | .Constant (.int i) _ _ => some i
  | _ => none
def intsOf : List Expr → Option (List Int)
  | [] => some []
  | e :: es => match intOf e, intsOf es with
    | some i, some is => some (i :: is)
    | _, _ => none
def tInts (ns : List Int) : TA := fun _ H Q => Q (ns.map V.int) H
theorem pa_ints {X : Cx} : ∀ {es : List Expr} {ns : List Int}, intsOf es = some ns → PA X es (tInts ns)
  | [], ns, h => by
    cases h
    exact pa_nil
  | e :: es, ns, h => by
    unfold intsOf at h
    cases e1 : intOf e with
    | none => rw [e1] at h; cases h
    | some i =>
      cases e2 : intsOf es with
      | none => rw [e1, e2] at h; cases h
      | some is =>
        rw [e1, e2] at h
        cases h
        unfold intOf at e1
        split at e1
        case h_2 => cases e1
        case h_1 =>
          cases e1
          exact pa_cons pe_int (pa_ints e2)
end L2
namespace L2
open PySem PySem.Spec PyProof.Rows

structure PAw (X : Cx) (es : List Expr) (t : TA) : Prop where
  h : PA X es t
theorem paw_ints {X : Cx} {es : List Expr} {ns : List Int} (h : intsOf es = some ns) : PAw X es (tInts ns) := ⟨pa_ints h⟩

end L2

set_option Elab.async false
set_option linter.all false
set_option maxRecDepth 100000
set_option maxHeartbeats 4000000

namespace Hb
open PySem L2
def CntOk (xs : List (List Int)) : Prop := ∀ x ∈ xs, x.length = 0 ∨ x.length = 2 ∨ x.length = 3 ∨ x.length = 4
theorem CntOk.nil : CntOk [] := fun x h => by cases h
theorem CntOk.snoc {xs : List (List Int)} {p : List Int} (h : CntOk xs) (hp : p.length = 0 ∨ p.length = 2 ∨ p.length = 3 ∨ p.length = 4) : CntOk (xs ++ [p]) := fun x hx => by
  rcases List.mem_append.mp hx with z | z
  · exact h x z
  · rw [List.mem_singleton] at z
    subst z
    exact hp
theorem getD_mem_of {α : Type} {l : List α} {i : Nat} {d : α} (h : i < l.length) : l.getD i d ∈ l := by
  rw [List.getD_eq_getElem?_getD, List.getElem?_eq_getElem h]
  exact List.getElem_mem h
theorem CntOk.at {xs : List (List Int)} (h : CntOk xs) {f : Int} (h0 : 0 ≤ f) (h1 : f < (xs.length : Int)) : (xs.getD f.toNat []).length = 0 ∨ (xs.getD f.toNat []).length = 2 ∨ (xs.getD f.toNat []).length = 3 ∨ (xs.getD f.toNat []).length = 4 := h _ (getD_mem_of (by omega))
theorem CntOk.le4 {xs : List (List Int)} (h : CntOk xs) (x : List Int) (hx : x ∈ xs) : x.length ≤ 4 := by have := h x hx; omega
def cntI (x : List Int) (f : Int) : Nat := x.countP fun g => decide (g = f)
theorem count_nums (x : List Int) (f : Int) : (nums x).countP (fun e => eqD e (.int f)) = cntI x f := by
  unfold nums cntI
  rw [List.countP_map]
  congr 1
def holdN (xs : List (List Int)) (f : Int) : Nat → List Int
  | 0 => []
  | i + 1 => holdN xs f i ++ List.replicate (cntI (xs.getD i []) f) (i : Int)
def hold (xs : List (List Int)) (f : Int) : List Int := holdN xs f xs.length
theorem cnt_le (x : List Int) (f : Int) : cntI x f ≤ x.length := List.countP_le_length ..
theorem holdN_len {xs : List (List Int)} (h4 : ∀ x ∈ xs, x.length ≤ 4) (f : Int) : ∀ i, (holdN xs f i).length ≤ 4 * i
  | 0 => Nat.le_refl _
  | i + 1 => by
    have h1 := holdN_len h4 f i
    have h2 := cnt_le (xs.getD i []) f
    have h3 : (xs.getD i []).length ≤ 4 := by
      by_cases h : i < xs.length
      · exact h4 _ (getD_mem_of h)
      · rw [List.getD_eq_getElem?_getD, List.getElem?_eq_none (by omega)]; exact Nat.zero_le _
    show (holdN xs f i ++ List.replicate _ _).length ≤ _
    rw [List.length_append, List.length_replicate]
    omega
theorem rep_flat (n : Nat) (v : V) : (List.replicate n [v]).flatten = List.replicate n v := by
  induction n with
  | zero => rfl
  | succ n ih => rw [List.replicate_succ, List.flatten_cons, ih, List.replicate_succ]; rfl
theorem cntI_take {x : List Int} {f : Int} {m : Nat} (h : m < x.length) : cntI (x.take (m + 1)) f = cntI (x.take m) f + (if x[m] = f then 1 else 0) := by
  unfold cntI
  rw [List.take_succ, List.getElem?_eq_getElem h, List.countP_append]
  congr 1
  show List.countP _ [x[m]] = _
  rw [List.countP_singleton]
  simp

def bentN (xs : List (List Int)) : Nat → List (List Int)
  | 0 => []
  | i + 1 => if (hold xs (i : Int)).length = 1 ∧ (hold xs ((hold xs (i : Int)).getD 0 0)).length = 0 then bentN xs i ++ [[(i : Int), (hold xs (i : Int)).getD 0 0]] else bentN xs i
def bentP (xs : List (List Int)) : List (List Int) := bentN xs xs.length
theorem bentN_len (xs : List (List Int)) : ∀ i, (bentN xs i).length ≤ i
  | 0 => Nat.le_refl _
  | i + 1 => by
    have := bentN_len xs i
    unfold bentN
    split
    · rw [List.length_append, List.length_singleton]; omega
    · omega
section
variable (K : PySem.W.Frag)
def sp_holders_of : Sp := fun vs H Q _ => ∃ (a : Addr) (xs : List (List Int)) (f : Int), vs = [.ref a, .int f] ∧ LT K H (.ref a) xs ∧ xs.length ≤ 1000 ∧ (∀ x ∈ xs, x.length ≤ 4) ∧
  ∀ (D : Addr) (H' : Hp), H D = none → Same H H' → H' D = some (.lst ((hold xs f).map V.int)) → Q (.ref D) H'
abbrev sp_L_stands : Sp := sp_holders_of K
def sp_bent : Sp := fun vs H Q _ => ∃ (a : Addr) (xs : List (List Int)), vs = [.ref a] ∧ LT K H (.ref a) xs ∧ xs.length ≤ 1000 ∧ (∀ x ∈ xs, x.length ≤ 4) ∧
  ∀ (D : Addr) (us : List V) (H' : Hp), H D = none → Same H H' → H' D = some (.lst us) → Reps K H' us ((bentP xs).map tI) → Q (.ref D) H'
def sp_L_are_pairs : Sp := fun vs H Q _ => ∃ (a b : Addr) (us vs' : List V) (ps : List (List Int)), vs = [.ref a, .ref b] ∧ H a = some (.lst us) ∧ Reps K H us (ps.map tI) ∧ H b = some (.lst vs') ∧ Reps K H vs' (ps.map tI) ∧ (∀ p ∈ ps, p.length = 2) ∧ Q (.bl true) H
def sp_L_meets : Sp := fun vs H Q _ => ∃ (a : Addr) (v : V) (xs : List (List Int)) (fs : List Int) (f : Int), vs = [.ref a, v, .int f] ∧ LT K H (.ref a) xs ∧ TI K H v fs ∧ 0 ≤ f ∧ f < (xs.length : Int) ∧ (∀ g ∈ fs, 0 ≤ g ∧ g < (xs.length : Int)) ∧ fs.length ≤ 4 ∧
  ((xs.getD f.toNat []).length = 0 ∨ (fs.length ≤ (xs.getD f.toNat []).length ∧ ∀ g ∈ fs, fs.length ≤ (xs.getD g.toNat []).length)) ∧ ∀ c, Q (.bl c) H
def sp_fitsW : Sp := fun vs H Q _ => ∃ (a : Addr) (v : V) (xs : List (List Int)) (p : List Int), vs = [.ref a, v] ∧ LT K H (.ref a) xs ∧ TI K H v p ∧ CntOk xs ∧ xs.length ≤ 1000 ∧
  ∀ (c : Bool) (H' : Hp), Same H H' → (c = true → p.length = 0 ∨ p.length = 2 ∨ p.length = 3 ∨ p.length = 4) → Q (.bl c) H'
def sp_L_pick (_K : PySem.W.Frag) : Sp := fun vs H Q _ => ∃ (c j m : Int), vs = [.int c, .int j, .int m] ∧ 0 < m ∧ ∀ (r : Int) (H' : Hp), Same H H' → 0 ≤ r → r < m → Q (.int r) H'
def sp_L_side : Sp := fun vs H Q _ => ∃ (a : Addr) (xs : List (List Int)) (c : Int), vs = [.ref a, .int c] ∧ LT K H (.ref a) xs ∧ xs.length ≤ 1000 ∧ ∀ (w : V) (p : List Int) (H' : Hp), Same H H' → TI K H' w p → Q w H'
def sp_L_next : Sp := fun vs H Q _ => ∃ (a : Addr) (xs : List (List Int)) (c : Int), vs = [.ref a, .int c] ∧ LT K H (.ref a) xs ∧ CntOk xs ∧ xs.length ≤ 1000 ∧ ∀ (w : V) (p : List Int) (H' : Hp), Same H H' → TI K H' w p → Q w H'
def sp_L_built : Sp := fun vs H Q _ => ∃ (c : Addr) (ns : List Int) (kind most : Int), vs = [.int kind, .ref c, .int most] ∧ SqL K H c (ns.map V.int) ∧ ns.length ≤ 63 ∧ 0 ≤ most ∧ most ≤ 40 ∧
  ∀ (p : Addr) (us : List V) (xs : List (List Int)) (H' : Hp), H p = none → Same H H' → H' p = some (.lst us) → Reps K H' us (xs.map tI) → CntOk xs → xs.length ≤ 63 → Q (.ref p) H'
end
end Hb
namespace Hb
open PySem L2
theorem at_int {sp : List Int} {x : Int} (h0 : 0 ≤ x) (h1 : x < (sp.length : Int)) : atI (sp.map V.int) x = some (.int (sp.getD x.toNat 0)) := by
  obtain ⟨j, rfl⟩ := Int.eq_ofNat_of_zero_le h0
  have hj : j < sp.length := by omega
  rw [Int.toNat_natCast]
  exact atI_nat (by rw [List.getElem?_map, List.getElem?_eq_getElem hj, List.getD_eq_getElem?_getD, List.getElem?_eq_getElem hj]; rfl)
end Hb

set_option Elab.async false
set_option linter.all false
set_option maxRecDepth 100000
namespace L2
open PySem PySem.Spec PyProof.Rows


section
variable {κ : Type} [DecidableEq κ]
def valV (kvs : List (κ × V)) (k : κ) : Option V := (kvs.find? fun kv => decide (kv.1 = k)).map (·.2)

def putK (kvs : List (κ × V)) (k : κ) (v : V) : List (κ × V) :=
  if (kvs.any fun kv => decide (kv.1 = k)) = true then kvs.map (fun kv => if kv.1 = k then (kv.1, v) else kv) else kvs ++ [(k, v)]
def dropK (kvs : List (κ × V)) (k : κ) : List (κ × V) := kvs.filter fun kv => decide (kv.1 ≠ k)

theorem valV_pos {p : κ × V} {r : List (κ × V)} {k : κ} (e : p.1 = k) : valV (p :: r) k = some p.2 := by simp [valV, List.find?_cons, e]
theorem valV_neg {p : κ × V} {r : List (κ × V)} {k : κ} (e : ¬ p.1 = k) : valV (p :: r) k = valV r k := by simp [valV, List.find?_cons, e]
theorem valV_any (k : κ) : ∀ kvs : List (κ × V), (kvs.any fun kv => decide (kv.1 = k)) = (valV kvs k).isSome
  | [] => rfl
  | p :: r => by
    rw [List.any_cons]
    by_cases e : p.1 = k
    · simp only [valV_pos e, decide_eq_true e, Bool.true_or, Option.isSome_some]
    · rw [valV_neg e, decide_eq_false e, Bool.false_or]; exact valV_any k r
theorem length_putK (kvs : List (κ × V)) (k : κ) (v : V) : (putK kvs k v).length ≤ kvs.length + 1 := by
  unfold putK
  split
  · rw [List.length_map]; omega
  · rw [List.length_append, List.length_cons, List.length_nil]; omega
theorem RelO.isSome_eq {o : Option V} {u : Option Value} (r : RelO o u) : o.isSome = u.isSome := by
  cases o with
  | none => cases u with
    | none => rfl
    | some _ => exact (show False from r).elim
  | some _ => cases u with
    | none => exact (show False from r).elim
    | some _ => rfl
theorem RelO.getD {o : Option V} {u : Option Value} {d : V} {d' : Value} (r : RelO o u) (rd : RelV d d') : RelV (o.getD d) (u.getD d') := by
  cases o with
  | none => cases u with
    | none => exact rd
    | some _ => exact (show False from r).elim
  | some _ => cases u with
    | none => exact (show False from r).elim
    | some _ => exact r


theorem KV.val {kvs : List (κ × V)} {vs : List (κ × Value)} (r : KV kvs vs) (k : κ) : RelO (valV kvs k) (valueAt vs k) := by
  unfold KV at r
  induction r with
  | nil => exact True.intro
  | @cons p q ps qs h t ih =>
    obtain ⟨h1, h2⟩ := h
    by_cases e : p.1 = k
    · have e' : q.1 = k := h1.symm.trans e
      have b : valueAt (q :: qs) k = some q.2 := by simp [valueAt, List.find?_cons, e']
      rw [valV_pos e, b]; exact h2
    · have e' : ¬ q.1 = k := fun z => e (h1.trans z)
      have b : valueAt (q :: qs) k = valueAt qs k := by simp [valueAt, List.find?_cons, e']
      rw [valV_neg e, b]; exact ih
theorem KV.any {kvs : List (κ × V)} {vs : List (κ × Value)} (r : KV kvs vs) (k : κ) : (kvs.any fun kv => decide (kv.1 = k)) = vs.any fun kv => decide (kv.1 = k) := by
  unfold KV at r
  induction r with
  | nil => rfl
  | cons h t ih => rw [List.any_cons, List.any_cons, ih, h.1]
theorem KV.repl {kvs : List (κ × V)} {vs : List (κ × Value)} (r : KV kvs vs) (k : κ) {y : V} {u : Value} (ry : RelV y u) :
    KV (kvs.map fun kv => if kv.1 = k then (kv.1, y) else kv) (vs.map fun kv => if kv.1 = k then (kv.1, u) else kv) := by
  unfold KV at r ⊢
  induction r with
  | nil => exact .nil
  | @cons p q ps qs h t ih =>
    rw [List.map_cons, List.map_cons]
    refine .cons ?_ ih
    obtain ⟨h1, h2⟩ := h
    by_cases e : p.1 = k
    · rw [if_pos e, if_pos (h1.symm.trans e)]; exact ⟨h1, ry⟩
    · rw [if_neg e, if_neg (fun z => e (h1.trans z))]; exact ⟨h1, h2⟩
theorem KV.put {kvs : List (κ × V)} {vs : List (κ × Value)} (r : KV kvs vs) (k : κ) {y : V} {u : Value} (ry : RelV y u) : KV (putK kvs k y) (stored vs k u) := by
  unfold putK stored
  rw [r.any k]
  by_cases e : (vs.any fun kv => decide (kv.1 = k)) = true
  · rw [if_pos e, if_pos e]; exact r.repl k ry
  · rw [if_neg e, if_neg e]; exact Paired.snoc r ⟨rfl, ry⟩
theorem KV.drop {kvs : List (κ × V)} {vs : List (κ × Value)} (r : KV kvs vs) (k : κ) : KV (dropK kvs k) (without vs k) := by
  unfold KV at r ⊢
  unfold dropK without
  induction r with
  | nil => exact .nil
  | @cons p q ps qs h t ih =>
    obtain ⟨h1, h2⟩ := h
    rw [List.filter_cons, List.filter_cons]
    by_cases e : p.1 = k
    · have a : ¬ decide (p.1 ≠ k) = true := by simp [e]
      have b : ¬ decide (q.1 ≠ k) = true := by simp [h1.symm.trans e]
      rw [if_neg a, if_neg b]; exact ih
    · have e' : ¬ q.1 = k := fun z => e (h1.trans z)
      have a : decide (p.1 ≠ k) = true := by simp [e]
      have b : decide (q.1 ≠ k) = true := by simp [e']
      rw [if_pos a, if_pos b]; exact .cons ⟨h1, h2⟩ ih
theorem KV.keys {kvs : List (κ × V)} {vs : List (κ × Value)} (r : KV kvs vs) : kvs.map (·.1) = vs.map (·.1) := by
  unfold KV at r
  induction r with
  | nil => rfl
  | cons h t ih => rw [List.map_cons, List.map_cons, ih, h.1]
theorem KV.length {kvs : List (κ × V)} {vs : List (κ × Value)} (r : KV kvs vs) : kvs.length = vs.length := Paired.length r
end



theorem kV_is {P : Program} {w : World} {k : Key} {u : Value} (r : RelV (kV k) u) : (mixKind P w).is k u = true := by
  cases k with
  | inl i => obtain ⟨t, e⟩ := (show ∃ t, u = Value.int i t from r); subst e; exact mixKind_int P w i t
  | inr x => obtain ⟨t, e⟩ := (show ∃ t, u = Value.str x t from r); subst e; exact mixKind_str P w x t
theorem items_are {P : Program} {w : World} : ∀ {ks : List Key} {us : List Value}, Vals (ks.map kV) us → ItemsAre (mixKind P w) ks us
  | [], _, r => by rw [List.map_nil] at r; cases r; exact .nil
  | k :: ks, _, r => by
    rw [List.map_cons] at r
    cases r with
    | cons h t => exact .cons (kV_is h) (items_are t)


abbrev KT (H : Hp) : List (List Key × V) → List (List Key × Addr × Value) → Prop := Paired fun p q => p.1 = q.1 ∧ H q.2.1 = some (.tup (p.1.map kV)) ∧ RelV p.2 q.2.2
theorem KT.val {H : Hp} {kvs : List (List Key × V)} {xs : List (List Key × Addr × Value)} (r : KT H kvs xs) (k : List Key) : RelO (valV kvs k) ((atKey xs k).map (·.2)) := by
  induction r with
  | nil => exact True.intro
  | @cons p q ps qs h t ih =>
    obtain ⟨h1, _, h2⟩ := h
    by_cases e : p.1 = k
    · have e' : q.1 = k := h1.symm.trans e
      have b : atKey (q :: qs) k = some q.2 := by simp [atKey, List.find?_cons, e']
      rw [valV_pos e, b]; exact h2
    · have e' : ¬ q.1 = k := fun z => e (h1.trans z)
      have b : atKey (q :: qs) k = atKey qs k := by simp [atKey, List.find?_cons, e']
      rw [valV_neg e, b]; exact ih
theorem KT.repl {H : Hp} {kvs : List (List Key × V)} {xs : List (List Key × Addr × Value)} (r : KT H kvs xs) (k : List Key) {y : V} {u : Value} (ry : RelV y u) :
    KT H (kvs.map fun kv => if kv.1 = k then (kv.1, y) else kv) (xs.map (putAt k u)) := by
  induction r with
  | nil => exact .nil
  | @cons p q ps qs h t ih =>
    rw [List.map_cons, List.map_cons]
    refine .cons ?_ ih
    obtain ⟨h1, h2, h3⟩ := h
    unfold putAt
    by_cases e : p.1 = k
    · rw [if_pos e, if_pos (h1.symm.trans e)]; exact ⟨h1, h2, ry⟩
    · rw [if_neg e, if_neg (fun z => e (h1.trans z))]; exact ⟨h1, h2, h3⟩
theorem KT.put {H : Hp} {kvs : List (List Key × V)} {xs : List (List Key × Addr × Value)} (r : KT H kvs xs) (k : List Key) {b : Addr} {y : V} {u : Value} (hb : H b = some (.tup (k.map kV))) (ry : RelV y u) :
    KT H (putK kvs k y) (storedH xs k b u) := by
  have e : (kvs.any fun kv => decide (kv.1 = k)) = (atKey xs k).isSome := by
    rw [valV_any, (r.val k).isSome_eq, Option.isSome_map]
  unfold putK storedH
  rw [e]
  by_cases q : (atKey xs k).isSome = true
  · rw [if_pos q, if_pos q]; exact r.repl k ry
  · rw [if_neg q, if_neg q]; exact Paired.snoc r ⟨rfl, hb, ry⟩
theorem KT.keeps {H H' : Hp} {kvs : List (List Key × V)} {xs : List (List Key × Addr × Value)} (r : KT H kvs xs) (ht : ∀ b ys, H b = some (.tup ys) → H' b = some (.tup ys)) : KT H' kvs xs :=
  Paired.mapP r fun _ _ z => ⟨z.1, ht _ _ z.2.1, z.2.2⟩

section
variable {P : Program} {w : World} {H : Hp} {h : Heap} {a : Addr}
theorem rd_of {u : HO} (ok : HOk P w H h) (e : Rd H a u) : ObjOk P w H h a u := e.ok ok
theorem dk_rd {kvs : List (Key × V)} (ok : HOk P w H h) (e : Rd H a (.dK kvs)) : kvs.length ≤ sizeLine ∧ (a == sysModules) = false ∧ ∃ vs, KV kvs vs ∧ h.DictOf (mixKind P w) a vs :=
  show ObjOk P w H h a (.dK kvs) from rd_of ok e
theorem key_of {ks : List Key} (ok : HOk P w H h) (e : H a = some (.tup (ks.map kV))) : (tupleKind (mixKind P w)).is h ks a := by
  obtain ⟨_, its, r, o, h1, h2, _, n, h3⟩ := (show ObjOk P w H h a (.tup (ks.map kV)) from ok a _ e)
  exact ⟨o, its.toArray, n, h1, h2, h3, by simpa using items_are r⟩
theorem dt_rd {kvs : List (List Key × V)} (ok : HOk P w H h) (e : Rd H a (.dT kvs)) : kvs.length ≤ sizeLine ∧ (a == sysModules) = false ∧
    ∃ xs, KT H kvs xs ∧ h.DictOfH (tupleKind (mixKind P w)) a xs := by
  obtain ⟨z, y, xs, r, o, es, ep, h1, h2, h3, h4, h5⟩ := (show ObjOk P w H h a (.dT kvs) from rd_of ok e)
  refine ⟨z, y, xs, r, o, es, ep, h1, h2, h3, h4, fun x hx => ?_, h5⟩
  have all : ∀ {l : List (List Key × V)} {m : List (List Key × Addr × Value)}, KT H l m → ∀ x ∈ m, (tupleKind (mixKind P w)).is h x.1 x.2.1 := by
    intro l m q
    induction q with
    | nil => intro x hx; exact nomatch hx
    | @cons p q ps qs hq t ih =>
      intro x hx
      rcases List.mem_cons.mp hx with e | hx
      · subst e
        exact key_of ok (by rw [← hq.1]; exact hq.2.1)
      · exact ih x hx
  exact all r x hx
end


def DGet (H : Hp) (a : Addr) (y : V) (r : Option V) : Prop :=
  (∃ kvs k, Rd H a (.dK kvs) ∧ y = kV k ∧ r = valV kvs k) ∨ ∃ kvs k b, Rd H a (.dT kvs) ∧ y = .ref b ∧ H b = some (.tup (k.map kV)) ∧ r = valV kvs k

def DPut (H : Hp) (a : Addr) (y v : V) (H' : Hp) : Prop :=
  (∃ kvs k, H a = some (.dK kvs) ∧ y = kV k ∧ kvs.length < sizeLine ∧ H' = upd H a (.dK (putK kvs k v))) ∨
  ∃ kvs k b, H a = some (.dT kvs) ∧ y = .ref b ∧ H b = some (.tup (k.map kV)) ∧ kvs.length < sizeLine ∧ H' = upd H a (.dT (putK kvs k v))
theorem DGet.k {H : Hp} {a : Addr} {kvs : List (Key × V)} {k : Key} (e : H a = some (.dK kvs)) : DGet H a (kV k) (valV kvs k) := .inl ⟨kvs, k, .inl e, rfl, rfl⟩
theorem DGet.t {H : Hp} {a b : Addr} {kvs : List (List Key × V)} {k : List Key} (e : H a = some (.dT kvs)) (eb : H b = some (.tup (k.map kV))) : DGet H a (.ref b) (valV kvs k) := .inr ⟨kvs, k, b, .inl e, rfl, eb, rfl⟩
theorem DPut.k {H : Hp} {a : Addr} {kvs : List (Key × V)} {k : Key} {v : V} (e : H a = some (.dK kvs)) (hl : kvs.length < sizeLine) : DPut H a (kV k) v (upd H a (.dK (putK kvs k v))) := .inl ⟨kvs, k, e, rfl, hl, rfl⟩
theorem DPut.t {H : Hp} {a b : Addr} {kvs : List (List Key × V)} {k : List Key} {v : V} (e : H a = some (.dT kvs)) (eb : H b = some (.tup (k.map kV))) (hl : kvs.length < sizeLine) :
    DPut H a (.ref b) v (upd H a (.dT (putK kvs k v))) := .inr ⟨kvs, k, b, e, rfl, eb, hl, rfl⟩


section
variable {X : Cx} {pins : List (Addr × Obj)} {σ : St} {H : Hp} {s : Shared} {a : Addr} {y v : V} {u r : Value} {o : Option V} {A : Around} {E : Value → Shared → Prop}

theorem Inv.big (I : Inv X pins σ H s) : sysModules < s.heap.objs.size := by
  have h : mainGlobals < s.heap.objs.size := (I.mod.glob.keeps I.bk).lt
  exact Nat.lt_trans (by decide) h


theorem d_getItem {Q : Value → Shared → Prop} (hu : A.units + 1 < cLine) (I : Inv X pins σ H s) (g : DGet H a y (some v)) (ry : RelV y u) (h : ∀ w' s', Inv X pins σ H s' → RelV v w' → Q w' s') :
    wpAny (model X.prog X.w) A (getItem (.ref a) u) Q E s := by
  rcases g with ⟨kvs, k, e, ey, l⟩ | ⟨kvs, k, b, e, ey, eb, l⟩
  · subst ey
    obtain ⟨z, hd, vs, rel, dd⟩ := dk_rd I.hok e
    obtain ⟨w', hw, rw'⟩ := RelO.some_of (v := v) (o := valueAt vs k) (by rw [l]; exact rel.val k)
    exact wpAny_getItem_of (kV_is ry) dd.mapOf hw (h w' _ (I.tok _) rw')
  · subst ey
    cases (show u = Value.ref b from ry)
    obtain ⟨z, hd, xs, rel, dd⟩ := dt_rd I.hok e
    obtain ⟨w', hw, rw'⟩ := RelO.some_of (v := v) (o := (atKey xs k).map (·.2)) (by rw [l]; exact rel.val k)
    obtain ⟨p, hp, hp2⟩ := Option.map_eq_some_iff.mp hw
    refine wpAny_getItem_heap (tupleKind_room_in1 hu) (key_of I.hok eb) dd hp ?_
    rw [hp2]
    exact h w' _ (I.tok _) rw'

theorem dk_new {P : Program} {w : World} {H' : Hp} {h' : Heap} {kvs : List (Key × V)} {vs : List (Key × Value)} (z : kvs.length ≤ sizeLine) (hd : (a == sysModules) = false) (rel : KV kvs vs) (dd : h'.DictOf (mixKind P w) a vs) :
    ObjOk P w H' h' a (.dK kvs) := ⟨z, hd, vs, rel, dd⟩

end

section
variable {X : Cx} {pins : List (Addr × Obj)} {σ : St} {H : Hp} {s : Shared} {a : Addr} {kvs : List (Key × V)} {k : Key} {u : Value} {A : Around} {E : Value → Shared → Prop}

end




def NoSl (i : Expr) : Prop := ∀ ov iv, subscripted i false ov iv = operate [ov, iv] (getItem ov iv)
theorem subD_of {prog : Program} {w : World} {A : Around} {E : Value → Shared → Prop} {s : Shared} {env : Env} {value slice : Expr} {pos : Pos} {T id : String} {Q : Value → Shared → Prop}
    (hl : typeLookup (.type T) "__getitem__" = pure (some (.builtin id))) (hs : NoSl slice)
    (h : wpAny (model prog w) A (eval value env) (fun o s₁ => wpAny (model prog w) A (eval slice env) (fun i s₂ => s₂.TypeIs o T ∧ wpAny (model prog w) A (getItem o i) Q E s₂) E s₁) E s) :
    wpAny (model prog w) A (eval (.Subscript value slice pos) env) Q E s := by
  refine Subscript_ (wpAny_mono h (fun o s₁ h₁ => wpAny_mono h₁ (fun i s₂ h₂ => ?_) fun _ _ x => x) fun _ _ x => x)
  obtain ⟨hT, h₂⟩ := h₂
  unfold subscriptTail
  refine wpAny_bind ?_
  rw [getitemInPython_of_ne hT.not_modules]
  refine wpAny_bind (wpAny_specialOf hT hl ?_)
  have fin : wpAny (model prog w) A (subscripted slice false o i) (fun r s₃ => wpAny (model prog w) A (letTemporaryGo value o r >>= fun _ => pure r) Q E s₃) E s₂ := by
    rw [hs o i]
    exact wpAny_operating (wpAny_mono h₂ (fun r s₃ h₃ => wpAny_bind (wpAny_letTemporaryGo (wpAny_pure h₃))) fun _ _ x => x)
  first
    | exact wpAny_pure (wpAny_bind fin)
    | exact wpAny_bind (wpAny_pure (wpAny_bind fin))
    | exact wpAny_bind fin

theorem dict_typeIs {X : Cx} {pins : List (Addr × Obj)} {σ : St} {H : Hp} {s : Shared} {a : Addr} {y : V} {o : Option V} (I : Inv X pins σ H s) (g : DGet H a y o) : s.TypeIs (.ref a) "dict" := by
  rcases g with ⟨kvs, k, e, _, _⟩ | ⟨kvs, k, b, e, _, _, _⟩
  · obtain ⟨_, _, vs, _, dd⟩ := dk_rd I.hok e
    exact dd.typeIs
  · obtain ⟨_, _, xs, _, dd⟩ := dt_rd I.hok e
    exact dd.typeIs
def tDGet (td ty : TE) : TE := fun σ H Q => td σ H fun x H1 => ty σ H1 fun y H2 => ∃ a v, x = .ref a ∧ DGet H2 a y (some v) ∧ Q v H2

def tDIn (ty td : TE) : TE := fun σ H Q => ty σ H fun y H1 => td σ H1 fun x H2 => ∃ a o, x = .ref a ∧ DGet H2 a y o ∧ Q (.bl o.isSome) H2
def tDNotIn (ty td : TE) : TE := fun σ H Q => ty σ H fun y H1 => td σ H1 fun x H2 => ∃ a o, x = .ref a ∧ DGet H2 a y o ∧ Q (.bl (!o.isSome)) H2

def sDPut (td ty tv : TE) : TS := fun D σ H => tv σ H fun v H1 => td σ H1 fun x H2 => ty σ H2 fun y H3 => ∃ a H4, x = .ref a ∧ DPut H3 a y v H4 ∧ D.nx σ H4

def sDAug (td ty tv : TE) (rd : V → V → Hp → VK → Prop) : TS := fun D σ H => td σ H fun x H1 => ty σ H1 fun y H2 => ∃ a v, x = .ref a ∧ DGet H2 a y (some v) ∧
  tv σ H2 fun y2 H3 => rd v y2 H3 fun z H4 => ∃ H5, DPut H4 a y z H5 ∧ D.nx σ H5

def sDDel (td ty : TE) : TS := fun D σ H => td σ H fun x H1 => ty σ H1 fun y H2 => ∃ a kvs k, x = .ref a ∧ H2 a = some (.dK kvs) ∧ y = kV k ∧ (valV kvs k).isSome = true ∧ D.nx σ (upd H2 a (.dK (dropK kvs k)))

section
variable {X : Cx} {o i e value : Expr} {pos pos' tpos : Pos} {td ty tv : TE}
theorem pe_dget (hu : X.A.units + 1 < cLine) (ho : PE X o td) (hi : PE X i ty) (hs : NoSl i) : PE X (.Subscript o i pos) (tDGet td ty) := by
  intro pins s σ H Q I h
  refine subD_of PySem.F.slot_dict_getitem.lookup hs (thn (ho pins s σ H _ I h) fun u s1 ⟨x, H1, I1, rx, q1⟩ => thn (hi pins s1 σ H1 _ I1 q1) fun iv s2 ⟨y, H2, I2, ry, a, v, ex, g, q2⟩ => ?_)
  subst ex
  obtain rfl : u = Value.ref a := rx
  exact ⟨dict_typeIs I2 g, d_getItem hu I2 g ry fun w' s3 I3 rw' => ⟨v, H2, I3, rw', q2⟩⟩
end



def tDNewK : TE := fun _ H Q => ∀ p, H p = none → Q (.ref p) (upd H p (.dK []))
def tDNewT : TE := fun _ H Q => ∀ p, H p = none → Q (.ref p) (upd H p (.dT []))
section
variable {X : Cx} {pos : Pos}
end


def tPairs : List (TE × TE) → St → Hp → (List (V × V) → Hp → Prop) → Prop
  | [], _, H, Q => Q [] H
  | (tk, tv) :: r, σ, H, Q => tk σ H fun x H1 => tv σ H1 fun y H2 => tPairs r σ H2 fun ps H3 => Q ((x, y) :: ps) H3
abbrev VV : List (V × V) → List (Value × Value) → Prop := Paired fun p q => RelV p.1 q.1 ∧ RelV p.2 q.2
def PPs (X : Cx) (pos : Pos) (keys : List (Option Expr)) (values : List Expr) (trs : List (TE × TE)) : Prop :=
  ∀ (pins : List (Addr × Obj)) (s : Shared) (σ : St) (H : Hp) (Q : List (V × V) → Hp → Prop), Inv X pins σ H s → tPairs trs σ H Q →
    wpAny (model X.prog X.w) X.A (evalPairs (pairTrees keys values X.env pos)) (fun vs s' => ∃ ps H', Inv X pins σ H' s' ∧ VV ps vs ∧ Q ps H') X.xe s
def mergeK (kvs more : List (Key × V)) : List (Key × V) := more.foldl (fun acc kv => putK acc kv.1 kv.2) kvs
theorem KV.merge : ∀ {more : List (Key × V)} {rs : List (Key × Value)} {kvs : List (Key × V)} {vs : List (Key × Value)}, KV more rs → KV kvs vs → KV (mergeK kvs more) (merged vs rs) := by
  intro more rs kvs vs r
  unfold KV at r
  induction r generalizing kvs vs with
  | nil => intro q; exact q
  | @cons p q ps qs h t ih =>
    intro r0
    have e : KV (putK kvs p.1 p.2) (stored vs q.1 q.2) := by
      have := r0.put p.1 h.2
      rw [← h.1]; exact this
    exact ih e
theorem length_mergeK : ∀ (more kvs : List (Key × V)), (mergeK kvs more).length ≤ kvs.length + more.length
  | [], kvs => by show kvs.length ≤ kvs.length + 0; omega
  | p :: r, kvs => by
    have h1 := length_mergeK r (putK kvs p.1 p.2)
    have h2 := length_putK kvs p.1 p.2
    show (mergeK (putK kvs p.1 p.2) r).length ≤ _
    rw [List.length_cons]; omega
def tDisp (trs : List (TE × TE)) : TE := fun σ H Q => ∀ p, H p = none → tPairs trs σ (upd H p (.dK [])) fun ps H2 => H2 p = some (.dK []) ∧ ∃ kvs : List (Key × V), ps = kvs.map (fun kv => (kV kv.1, kv.2)) ∧ kvs.length ≤ 15 ∧ Q (.ref p) (upd H2 p (.dK (mergeK [] kvs)))
structure M1 (X : Cx) (o : Expr) (m : Str) (apos : Pos) (e : Expr) (cpos : Pos) : Prop where
  base : attributeBase o m X.env (eval o X.env) = eval o X.env
  few : ((backTo cpos (starEach [e] X.env)).all (fun x => !x.1) && (backToKw cpos (keywordEach [] X.env)).all (fun x => x.1.isSome)
    && decide (([e] : List Expr).length + ([] : List Keyword).length + (if ([] : List Keyword).isEmpty then 0 else 1) < 30)) = true
  line : (apos.endLine == cpos.line) = true
  trees : backTo cpos (starEach [e] X.env) = [(false, eval e X.env)]
structure M2 (X : Cx) (o : Expr) (m : Str) (apos : Pos) (e f : Expr) (cpos : Pos) : Prop where
  base : attributeBase o m X.env (eval o X.env) = eval o X.env
  few : ((backTo cpos (starEach [e, f] X.env)).all (fun x => !x.1) && (backToKw cpos (keywordEach [] X.env)).all (fun x => x.1.isSome)
    && decide (([e, f] : List Expr).length + ([] : List Keyword).length + (if ([] : List Keyword).isEmpty then 0 else 1) < 30)) = true
  line : (apos.endLine == cpos.line) = true
  trees : backTo cpos (starEach [e, f] X.env) = [(false, eval e X.env), (false, eval f X.env)]


def IsD (H : Hp) (a : Addr) : Prop := (∃ kvs, Rd H a (.dK kvs)) ∨ ∃ kvs, Rd H a (.dT kvs)
section
variable {X : Cx} {pins : List (Addr × Obj)} {σ : St} {H : Hp} {s : Shared} {a : Addr} {y d : V} {u r : Value} {o : Option V} {A : Around} {E : Value → Shared → Prop}

end

def tDGet1 (td ty : TE) : TE := fun σ H Q => td σ H fun x H1 => ∃ a, x = .ref a ∧ IsD H1 a ∧ ty σ H1 fun y H2 => ∃ o, DGet H2 a y o ∧ Q (o.getD .non) H2
def tDGet2 (td ty tx : TE) : TE := fun σ H Q => td σ H fun x H1 => ∃ a, x = .ref a ∧ IsD H1 a ∧ ty σ H1 fun y H2 => tx σ H2 fun z H3 => ∃ o, DGet H3 a y o ∧ Q (o.getD z) H3

def tDPop1 (td ty : TE) : TE := fun σ H Q => td σ H fun x H1 => ∃ a, x = .ref a ∧ IsD H1 a ∧ ty σ H1 fun y H2 => ∃ kvs k v, H2 a = some (.dK kvs) ∧ y = kV k ∧ valV kvs k = some v ∧ Q v (upd H2 a (.dK (dropK kvs k)))
def tDPop2 (td ty tx : TE) : TE := fun σ H Q => td σ H fun x H1 => ∃ a, x = .ref a ∧ IsD H1 a ∧ ty σ H1 fun y H2 => tx σ H2 fun z H3 => ∃ kvs k, H3 a = some (.dK kvs) ∧ y = kV k ∧
  (∀ v, valV kvs k = some v → Q v (upd H3 a (.dK (dropK kvs k)))) ∧ (valV kvs k = none → Q z H3)
section
variable {X : Cx} {o e f : Expr} {apos cpos : Pos} {td ty tx : TE}
end


section
variable {X : Cx} {pins : List (Addr × Obj)} {σ : St} {H : Hp} {s : Shared} {a : Addr} {kvs : List (Key × V)} {A : Around} {E : Value → Shared → Prop}
end


section
variable {X : Cx} {pins : List (Addr × Obj)} {σ : St} {H : Hp} {s : Shared} {a : Addr} {y : V} {u : Value} {A : Around} {E : Value → Shared → Prop}

end
end L2
namespace L2
open PySem PySem.Spec PyProof.Rows
section
variable {X : Cx}
end
end L2

set_option Elab.async false
set_option linter.all false
set_option maxRecDepth 100000
set_option maxHeartbeats 4000000

namespace L2
open PySem PySem.Spec PyProof.Rows PySem.SeqAt

def cK (ms : List (Int × Int)) : List (Key × V) := ms.map fun p => (Sum.inl p.1, V.int p.2)
def lookI (ms : List (Int × Int)) (k : Int) : Option Int := (ms.find? fun p => decide (p.1 = k)).map (·.2)
def eqC (a b : List (Int × Int)) : Bool := decide (a = b) || (a.length == b.length && a.all fun p => decide (lookI b p.1 = some p.2))
inductive IEnts : List DictEntry → List (Int × Int) → Prop
  | nil : IEnts [] []
  | cons {e : DictEntry} {k v : Int} {es : List DictEntry} {ms : List (Int × Int)} {t t' : Tok} : e.key = .int k t → e.hash = hashInt k → e.val = .int v t' → IEnts es ms → IEnts (e :: es) ((k, v) :: ms)
theorem IEnts.length {es : List DictEntry} {ms : List (Int × Int)} (h : IEnts es ms) : es.length = ms.length := by
  induction h with
  | nil => rfl
  | cons _ _ _ _ ih => simp [ih]
theorem IEnts.get {es : List DictEntry} {ms : List (Int × Int)} (h : IEnts es ms) : ∀ {i : Nat} {e : DictEntry}, es[i]? = some e → ∃ k v t t', ms[i]? = some (k, v) ∧ e.key = .int k t ∧ e.hash = hashInt k ∧ e.val = .int v t' := by
  induction h with
  | nil => intro i e q; simp at q
  | @cons e0 k v es ms t t' h1 h2 h3 _ ih =>
    intro i e q
    cases i with
    | zero =>
      have : e0 = e := by simpa using q
      subst this
      exact ⟨k, v, t, t', by simp, h1, h2, h3⟩
    | succ i =>
      obtain ⟨k', v', t1, t2, q1, q2⟩ := ih (i := i) (e := e) (by simpa using q)
      exact ⟨k', v', t1, t2, by simpa using q1, q2⟩
structure IDict (h : Heap) (a : Addr) (ms : List (Int × Int)) : Prop where
  ex : ∃ o es ep, h.get? a = some o ∧ o.ExactDict ∧ o.data = .dict es ep ∧ IEnts es.toList ms
  sys : (a == sysModules) = false
  nd : (ms.map (·.1)).Nodup
theorem IDict.typeIs {s : Shared} {a : Addr} {ms : List (Int × Int)} (x : IDict s.heap a ms) : s.TypeIs (.ref a) "dict" := let ⟨o, _, _, ho, hc, _⟩ := x.ex; ⟨o, ho, hc.1⟩
end L2

set_option Elab.async false
set_option linter.all false
set_option maxRecDepth 100000
set_option maxHeartbeats 4000000

namespace L2
open PySem PySem.Spec PyProof.Rows
section
variable {prog : Program} {w : World} {A : Around} {E : Value → Shared → Prop}
theorem list_no_keys : typeLookup (.type "list") "keys" = pure none := am_miss_of_fast (by kernel_rfl)
theorem keys_miss_list {s : Shared} {a : Addr} {xs : Array Value} {k : Nat} {Q : Option Value → Shared → Prop}
    (hx : s.heap.get? a = some { cls := .type "list", data := .seq xs k }) (hA : A.handled = none)
    (h : ∀ h' tk, (∀ b o, s.heap.get? b = some o → h'.get? b = some o) → Q none { s with heap := h', toks := tk }) :
    wpAny (model prog w) A (getAttr? (.ref a) "keys") Q E s := by
  obtain ⟨hp, g, d, tk, os⟩ := s
  have hT : ∀ tk', (⟨hp, g, d, tk', os⟩ : Shared).TypeIs (.ref a) "list" := fun _ => ⟨_, hx, rfl⟩
  have f1 := sub_AttributeError
  have f3 := F.slot_list_getattribute.lookup
  have f4 := F.slot_list_getattribute.bind (.ref a)
  have f5 := am_list_getattr_none
  unfold getAttr? getAttrBy? getAttrBy
  repeat (any_goals (first | assumption | exact hT _ | ((with_reducible show wpAny _ _ (call (Value.builtin "list.__getattribute__") _ _) _ _ _); refine call_meets F.slot_list_getattribute (hT _) am_entry_list_getattribute (F.args_list_getattribute_2 _ _) (meets_getattribute_miss_list a xs k #[] "keys" _ list_no_keys (by decide +kernel)) ⟨hx, hA, fun h' tk' e hx' => ?_⟩) | wp_step))
  obtain ⟨t', u', he⟩ := hx'.there
  show wpAny _ _ (getattributeRaised _ _ _ _ _ _ _) _ _ _
  unfold getattributeRaised
  repeat (any_goals (first | assumption | wp_step))
  exact h _ _ hx'.keeps

theorem plain_dloop : plainId "dict.update.loop" = true := by decide +kernel
theorem entry_dloop : entryFor table "dict.update.loop" = some Builtin.«dict.update.loop» := entryFor_of_fast (by kernel_rfl)
variable {KT : Type} [DecidableEq KT] {knd : KeyKind prog w KT}

def But2 (d it : Addr) (h0 h : Heap) : Prop := ∀ b o, b ≠ d → b ≠ it → h0.get? b = some o → h.get? b = some o
theorem dict_loop (hh : A.handled = none) {d it l : Addr} {items : Array Value} {prs : List (KT × Value)} (hl : prs.length = items.size) (ndi : d ≠ it) (nld : l ≠ d) (nli : l ≠ it) {h0 : Heap} (hL : h0.IsList l items)
    (hP : ∀ (i : Nat) (x : Value), items[i]? = some x → ∃ (p : KT × Value) (t : Addr) (key : Value), prs[i]? = some p ∧ x = .ref t ∧ t ≠ d ∧ t ≠ it ∧ h0.IsTuple t #[key, p.2] ∧ knd.is p.1 key = true) {R : Result → Shared → Prop} :
    ∀ (n i : Nat) (s : Shared) (acc : List (KT × Value)), prs.length - i = n → i ≤ prs.length → acc.length + n ≤ sizeLine → s.heap.DictOf knd d acc → s.heap.IsListIter it l i → But2 d it h0 s.heap →
      (∀ h' tk, h'.DictOf knd d (merged acc (prs.drop i)) → But2 d it h0 h' → R (.ok (.ret .none)) { s with heap := h', toks := tk }) →
      codeAny (model prog w) A (.builtin "dict.update.loop" ⟨[.ref d, .ref it, rawInt i, .none], []⟩) R s := by
  intro n
  induction n with
  | zero =>
    intro i s acc hn hi hz hd hit hb k
    refine codeAny_builtin entry_dloop ?_
    rw [Around.under_plainId plain_dloop]
    have hLs : s.heap.IsList l items := let ⟨o, ho, r⟩ := hL; ⟨o, hb _ _ nld nli ho, r⟩
    have hx : items[i]? = none := by simp; omega
    show wpAny _ _ (pyNext (.ref it) >>= _) _ _ s
    refine wpAny_bind (wpAny_pyNext_list_end hh hit hLs hx fun h' he => ?_)
    show wpAny _ _ (Builtin.Dict.addKeywords d [] >>= _) _ _ _
    refine wpAny_bind (wpAny_pure (wpAny_pure ?_))
    have e : prs.drop i = [] := by simp; omega
    have k' := k h' s.toks (by rw [e]; exact hd.extBut he ndi) fun b o n1 n2 q => he b o n2 (hb b o n1 n2 q)
    exact k'
  | succ n ih =>
    intro i s acc hn hi hz hd hit hb k
    refine codeAny_builtin entry_dloop ?_
    rw [Around.under_plainId plain_dloop]
    have hLs : s.heap.IsList l items := let ⟨o, ho, r⟩ := hL; ⟨o, hb _ _ nld nli ho, r⟩
    have hlt : i < items.size := by omega
    obtain ⟨p, t, key, hp, ex, ntd, nti, hT, hkey⟩ := hP i items[i] (by simp [hlt])
    show wpAny _ _ (pyNext (.ref it) >>= _) _ _ s
    refine wpAny_bind (wpAny_pyNext_list_item hit hLs (x := items[i]) (by simp [hlt]) fun h1 hit1 hs1 => ?_)
    rw [ex]
    have hT1 : h1.IsTuple t #[key, p.2] := let ⟨o, ho, r⟩ := hT; ⟨o, (hs1.2 t nti).trans (hb _ _ ntd nti ho), r⟩
    have hd1 : h1.DictOf knd d acc := hd.sameBut hs1 ndi
    obtain ⟨o, ho, hc, m, hdat⟩ := hT1
    refine wpAny_bind (wpAny_holding ?_)
    refine wpAny_bind (wpAny_tryCatch ?_)
    unfold Builtin.Dict.pairItems
    refine wpAny_bind (wpAny_typeOf (show (({ s with heap := h1 } : Shared).TypeIs (.ref t) "tuple") from ⟨o, ho, hc⟩) ?_)
    rw [if_pos (by decide)]
    refine wpAny_bind (wpAny_seqItems ho hdat (wpAny_pure ?_))
    show wpAny _ _ (holding [key, p.2] (dictSet d key p.2)) _ _ _
    refine wpAny_holding (wpAny_dictSet_pairs (s := { s with heap := h1 }) hkey hd1 (fun h2 hd2 hs2 => ?_) (by omega))
    refine wpAny_pure ⟨plainId_quiet plain_dloop _, ?_⟩
    have e2 : prs.drop i = p :: prs.drop (i + 1) := by
      rw [List.drop_eq_getElem_cons (by omega)]
      congr 1
      rw [List.getElem?_eq_getElem (by omega)] at hp
      exact Option.some.inj hp
    have hl2 := stored_length_le acc p.1 p.2
    refine ih (i + 1) { s with heap := h2, toks := s.toks + 1 } (stored acc p.1 p.2) (by omega) (by omega) (by omega) hd2 ?_ (fun b o' n1 n2 q => ?_) (fun h' tk hd' hb' => k h' tk (by rw [e2]; exact hd') hb')
    · obtain ⟨oi, hoi, ri⟩ := hit1
      exact ⟨oi, (hs2.2 it (Ne.symm ndi)).trans hoi, ri⟩
    · exact (hs2.2 b n1).trans ((hs1.2 b n2).trans (hb b o' n1 n2 q))
end

theorem vals_pair {x y : V} {us : List Value} (r : Vals [x, y] us) : ∃ a b, us = [a, b] ∧ RelV x a ∧ RelV y b := by
  cases r with
  | cons h1 r =>
    cases r with
    | cons h2 r =>
      cases r
      exact ⟨_, _, rfl, h1, h2⟩
theorem pairs_of {P : Program} {w : World} {H : Hp} {h : Heap} (hok : HOk P w H h) : ∀ (ts : List Addr) (kvs : List (Key × V)), ts.length = kvs.length → (∀ (i : Nat) t, ts[i]? = some t → ∃ kv : Key × V, kvs[i]? = some kv ∧ H t = some (.tup [kV kv.1, kv.2])) →
    ∃ prs : List (Key × Value), KV kvs prs ∧ prs.length = ts.length ∧ ∀ (i : Nat) t, ts[i]? = some t → ∃ (p : Key × Value) (key : Value), prs[i]? = some p ∧ h.IsTuple t #[key, p.2] ∧ (mixKind P w).is p.1 key = true
  | [], [], _, _ => ⟨[], .nil, rfl, fun i t e => by simp at e⟩
  | [], _ :: _, hl, _ => by simp at hl
  | _ :: _, [], hl, _ => by simp at hl
  | t :: ts, kv :: kvs, hl, hk => by
    obtain ⟨prs, h1, h2, h3⟩ := pairs_of hok ts kvs (by simpa using hl) fun i t e => by
      obtain ⟨kv', e1, e2⟩ := hk (i + 1) t (by simpa using e)
      exact ⟨kv', by simpa using e1, e2⟩
    obtain ⟨kv', e1, e2⟩ := hk 0 t rfl
    have e1' : kv = kv' := by simpa using e1
    subst e1'
    obtain ⟨_, its, rv, o, ho, hc, hdn, n, hd⟩ := hok t _ e2
    obtain ⟨a, b, rfl, ra, rb⟩ := vals_pair rv
    refine ⟨(kv.1, b) :: prs, .cons ⟨rfl, rb⟩ h1, by simp [h2], fun i t' e => ?_⟩
    cases i with
    | zero =>
      have : t = t' := by simpa using e
      subst this
      exact ⟨(kv.1, b), a, rfl, ⟨o, ho, hc, n, hd⟩, kV_is ra⟩
    | succ i =>
      obtain ⟨p, key, q1, q2, q3⟩ := h3 i t' (by simpa using e)
      exact ⟨p, key, by simpa using q1, q2, q3⟩

theorem call_dictP {X : Cx} (hc : X.calm = true) : CallR X (.type "dict") (fun xs H Q => ∃ (p : Addr) (ts : List Addr) (kvs : List (Key × V)), xs = [.ref p] ∧ H p = some (.lst (ts.map V.ref)) ∧ ts.length = kvs.length ∧
    (∀ (i : Nat) t, ts[i]? = some t → ∃ kv : Key × V, kvs[i]? = some kv ∧ H t = some (.tup [kV kv.1, kv.2])) ∧ ∀ D, H D = none → Q (.ref D) (upd H D (.dK (mergeK [] kvs)))) := by
  intro pins s σ H xs us Q I r h
  obtain ⟨l, ts, kvs, rfl, hl, hlen, hk, q⟩ := h
  obtain ⟨u, rfl, ru⟩ := vals1 r
  cases ru
  have hh : X.A.handled = none := I.ok.hd hc
  obtain ⟨hz, its, n, rv, ho⟩ := I.hok l _ hl
  rw [List.length_map] at hz
  have hil : its.length = ts.length := by rw [← rv.length, List.length_map]
  obtain ⟨prs, hkv, hpl, hP⟩ := pairs_of I.hok ts kvs hlen hk
  have at_ : ∀ (i : Nat) (x : Value), its.toArray[i]? = some x → ∃ t, ts[i]? = some t ∧ x = .ref t := fun i x e => by
    have e' : its[i]? = some x := by simpa using e
    have hlt : i < its.length := (List.getElem?_eq_some_iff.mp e').1
    have hb : ts[i]? = some (ts[i]'(by omega)) := by simp <;> omega
    obtain ⟨u, hu, ru⟩ := rv.get (i := i) (x := V.ref (ts[i]'(by omega))) (by rw [List.getElem?_map, hb]; rfl)
    rw [e'] at hu
    cases hu
    cases ru
    exact ⟨_, hb, rfl⟩
  refine callType_codes (Q₁ := fun obj s₁ => obj = .ref s.heap.objs.size ∧ s₁ = { s with heap := s.heap.push { cls := .type "dict", data := .dict #[] } }) PySem.F.kt_called_dict (PySem.F.kt_typeCall_dict_1 _) PySem.F.entry_dict_init (kt_code_dict_new _ ⟨rfl, rfl⟩) ?_
  rintro obj s₁ ⟨rfl, rfl⟩
  have hnew : (s.heap.push { cls := .type "dict", data := .dict #[] }).DictOf (mixKind X.prog X.w) s.heap.objs.size [] := Heap.DictOf.new s.heap
  refine ⟨hnew.typeIs, PySem.F.args_dict_init_2 _ _, ?_⟩
  unfold Builtin.«dict.__init__»
  refine wpAny_bind ?_
  unfold Builtin.Dict.selfAndRest
  refine wpAny_bind (wpAny_notOrdered_dict hnew.typeIs ?_)
  show wpAny _ _ (pure (s.heap.objs.size, [Value.ref l])) _ _ _
  refine wpAny_pure ?_
  show wpAny _ _ (Builtin.Dict.updateFrom "dict.__init__" s.heap.objs.size (.ref l) [] .none) _ _ _
  unfold Builtin.Dict.updateFrom
  have ho1 : (s.heap.push { cls := .type "dict", data := .dict #[] }).get? l = some { cls := .type "list", data := .seq its.toArray n } := Heap.get?_push_of_some _ ho
  refine wpAny_bind (wpAny_typeOf (show (({ s with heap := s.heap.push { cls := .type "dict", data := .dict #[] } } : Shared).TypeIs (.ref l) "list") from ⟨_, ho1, rfl⟩) ?_)
  rw [if_pos (by decide)]
  refine wpAny_bind (keys_miss_list ho1 hh fun h1 tk hk1 => ?_)
  rw [if_pos (show (none : Option Value).isNone = true from rfl)]
  refine wpAny_bind (wpAny_rule ?_)
  have hl1 : h1.IsList l its.toArray := ⟨_, hk1 _ _ ho1, rfl, n, rfl⟩
  refine wpAny_bind (wpAny_pyIter_list hl1 ?_)
  refine wpAny_pure ⟨plainId_quiet plain_dloop _, ?_⟩
  have lt0 : l < s.heap.objs.size := Heap.lt_size ho
  have nD : ∀ b o, s.heap.get? b = some o → b ≠ s.heap.objs.size := fun b o e => Nat.ne_of_lt (Heap.lt_size e)
  have up : ∀ b o, s.heap.get? b = some o → h1.get? b = some o := fun b o e => hk1 _ _ (Heap.get?_push_of_some _ e)
  have nI : ∀ b o, s.heap.get? b = some o → b ≠ h1.objs.size := fun b o e => Nat.ne_of_lt (Heap.lt_size (up b o e))
  obtain ⟨oD, esD, epD, hoD, rD⟩ := id hnew
  have hD1 : h1.DictOf (mixKind X.prog X.w) s.heap.objs.size [] := ⟨oD, esD, epD, hk1 _ _ hoD, rD⟩
  have ndi : s.heap.objs.size ≠ h1.objs.size := Nat.ne_of_lt (Heap.lt_size (hk1 _ _ hoD))
  refine dict_loop (knd := mixKind X.prog X.w) (show X.A.in1.handled = none from hh) (prs := prs) (items := its.toArray) (l := l) (d := s.heap.objs.size) (it := h1.objs.size) (h0 := h1.push { cls := .type "list_iterator", data := .fields #[.ref l, .int 0 0] }) (by simp; omega) ndi (nD _ _ ho) (nI _ _ ho)
    ⟨_, Heap.get?_push_of_some _ (hk1 _ _ ho1), rfl, n, rfl⟩ (fun i x e => ?_) prs.length 0 _ [] (by omega) (by omega) ?_ (hD1.push _) ⟨_, Heap.get?_push_size _ rfl, rfl, rfl⟩ (fun b o _ _ e => e) (fun h' tk' hd' hb' => ?_)
  · obtain ⟨t, e1, rfl⟩ := at_ i x e
    obtain ⟨p, key, e2, ⟨o, ho', r'⟩, e4⟩ := hP i t e1
    exact ⟨p, t, key, e2, rfl, nD _ _ ho', nI _ _ ho', ⟨o, Heap.get?_push_of_some _ (up _ _ ho'), r'⟩, e4⟩
  · have e0 : ([] : List (Key × Value)).length = 0 := rfl
    omega
  · refine ⟨rfl, .ref s.heap.objs.size, upd H s.heap.objs.size (.dK (mergeK [] kvs)), ?_, rfl, q _ (I.hok.fresh (Nat.le_refl _))⟩
    have hzz : (mergeK [] kvs).length ≤ sizeLine := by
      have h1 := length_mergeK kvs []
      rw [List.length_nil] at h1
      omega
    refine I.laid (a := s.heap.objs.size) (o := .dK (mergeK [] kvs)) (t' := tk') (fun b o e => hb' b o (nD _ _ e) (nI _ _ e) (Heap.get?_push_of_some _ (up _ _ e))) (Nat.le_refl _) (dk_new hzz (beq_eq_false_iff_ne.mpr (Ne.symm (Nat.ne_of_lt I.big))) (hkv.merge .nil) ?_)
    simpa using hd'
theorem mergeK_nodup : ∀ (more kvs : List (Key × V)), ((kvs ++ more).map (·.1)).Nodup → mergeK kvs more = kvs ++ more
  | [], kvs, _ => by simp [mergeK]
  | p :: more, kvs, h => by
    have hnot : (kvs.any fun kv => decide (kv.1 = p.1)) = false := by
      rw [List.any_eq_false]
      intro kv hkv hd
      have e : kv.1 = p.1 := by simpa using hd
      rw [List.map_append, List.nodup_append] at h
      exact h.2.2 kv.1 (List.mem_map_of_mem hkv) p.1 (by simp) e
    have e : putK kvs p.1 p.2 = kvs ++ [p] := by
      unfold putK
      rw [if_neg (by rw [hnot]; decide)]
    show mergeK (putK kvs p.1 p.2) more = _
    rw [e, mergeK_nodup more (kvs ++ [p]) (by simpa using h)]
    simp
end L2
namespace L2
open PySem PySem.Spec PyProof.Rows PySem.SeqAt
end L2

set_option Elab.async false
set_option linter.all false
set_option maxRecDepth 100000
set_option maxHeartbeats 4000000

namespace L2
open PySem PySem.Spec PyProof.Rows

section
variable {X : Cx} {pins : List (Addr × Obj)} {σ : St} {H : Hp} {s : Shared} {a : Addr} {kvs : List (Key × V)}
end


def tFrz (t : TE) : TE := fun σ H Q => t σ H Q ∨ ∃ (a : Addr) (kvs : List (Key × V)), H a = some (.dK kvs) ∧ ((kvs.map (·.1)).Nodup → ∀ o : Obj, t σ (upd H a (.frz o (.dK kvs))) fun v H' => H' a = some (.frz o (.dK kvs)) ∧ Q v (upd H' a (.dK kvs)))
def sFrz (t : TS) : TS := fun D σ H => t D σ H ∨ ∃ (a : Addr) (kvs : List (Key × V)), H a = some (.dK kvs) ∧ ((kvs.map (·.1)).Nodup → ∀ o : Obj, t ⟨fun σ' H' => H' a = some (.frz o (.dK kvs)) ∧ D.nx σ' (upd H' a (.dK kvs)), fun v H' => H' a = some (.frz o (.dK kvs)) ∧ D.rt v (upd H' a (.dK kvs)),
  fun σ' H' => H' a = some (.frz o (.dK kvs)) ∧ D.bk σ' (upd H' a (.dK kvs)), fun σ' H' => H' a = some (.frz o (.dK kvs)) ∧ D.ct σ' (upd H' a (.dK kvs))⟩ σ (upd H a (.frz o (.dK kvs))))
theorem KV.getV : ∀ {kvs : List (Key × V)} {vs : List (Key × Value)} {i : Nat} {k : Key} {v : V}, KV kvs vs → kvs[i]? = some (k, v) → ∃ u, vs[i]? = some (k, u) ∧ RelV v u
  | _, _, i, k, v, .nil, e => by simp at e
  | _, _, 0, k, v, .cons (b := q) r t, e => by
    simp only [List.getElem?_cons_zero, Option.some.injEq] at e
    subst e
    obtain ⟨k', u⟩ := q
    have e1 : k = k' := r.1
    subst e1
    exact ⟨u, by simp, r.2⟩
  | _, _, i + 1, k, v, .cons r t, e => by
    obtain ⟨u, e1, e2⟩ := KV.getV (i := i) t (by simpa using e)
    exact ⟨u, by simpa using e1, e2⟩
def Itm (d : Addr) (o : Obj) : It :=
  ⟨fun i H => ∃ kvs k v, H d = some (.frz o (.dK kvs)) ∧ kvs[i]? = some (k, v),
   fun i H x H' => ∃ p k v, H p = none ∧ x = .ref p ∧ H' = upd H p (.tup [kV k, v]) ∧ ∀ kvs, H d = some (.frz o (.dK kvs)) → kvs[i]? = some (k, v),
   fun i H => ∃ kvs, H d = some (.frz o (.dK kvs)) ∧ kvs.length ≤ i⟩
def iItems (td : TE) : TI := fun σ H R => td σ H fun x H1 => ∃ d o kvs, x = .ref d ∧ H1 d = some (.frz o (.dK kvs)) ∧ R (Itm d o) H1
def Itk (d : Addr) (o : Obj) : It :=
  ⟨fun i H => ∃ kvs k v, H d = some (.frz o (.dK kvs)) ∧ kvs[i]? = some (k, v),
   fun i H x H' => H' = H ∧ ∃ k v, x = kV k ∧ ∀ kvs, H d = some (.frz o (.dK kvs)) → kvs[i]? = some (k, v),
   fun i H => ∃ kvs, H d = some (.frz o (.dK kvs)) ∧ kvs.length ≤ i⟩
def iKeys (td : TE) : TI := fun σ H R => td σ H fun x H1 => ∃ d o kvs, x = .ref d ∧ H1 d = some (.frz o (.dK kvs)) ∧ R (Itk d o) H1
section
variable {g : TG} {tc : TT} {te : TE} {D : Addr} {Q : Hp → Prop} {τ : St} {H : Hp}
end
end L2

set_option Elab.async false
set_option linter.all false
set_option maxRecDepth 100000
set_option maxHeartbeats 4000000

namespace L2
open PySem PySem.Spec PyProof.Rows PySem.SeqAt
theorem nodup_cK {ms : List (Int × Int)} : ((cK ms).map (·.1)).Nodup ↔ (ms.map (·.1)).Nodup := by
  unfold cK List.Nodup
  rw [List.map_map, List.pairwise_map, List.pairwise_map]
  constructor
  · intro h; exact h.imp fun {a b} n z => n (by simp [z])
  · intro h; exact h.imp fun {a b} n z => n (by simpa using z)
section
variable {X : Cx} {pins : List (Addr × Obj)} {σ : St} {H : Hp} {s : Shared} {a : Addr} {ms : List (Int × Int)}
end
def sameC (ms ns : List (Int × Int)) : Bool := ms.length == ns.length && ms.all fun p => decide (lookI ns p.1 = some p.2)
def rEqC : R2 := fun x y H Q => ∃ a b ms ns, x = .ref a ∧ y = .ref b ∧ Rd H a (.dK (cK ms)) ∧ Rd H b (.dK (cK ns)) ∧ Q (.bl (sameC ms ns)) H
section
variable {X : Cx} {n : Nat} {K : PySem.W.Frag}
def rEqCL (K : PySem.W.Frag) : R2 := fun x y H Q => ∃ (l m : Addr) (as bs : List Addr), x = .ref l ∧ y = .ref m ∧ SqL K H l (as.map V.ref) ∧ SqL K H m (bs.map V.ref) ∧ as.length = bs.length ∧
  (∀ (i : Nat) a b, as[i]? = some a → bs[i]? = some b → ∃ ms ns, Rd H a (.dK (cK ms)) ∧ Rd H b (.dK (cK ns)) ∧ sameC ms ns = true) ∧ Q (.bl true) H
end
end L2
namespace L2
open PySem PySem.Spec PyProof.Rows
theorem u1 {n c : Nat} (h : n + 8 < c) : n + 1 < c := by omega

def getI (ms : List (Int × Int)) (k : Int) : Int := (lookI ms k).getD 0
def putI (ms : List (Int × Int)) (k v : Int) : List (Int × Int) := if (ms.any fun p => decide (p.1 = k)) = true then ms.map (fun p => if p.1 = k then (p.1, v) else p) else ms ++ [(k, v)]
def dropI (ms : List (Int × Int)) (k : Int) : List (Int × Int) := ms.filter fun p => decide (p.1 ≠ k)
theorem cK_val (ms : List (Int × Int)) (k : Int) : valV (cK ms) (Sum.inl k) = (lookI ms k).map V.int := by
  unfold lookI cK valV
  rw [List.find?_map, Option.map_map, Option.map_map]
  have e : ((fun p : Key × V => decide (p.1 = Sum.inl k)) ∘ fun p : Int × Int => ((Sum.inl p.1 : Key), V.int p.2)) = fun p : Int × Int => decide (p.1 = k) := by
    funext p
    simp
  rw [e]
  rfl
theorem lookI_cons (p : Int × Int) (ms : List (Int × Int)) (k : Int) : lookI (p :: ms) k = if p.1 = k then some p.2 else lookI ms k := by
  unfold lookI
  by_cases q : p.1 = k
  · rw [List.find?_cons_of_pos (by simpa using q), if_pos q]; rfl
  · rw [List.find?_cons_of_neg (by simpa using q), if_neg q]
end L2

set_option Elab.async false
set_option linter.all false
set_option maxRecDepth 100000
set_option maxHeartbeats 4000000

namespace L2
open PySem PySem.Spec PyProof.Rows
structure RoomN (k : Nat) (A : Around) : Prop where
  dp : A.depth + 3 * k + 5 < recursionLimit
  un : A.units + 16 * k + 200 < cLine
theorem RoomN.mono {j k : Nat} {A : Around} (r : RoomN k A) (h : j ≤ k) : RoomN j A := ⟨by have := r.dp; omega, by have := r.un; omega⟩
theorem RoomN.deeper {k : Nat} {A : Around} (r : RoomN (k + 1) A) (env : Env) : RoomN k (A.deeper env) :=
  ⟨by have := r.dp; show A.depth + 1 + 3 * k + 5 < _; omega, by have := r.un; show A.units + 3 + 16 * k + 200 < _; omega⟩
theorem RoomN.depth {k : Nat} {A : Around} (r : RoomN k A) : A.depth < recursionLimit := by have := r.dp; omega
theorem RoomN.units {k : Nat} {A : Around} (r : RoomN k A) : A.units + 64 < cLine := by have := r.un; omega
theorem Room.n {k : Nat} {A : Around} {v : Option Value} (r : Room k A) : RoomN k (A.mark v) := ⟨r.dp, r.un⟩
structure FnOkN (P : Program) (w : World) (K : PySem.W.Frag) (mg : Str → Option Value) (base : Heap) (k : Nat) (f : Addr) (fd : FuncData) (ps : List Str) (sp : Sp) : Prop where
  len : ∀ vs H Q E, sp vs H Q E → vs.length = ps.length
  run : ∀ (A : Around) (outer : List Env) (s : Shared) (H : Hp) (args : Args) (us : List Value) (vs : List V) (Q : VK) (E : XK), RoomN k A → Env0 P w K mg base A outer s H → BindsTo s fd args (ps.zip us) → Vals vs us → sp vs H Q E →
    codeAny (model P w) A (.call (.ref f) args) (CR CX0 outer P w H s Q E) s
abbrev cxN (P : Program) (w : World) (K : PySem.W.Frag) (mg : Str → Option Value) (base : Heap) (N : List Str) (qual : Str) (scope : Scope) (f : Addr) (cd : Value) (A : Around) (outer : List Env) (s : Shared) (H : Hp) (E : XK) : Cx :=
  { cxOf CX0 P w K mg base N qual scope f cd A outer s H E with calm := false, xe := fun _ _ => False }
section
variable {P : Program} {w : World} {K : PySem.W.Frag} {mg : Str → Option Value} {base : Heap}
theorem inv_startN {N ps : List Str} {qual : Str} {scope : Scope} {f : Addr} {cd : Value} {A : Around} {outer : List Env} {s s1 : Shared} {H : Hp} {E : XK} {us : List Value} {vs : List V}
    (S : FnScope N ps scope) (e0 : Env0 P w K mg base A outer s H) (hl : vs.length = ps.length) (r : Vals vs us)
    (x : InCallC s s.heap.objs.size (bindL (envOfC qual scope s.heap.objs.size f cd).kindOf (ps.zip us) fun _ => none) (cellsFrom (s.heap.objs.size + 1) scope.names []) (bindC (envOfC qual scope s.heap.objs.size f cd).kindOf (ps.zip us) fun _ => none) s1) :
    Inv (cxN P w K mg base N qual scope f cd A outer s H E) [] (start N vs) H s1 := by
  have e1 : Env0 P w K mg base ({ A with handled := none }) outer s H := ⟨e0.frames, e0.mod, e0.bs, e0.bsz, e0.funs, e0.frf, e0.hok, e0.bare⟩
  have I := inv_start (CX := CX0) (E := E) (A := { A with handled := none }) (cd := cd) (f := f) (qual := qual) S rfl e1 hl r x
  exact ⟨⟨I.ok.mod, I.ok.kind, I.ok.glob, I.ok.blt, I.ok.above, I.ok.inj, I.ok.has, I.ok.cab, fun z => Bool.noConfusion z, Around.frames_deeper e0.frames, I.ok.stk, I.ok.exf, I.ok.bs, I.ok.bsz, I.ok.noex, I.ok.exfs, I.ok.funs, I.ok.frf⟩, I.os, I.bare, I.base, I.loc, I.cell, I.free, I.freeC, I.pin, I.hok, I.len⟩
theorem Fun.okN {x qual : Str} {st : Stmt} {f : Addr} {fd : FuncData} {N ps : List Str} {k : Nat} {sp : Sp} (F : Fun K x qual st f fd) (S : FnScope N ps (defScope st)) (len : ∀ vs H Q E, sp vs H Q E → vs.length = ps.length)
    (hbody : ∀ (cdv : Value) (A : Around) (outer : List Env) (s : Shared) (H : Hp) (vs : List V) (Q : VK) (E : XK), RoomN k (A.deeper (envOfC qual (defScope st) s.heap.objs.size f cdv)) → sp vs H Q E →
      ∃ t, PSs (cxN P w K mg base N qual (defScope st) f cdv A outer s H E) (defBody st) t ∧ t { nx := fun _ H' => Q .non H', rt := Q } (start N vs) H) : FnOkN P w K mg base (k + 1) f fd ps sp := by
  obtain ⟨oc, od, kV, doc, pm, an, cdv, ct, osl, rfl, lk, hcd⟩ := F.ex
  refine ⟨len, fun A outer s H args us vs Q E hr e0 hb r hsp => ?_⟩
  have hl := len _ _ _ _ hsp
  have KX : K.In s.heap := e0.mod.kin.keeps fun b o e => (e0.bs b o e).1
  have lim : s.heap.NoLimit := e0.mod.nolimit.keeps fun b o e => (e0.bs b o e).1
  have hkind : ∀ y ∈ ps.zip us, (defScope st).names.lookup y.1 = some .local ∨ ((defScope st).names.lookup y.1 = some .cell ∧ ((cellsFrom (s.heap.objs.size + 1) (defScope st).names []).lookup y.1).isSome = true) := fun ⟨n, v⟩ hy => by
    rcases S.par n (List.of_mem_zip hy).1 with q | q
    · exact .inl q
    · exact .inr ⟨q, PySem.W.cellsFrom_some _ _ _ (.inl q)⟩
  refine codeAny_call_function hr.depth (KX _ _ lk) rfl S.co S.gen rfl (PySem.W.codeRec_of KX hcd) (hb _ _ _ _ ?_)
  refine wpAny_newFunctionEnv_cells S.kind hkind fun env he s1 x => ?_
  subst he
  refine ⟨lim.keeps x.toInCall.keep, codeAny_func ?_⟩
  obtain ⟨t, ht, hq⟩ := hbody cdv A outer s H vs Q E (hr.deeper _) hsp
  have I : Inv (cxN P w K mg base N qual (defScope st) f cdv A outer s H E) [] (start N vs) H s1 := inv_startN S e0 hl r x
  refine wpAny_mono (ht [] s1 (start N vs) H _ I hq) (fun fl s' hs => ?_) fun e s' hs => hs.elim
  have fin : ∀ {σ' : St} {H' : Hp} {v : V} {u : Value}, Inv (cxN P w K mg base N qual (defScope st) f cdv A outer s H E) [] σ' H' s' → RelV v u → Q v H' → CE outer P w H s Q u s' :=
    fun {σ' H' v u} J rv q => ⟨v, H', J.os, J.bare, J.base, J.hok, rv, q⟩
  cases fl with
  | ret u =>
    obtain ⟨v, σ', H', J, rv, q⟩ := hs
    exact fin J rv q
  | next =>
    obtain ⟨σ', H', J, q⟩ := hs
    exact fin (v := V.non) (u := Value.none) J rfl q
  | brk =>
    obtain ⟨_, _, _, q⟩ := hs
    exact False.elim q
  | cont =>
    obtain ⟨_, _, _, q⟩ := hs
    exact False.elim q
end
structure HasN (P : Program) (w : World) (K : PySem.W.Frag) (mg : Str → Option Value) (base : Heap) (x : Str) (ps : List Str) (k : Nat) (sp : Sp) : Prop where
  ex : ∃ (f : Addr) (fd : FuncData), mg x = some (.ref f) ∧ PySem.W.keepIn K (.ref f) = true ∧ Binds K fd ps [] ∧ FnOkN P w K mg base k f fd ps sp
section
variable {X : Cx} {x : Str} {ps : List Str} {j k : Nat} {sp : Sp} {p pos : Pos} {e : Expr} {es : List Expr} {t : TA}
theorem boot_ValueErrorT : bootBuiltins "ValueError" = some (.type "ValueError") := by decide +kernel
theorem pe_callN (h : HasN X.prog X.w X.K X.mg X.base x ps j sp) (hr : RoomN k X.A) (hg : Gl X x) (ha : PA X (e :: es) t) (hk : j ≤ k := by decide) (hdb : (x == ("__debug__" : Str)) = false := by decide)
    (he : starEach (e :: es) X.env = (false, eval e X.env) :: starEach es X.env := by rfl) (hpl : (backTo pos (starEach es X.env)).any (·.1) = false := by rfl) : PE X (.Call (.Name x p) (e :: es) [] pos) (tCall sp [] E0 t) := by
  intro pins s σ H Q I h1
  obtain ⟨f, fd, hm, hkp, hb, F⟩ := h.ex
  refine wpAny_Call_Name_kw (ld_glob I hg hm ?_ hdb)
  refine PySem.W.callWith_K (h₀ := X.base) I.ok.mod.kin hkp (thn (ha pos pins s σ H _ I h1) fun us s1 ⟨vs, H1, I1, r, q⟩ => ⟨I1.kIn, ?_⟩) he hpl
  have q' : sp vs H1 Q E0 := by have : sp (vs ++ []) H1 Q E0 := q; rwa [List.append_nil] at this
  have hl : us.length = ps.length := by rw [← r.length]; exact F.len _ _ _ _ q'
  have hb1 := hb s1 us I1.kIn (by rw [List.append_nil]; exact hl)
  rw [List.append_nil] at hb1
  refine wpAny_call (codeAny_mono (F.run X.A X.stack s1 H1 ⟨us, []⟩ us vs Q _ (hr.mono hk) I1.env0 hb1 r q') fun q s' hq => ?_)
  cases q with
  | error u => exact False.elim hq
  | ok fl =>
    cases fl with
    | ret u => exact I1.after hq
    | next => exact False.elim hq
    | brk => exact False.elim hq
    | cont => exact False.elim hq
end
end L2

set_option Elab.async false
set_option linter.all false
set_option maxRecDepth 100000
set_option maxHeartbeats 4000000

namespace L2
open PySem PySem.Spec PyProof.Rows
def upN (n : Nat) : List Int := (List.range n).map fun (i : Nat) => (i : Int)
theorem upN_len (n : Nat) : (upN n).length = n := by simp [upN]
theorem upN_get {n i : Nat} (h : i < n) : (upN n)[i]? = some (i : Int) := by
  unfold upN
  rw [List.getElem?_map, List.getElem?_range h]
  rfl
def tLRng (ta : TA) : TE := fun σ H Q => ta σ H fun vs H1 => ∃ n : Nat, vs = [.int (n : Int)] ∧ n ≤ 1000000 ∧ ∀ l, H1 l = none → Q (.ref l) (upd H1 l (.lst ((upN n).map V.int)))
end L2

set_option linter.all false

namespace Hb
def sumN (f : Nat → Int) : Nat → Int
  | 0 => 0
  | n + 1 => sumN f n + f n
def lsI (n : Nat) (f : Nat → Int) : List Int := (List.range n).map f
end Hb

set_option Elab.async false
set_option linter.all false
set_option maxRecDepth 100000
set_option maxHeartbeats 4000000

namespace Hb
open PySem L2
abbrev Ms := List (Int × Int)
def nd (ms : Ms) : Prop := (ms.map (·.1)).Nodup
def nz (ms : Ms) : Prop := ∀ p ∈ ms, p.2 ≠ 0
def addI (ms : Ms) (k n : Int) : Ms := if getI ms k + n = 0 then dropI ms k else putI ms k (getI ms k + n)
def plusI (ms ns : Ms) : Ms := ns.foldl (fun acc p => addI acc p.1 p.2) ms
def timesI (n : Int) (ms : Ms) : Ms := if n = 0 then [] else ms.map fun p => (p.1, n * p.2)
def cutI (ms : Ms) : Ms := ms.filter fun p => decide (p.2 ≠ 0)
def wI (ns ms : Ms) : Int := (ns.map fun p => p.2 * getI ms p.1).sum
theorem lookI_in {ms : Ms} (h : nd ms) {p : Int × Int} (hp : p ∈ ms) : lookI ms p.1 = some p.2 := by
  induction ms with
  | nil => cases hp
  | cons q ms ih =>
    rw [lookI_cons]
    unfold nd at h
    rw [List.map_cons, List.nodup_cons] at h
    rcases List.mem_cons.mp hp with rfl | hp
    · rw [if_pos rfl]
    · have : ¬ q.1 = p.1 := fun z => h.1 (by rw [z]; exact List.mem_map_of_mem (f := (·.1)) hp)
      rw [if_neg this]
      exact ih h.2 hp
def rangeI (f : Int → Int) (n : Nat) : Ms := (List.range n).map fun (i : Nat) => ((i : Int), f (i : Int))
def inK (ms : Ms) : Prop := ∀ p ∈ ms, 0 ≤ p.1 ∧ p.1 < 40
end Hb
namespace Hb
open PySem L2
theorem range_succ (f : Int → Int) (n : Nat) : rangeI f (n + 1) = rangeI f n ++ [((n : Int), f n)] := by
  unfold rangeI
  rw [List.range_succ, List.map_append]
  rfl
end Hb

set_option Elab.async false
set_option linter.all false
set_option maxRecDepth 100000
set_option maxHeartbeats 4000000

namespace L2
open PySem PySem.Spec PyProof.Rows

def compCx1 (X : Cx) (sc : Scope) (N' : List Str) (xc : Str) (C c : Addr) (s₀ : Shared) (H₀ : Hp) (fp : List Addr) : Cx where
  prog := X.prog
  w := X.w
  K := X.K
  mg := X.mg
  base := X.base
  A := X.A
  N := N'
  s₀ := s₀
  H₀ := H₀
  env := compEnvC sc ((xc, c) :: clOf X.env.cells sc.names []) C X.env
  outer := X.stack
  stack := X.stack
  ex := fp
  fn := fun x => x == xc
  calm := X.calm
  pn := []
  xe := fun _ _ => False

structure CapOk1 (X : Cx) (sc : Scope) (N' : List Str) (cap : List (Option Nat)) (xc : Str) : Prop where
  kind : sc.kind = .function
  len : cap.length = N'.length
  one : ∀ n cl, cellsFrom n sc.names cl = (xc, n) :: cl
  push : ∀ h, pushCells h sc.names = h.push { cls := .type "cell", data := .cell none }
  own : ∀ x ∈ sc.names, x.2 = NameKind.cell → x.1 = xc
  locals : ∀ x ∈ sc.names, x.2 = NameKind.local → sc.names.lookup x.1 = some NameKind.local
  free : ∀ n, (n, NameKind.free) ∈ sc.names → X.env.kindOf n = some .cell ∨ X.env.kindOf n = some .free
  slots : ∀ (i j : Nat) (x : Str), N'[i]? = some x → cap[i]? = some (some j) → x ≠ xc ∧ X.N[j]? = some x ∧ ((relabel sc X.env).names.lookup x = some .cell ∨ (relabel sc X.env).names.lookup x = some .free) ∧ Vis X.env.scope x

def capB1 (osc : Scope) (N : List Str) (sc : Scope) (N' : List Str) (cap : List (Option Nat)) (xc : Str) : Bool :=
  decide (sc.kind = .function) && decide (cap.length = N'.length) && sc.names.all (fun x => decide (x.2 = NameKind.cell → x.1 = xc)) && sc.names.all (fun x => decide (x.2 = NameKind.local → sc.names.lookup x.1 = some NameKind.local)) &&
  sc.names.all (fun x => decide (x.2 = NameKind.free → (osc.names.lookup x.1 = some .cell ∨ osc.names.lookup x.1 = some .free))) &&
  (N'.zip cap).all (fun p => match p.2 with
    | none => true
    | some j => decide (p.1 ≠ xc) && decide (N[j]? = some p.1) && decide (((sc.names.map fun (n, k) => if (k == .free && osc.kind == .function && osc.names.lookup n == some .cell) then (n, NameKind.cell) else (n, k)).lookup p.1 = some .cell) ∨
        ((sc.names.map fun (n, k) => if (k == .free && osc.kind == .function && osc.names.lookup n == some .cell) then (n, NameKind.cell) else (n, k)).lookup p.1 = some .free)) &&
      decide (osc.names.lookup p.1 = some .local ∨ osc.names.lookup p.1 = some .cell ∨ osc.names.lookup p.1 = some .free))
section
variable {X : Cx} {sc : Scope} {N' : List Str} {cap : List (Option Nat)} {xc : Str} {pins : List (Addr × Obj)} {σ : St} {H : Hp} {s : Shared} {C c : Addr} {fp : List Addr}
theorem CapOk1.cells (o : CapOk1 X sc N' cap xc) (ok : X.Ok) : ∀ n, (n, NameKind.free) ∈ sc.names → ∃ c, X.env.cells.lookup n = some c := fun n hn => ok.has n (o.free n hn)
end
section
variable {X : Cx} {sc : Scope} {N' : List Str} {cap : List (Option Nat)} {xc : Str} {tg elt iter : Expr} {ifs : List Expr} {pos : Pos} {g : TG} {tc : TT} {te : TE}
end
end L2

set_option Elab.async false
set_option linter.all false
set_option maxRecDepth 100000
set_option maxHeartbeats 4000000

namespace Hb
open PySem L2
section
variable {H H1 : Hp} {a : Addr} {ms : Ms} {k v : Int}
theorem dget_at (rd : Rd H a (.dK (cK ms))) (h : lookI ms k = some v) : DGet H a (.int k) (some (.int v)) := .inl ⟨cK ms, .inl k, rd, rfl, by rw [cK_val, h]; rfl⟩
theorem cK_len : (cK ms).length = ms.length := by unfold cK; rw [List.length_map]
end
structure okC (ms : Ms) : Prop where
  nd : nd ms
  nz : nz ms
  ik : inK ms
  bd : ∀ p ∈ ms, p.2.natAbs < 2 ^ 70
  len : ms.length ≤ 200
def newC (H : Hp) (ms : Ms) (Q : V → Hp → Prop) : Prop := ∀ (D : Addr) (H' : Hp), H D = none → Same H H' → H' D = some (.dK (cK ms)) → Q (.ref D) H'
section
variable (K : PySem.W.Frag)
def sp_lawB : Sp := fun vs H Q _ => ∃ (a : Addr) (ns : List Int), vs = [.ref a] ∧ SqL K H a (ns.map V.int) ∧ ns.length ≤ 63 ∧ (∀ x ∈ ns, x.natAbs < 2 ^ cellBits) ∧ ∀ H', Q (.bl true) H'
def sp_add_at (_K : PySem.W.Frag) : Sp := fun vs H Q _ => ∃ (a : Addr) (ms : Ms) (k n : Int), vs = [.ref a, .int k, .int n] ∧ H a = some (.dK (cK ms)) ∧ ms.length ≤ 1000000 ∧ Q .non (upd H a (.dK (cK (addI ms k n))))
def sp_plus (_K : PySem.W.Frag) : Sp := fun vs H Q _ => ∃ (a b : Addr) (ms ns : Ms), vs = [.ref a, .ref b] ∧ Rd H a (.dK (cK ms)) ∧ H b = some (.dK (cK ns)) ∧ ms.length ≤ 1000 ∧ ns.length ≤ 1000 ∧ newC H (plusI ms ns) Q
def sp_times (_K : PySem.W.Frag) : Sp := fun vs H Q _ => ∃ (n : Int) (a : Addr) (ms : Ms), vs = [.int n, .ref a] ∧ H a = some (.dK (cK ms)) ∧ ms.length ≤ 1000 ∧ (∀ p ∈ ms, IntMulOk n p.2) ∧ newC H (timesI n ms) Q
def sp_weigh (_K : PySem.W.Frag) : Sp := fun vs H Q _ => ∃ (a b : Addr) (ms ns : Ms), vs = [.ref a, .ref b] ∧ H a = some (.dK (cK ms)) ∧ Rd H b (.dK (cK ns)) ∧ a ≠ b ∧ ms.length ≤ 1000 ∧ (∀ p ∈ ms, IntMulOk p.2 (getI ns p.1)) ∧ ∀ H', Same H H' → Q (.int (wI ms ns)) H'
def sp_L_number_by (_K : PySem.W.Frag) : Sp := fun vs H Q _ => ∃ c : Int, vs = [.int c] ∧ ∀ v : Int, v.natAbs < 2 ^ 70 → Q (.int v) H
def sp_L_chain_like (_K : PySem.W.Frag) : Sp := fun vs H Q _ => ∃ (a b : Addr) (ms ns : Ms), vs = [.ref a, .ref b] ∧ H a = some (.dK (cK ms)) ∧ Rd H b (.dK (cK ns)) ∧ a ≠ b ∧ sameC ms ns = true ∧ ∀ H', Same H H' → Q (.bl true) H'
def sp_L_without_noughts (_K : PySem.W.Frag) : Sp := fun vs H Q _ => ∃ (a : Addr) (ms : Ms), vs = [.ref a] ∧ H a = some (.dK (cK ms)) ∧ ms.length ≤ 1000 ∧ newC H (cutI ms) Q
def sp_L_dict_by : Sp := fun vs H Q _ => ∃ (l : Addr) (ns : List Int), vs = [.ref l] ∧ SqL K H l (ns.map V.int) ∧ ns.length ≤ 63 ∧ ∀ (D : Addr) (H' : Hp) (ms : Ms), okC ms → ms.length ≤ 63 → H D = none → Same H H' → H' D = some (.dK (cK ms)) → Q (.ref D) H'
def sp_L_sum_by (_K : PySem.W.Frag) : Sp := fun vs H Q _ => ∃ (a b : Addr) (ms ns : Ms), vs = [.ref a, .ref b] ∧ Rd H a (.dK (cK ms)) ∧ Rd H b (.dK (cK ns)) ∧ newC H (cutI (rangeI (fun k => getI ms k + getI ns k) 40)) Q
def sp_L_times_by (_K : PySem.W.Frag) : Sp := fun vs H Q _ => ∃ (n : Int) (a : Addr) (ms : Ms), vs = [.int n, .ref a] ∧ H a = some (.dK (cK ms)) ∧ ms.length ≤ 1000 ∧ nd ms ∧ (∀ p ∈ ms, IntMulOk n p.2) ∧ newC H (cutI (ms.map fun p => (p.1, n * p.2))) Q
end
end Hb

set_option Elab.async false
set_option linter.all false
set_option maxRecDepth 100000
set_option maxHeartbeats 4000000

namespace Hb
open PySem L2
def atK (ks : List Int) (j : Int) : Int := ks.getD j.toNat 0
def ren (ks : List Int) (f : Int) : Int := (ks.findIdx (· == f) : Nat)
theorem ren_at {ks : List Int} {f : Int} (h : f ∈ ks) : atK ks (ren ks f) = f ∧ 0 ≤ ren ks f ∧ ren ks f < (ks.length : Int) := by
  unfold atK ren
  have hl : ks.findIdx (· == f) < ks.length := List.findIdx_lt_length_of_exists ⟨f, h, by simp⟩
  have h1 := List.findIdx_getElem (xs := ks) (p := (· == f)) (w := hl)
  refine ⟨?_, by omega, by omega⟩
  rw [Int.toNat_natCast, List.getD_eq_getElem?_getD, List.getElem?_eq_getElem hl]
  simpa using h1
theorem atK_mem {ks : List Int} {j : Int} (h0 : 0 ≤ j) (h1 : j < (ks.length : Int)) : atK ks j ∈ ks := getD_mem_of (by omega)
theorem atK_inj {ks : List Int} (h : ks.Nodup) {i j : Int} (i0 : 0 ≤ i) (i1 : i < (ks.length : Int)) (j0 : 0 ≤ j) (j1 : j < (ks.length : Int)) (e : atK ks i = atK ks j) : i = j := by
  unfold atK at e
  rw [List.getD_eq_getElem?_getD, List.getElem?_eq_getElem (show i.toNat < ks.length by omega), List.getD_eq_getElem?_getD, List.getElem?_eq_getElem (show j.toNat < ks.length by omega)] at e
  have : i.toNat = j.toNat := (List.getElem_inj h).mp (by simpa using e)
  omega
theorem ren_of {ks : List Int} (h : ks.Nodup) {i : Int} (h0 : 0 ≤ i) (h1 : i < (ks.length : Int)) : ren ks (atK ks i) = i := by
  obtain ⟨e, a, b⟩ := ren_at (atK_mem h0 h1)
  exact atK_inj h a b h0 h1 e
def sub (xs : List (List Int)) (ks : List Int) : List (List Int) := ks.map fun k => (xs.getD k.toNat []).map (ren ks)
theorem sub_len (xs : List (List Int)) (ks : List Int) : (sub xs ks).length = ks.length := List.length_map ..
theorem sub_at {xs : List (List Int)} {ks : List Int} {m : Nat} (h : m < ks.length) : (sub xs ks).getD m [] = (xs.getD (ks.getD m 0).toNat []).map (ren ks) := by
  unfold sub
  rw [List.getD_eq_getElem?_getD, List.getElem?_map, List.getElem?_eq_getElem h, List.getD_eq_getElem?_getD (l := ks), List.getElem?_eq_getElem h]
  rfl
def Clo (xs : List (List Int)) (ks : List Int) : Prop := ∀ k ∈ ks, ∀ f ∈ xs.getD k.toNat [], f ∈ ks
def holdR (xs : List (List Int)) (ks : List Int) (f : Int) : List Int := ks.flatMap fun k => List.replicate (cntI (xs.getD k.toNat []) f) k
theorem cnt_sub {ks x : List Int} (hn : ks.Nodup) (hx : ∀ f ∈ x, f ∈ ks) {i : Int} (i0 : 0 ≤ i) (i1 : i < (ks.length : Int)) : cntI (x.map (ren ks)) i = cntI x (atK ks i) := by
  unfold cntI
  rw [List.countP_map]
  apply List.countP_congr
  intro f hf
  obtain ⟨e, a, b⟩ := ren_at (hx f hf)
  show decide (ren ks f = i) = true ↔ decide (f = atK ks i) = true
  rw [decide_eq_true_iff, decide_eq_true_iff]
  constructor
  · intro z; rw [← z]; exact e.symm
  · intro z; rw [z]; exact ren_of hn i0 i1
theorem hold_sub {xs : List (List Int)} {ks : List Int} (hn : ks.Nodup) (hc : Clo xs ks) {i : Int} (i0 : 0 ≤ i) (i1 : i < (ks.length : Int)) : (hold (sub xs ks) i).map (atK ks) = holdR xs ks (atK ks i) := by
  have go : ∀ m, m ≤ ks.length → (holdN (sub xs ks) i m).map (atK ks) = (ks.take m).flatMap fun k => List.replicate (cntI (xs.getD k.toNat []) (atK ks i)) k := by
    intro m
    induction m with
    | zero => intro _; rfl
    | succ m ih =>
      intro hm
      have hm' : m < ks.length := by omega
      have hk : ks.getD m 0 = ks[m] := by rw [List.getD_eq_getElem?_getD, List.getElem?_eq_getElem hm']; rfl
      show (holdN (sub xs ks) i m ++ List.replicate (cntI ((sub xs ks).getD m []) i) (m : Int)).map (atK ks) = _
      rw [List.map_append, ih (by omega), List.take_succ, List.getElem?_eq_getElem hm', List.flatMap_append, sub_at hm', List.map_replicate, hk, cnt_sub hn (hc _ (List.getElem_mem hm')) i0 i1]
      congr 1
      show _ = List.flatMap _ [ks[m]]
      rw [List.flatMap_singleton]
      show List.replicate _ (ks.getD ((m : Int)).toNat 0) = _
      rw [Int.toNat_natCast, hk]
  have := go ks.length (Nat.le_refl _)
  rw [List.take_length] at this
  unfold hold
  rw [sub_len]
  exact this
theorem hold_rng {ys : List (List Int)} {f j : Int} (h : j ∈ hold ys f) : 0 ≤ j ∧ j < (ys.length : Int) := by
  have go : ∀ m, j ∈ holdN ys f m → 0 ≤ j ∧ j < (m : Int) := by
    intro m
    induction m with
    | zero => intro z; cases z
    | succ m ih =>
      intro z
      rcases List.mem_append.mp (show j ∈ holdN ys f m ++ List.replicate _ (m : Int) from z) with z | z
      · have := ih z; omega
      · have := List.eq_of_mem_replicate z; omega
  exact go _ h
theorem mem_holdR {xs : List (List Int)} {ks : List Int} {p f : Int} (hp : p ∈ ks) (hf : f ∈ xs.getD p.toNat []) : p ∈ holdR xs ks f := by
  refine List.mem_flatMap.mpr ⟨p, hp, ?_⟩
  rw [List.mem_replicate]
  refine ⟨?_, rfl⟩
  have : 0 < cntI (xs.getD p.toNat []) f := List.countP_pos_iff.mpr ⟨f, hf, by simp⟩
  omega
theorem holdR_mem {xs : List (List Int)} {ks : List Int} {p f : Int} (h : p ∈ holdR xs ks f) : p ∈ ks := by
  obtain ⟨k, hk, z⟩ := List.mem_flatMap.mp h
  rw [List.eq_of_mem_replicate z]
  exact hk
def goodR (xs : List (List Int)) (ks : List Int) (k : Int) : Bool := decide ((holdR xs ks k).length = 1) && decide ((holdR xs ks ((holdR xs ks k).getD 0 0)).length = 0)
def pairR (xs : List (List Int)) (ks : List Int) (k : Int) : List Int := [k, (holdR xs ks k).getD 0 0]
def bentR (xs : List (List Int)) (ks : List Int) : List (List Int) := (ks.filter (goodR xs ks)).map (pairR xs ks)
theorem bent_sub {xs : List (List Int)} {ks : List Int} (hn : ks.Nodup) (hc : Clo xs ks) : (bentP (sub xs ks)).map (fun p => p.map (atK ks)) = bentR xs ks := by
  have go : ∀ m, m ≤ ks.length → (bentN (sub xs ks) m).map (fun p => p.map (atK ks)) = ((ks.take m).filter (goodR xs ks)).map (pairR xs ks) := by
    intro m
    induction m with
    | zero => intro _; rfl
    | succ m ih =>
      intro hm
      have hm' : m < ks.length := by omega
      have hk : atK ks (m : Int) = ks[m] := by unfold atK; rw [Int.toNat_natCast, List.getD_eq_getElem?_getD, List.getElem?_eq_getElem hm']; rfl
      have h1 := hold_sub hn hc (i := (m : Int)) (by omega) (by omega)
      rw [hk] at h1
      have l1 : (holdR xs ks ks[m]).length = (hold (sub xs ks) (m : Int)).length := by rw [← h1, List.length_map]
      rw [List.take_succ, List.getElem?_eq_getElem hm', List.filter_append, List.map_append, ← ih (by omega)]
      show List.map _ (if (hold (sub xs ks) (m : Int)).length = 1 ∧ (hold (sub xs ks) ((hold (sub xs ks) (m : Int)).getD 0 0)).length = 0 then bentN (sub xs ks) m ++ [[(m : Int), (hold (sub xs ks) (m : Int)).getD 0 0]] else bentN (sub xs ks) m) = _ ++ List.map _ (List.filter _ [ks[m]])
      have hr : ∀ j ∈ hold (sub xs ks) (m : Int), 0 ≤ j ∧ j < (ks.length : Int) := fun j hj => by have := hold_rng hj; rwa [sub_len] at this
      generalize hold (sub xs ks) (m : Int) = hs at h1 l1 hr
      by_cases e1 : hs.length = 1
      · obtain ⟨h0, rfl⟩ : ∃ h0, hs = [h0] := by
          match hs, e1 with
          | [h0], _ => exact ⟨h0, rfl⟩
        obtain ⟨r0, r1⟩ := hr h0 (by simp)
        have h2 := hold_sub hn hc (i := h0) r0 r1
        have e3 : (holdR xs ks ks[m]).getD 0 0 = atK ks h0 := by rw [← h1]; rfl
        have l2 : (holdR xs ks (atK ks h0)).length = (hold (sub xs ks) h0).length := by rw [← h2, List.length_map]
        by_cases e2 : (hold (sub xs ks) h0).length = 0
        · have g : goodR xs ks ks[m] = true := by
            unfold goodR
            rw [e3, l2, e2, l1]
            rfl
          rw [if_pos ⟨rfl, e2⟩, List.map_append, List.filter_cons_of_pos g, List.filter_nil]
          congr 1
          show [[atK ks (m : Int), atK ks h0]] = [pairR xs ks ks[m]]
          unfold pairR
          rw [hk, e3]
        · have g : ¬ goodR xs ks ks[m] = true := by
            unfold goodR
            rw [e3, l2, decide_eq_false e2]
            simp
          rw [if_neg (fun z => e2 z.2), List.filter_cons_of_neg g, List.filter_nil, List.map_nil, List.append_nil]
      · have g : ¬ goodR xs ks ks[m] = true := by
          unfold goodR
          rw [l1, decide_eq_false e1]
          simp
        rw [if_neg (fun z => e1 z.1), List.filter_cons_of_neg g, List.filter_nil, List.map_nil, List.append_nil]
  have := go ks.length (Nat.le_refl _)
  rw [List.take_length] at this
  unfold bentP
  rw [sub_len]
  exact this

def keptF (n : Nat) (fl : Int → Bool) : List Int := (upN n).filter fl
theorem upN_pair (n : Nat) : (upN n).Pairwise (· < ·) := by
  unfold upN
  rw [List.pairwise_map]
  exact List.pairwise_lt_range.imp (fun h => by omega)
theorem upN_nodup (n : Nat) : (upN n).Nodup := (upN_pair n).imp (fun h => by omega)
theorem kept_nodup (n : Nat) (fl : Int → Bool) : (keptF n fl).Nodup := (upN_nodup n).filter _
theorem mem_upN {n : Nat} {p : Int} : p ∈ upN n ↔ 0 ≤ p ∧ p < (n : Int) := by
  unfold upN
  rw [List.mem_map]
  constructor
  · rintro ⟨i, hi, rfl⟩
    have := List.mem_range.mp hi
    omega
  · rintro ⟨a, b⟩
    exact ⟨p.toNat, List.mem_range.mpr (by omega), by omega⟩
theorem mem_kept {n : Nat} {fl : Int → Bool} {p : Int} : p ∈ keptF n fl ↔ (0 ≤ p ∧ p < (n : Int)) ∧ fl p = true := by
  unfold keptF
  rw [List.mem_filter, mem_upN]
theorem kept_len (n : Nat) (fl : Int → Bool) : (keptF n fl).length ≤ n := Nat.le_trans (List.length_filter_le ..) (by rw [upN_len]; exact Nat.le_refl _)
theorem kept_pair (n : Nat) (fl : Int → Bool) : (keptF n fl).Pairwise (· < ·) := (upN_pair n).filter _
theorem ren_lt {ks : List Int} (h : ks.Pairwise (· < ·)) {f : Int} (hf : f ∈ ks) {i : Nat} (hi : i < ks.length) (hl : f < ks.getD i 0) : ren ks f < (i : Int) := by
  obtain ⟨e, a, b⟩ := ren_at hf
  by_cases z : ren ks f < (i : Int)
  · exact z
  · exfalso
    unfold atK at e
    have hk : ks.getD i 0 = ks[i] := by rw [List.getD_eq_getElem?_getD, List.getElem?_eq_getElem hi]; rfl
    rw [List.getD_eq_getElem?_getD, List.getElem?_eq_getElem (show (ren ks f).toNat < ks.length by omega)] at e
    have e' : ks[(ren ks f).toNat]'(by omega) = f := by simpa using e
    rw [hk] at hl
    by_cases q : (ren ks f).toNat = i
    · have : ks[(ren ks f).toNat]'(by omega) = ks[i] := by congr 1
      omega
    · have := List.pairwise_iff_getElem.mp h i (ren ks f).toNat hi (by omega) (by omega)
      omega
def without (fl : Int → Bool) (p : List Int) : Int → Bool := fun q => fl q && decide (q ≠ p.getD 0 0) && decide (q ≠ p.getD 1 0)
theorem kept_without (n : Nat) (fl : Int → Bool) (p : List Int) : keptF n (without fl p) = (keptF n fl).filter fun q => decide (q ≠ p.getD 0 0) && decide (q ≠ p.getD 1 0) := by
  unfold keptF
  rw [List.filter_filter]
  apply List.filter_congr
  intro q _
  unfold without
  cases fl q <;> simp
theorem clo_without {xs : List (List Int)} {n : Nat} {fl : Int → Bool} (hc : Clo xs (keptF n fl)) {k : Int} (hg : goodR xs (keptF n fl) k = true) : Clo xs (keptF n (without fl (pairR xs (keptF n fl) k))) := by
  unfold goodR at hg
  rw [Bool.and_eq_true] at hg
  have g1 := of_decide_eq_true hg.1
  have g2 := of_decide_eq_true hg.2
  intro p hp f hf
  rw [kept_without, List.mem_filter] at hp
  obtain ⟨hp1, hp2⟩ := hp
  rw [Bool.and_eq_true] at hp2
  have n1 := of_decide_eq_true hp2.1
  have n2 := of_decide_eq_true hp2.2
  have hfk := hc p hp1 f hf
  rw [kept_without, List.mem_filter]
  refine ⟨hfk, ?_⟩
  rw [Bool.and_eq_true]
  constructor
  · refine decide_eq_true fun z => ?_
    have hm := mem_holdR hp1 hf
    rw [z] at hm
    have e : holdR xs (keptF n fl) ((pairR xs (keptF n fl) k).getD 0 0) = [(pairR xs (keptF n fl) k).getD 1 0] := by
      show holdR xs (keptF n fl) k = [(holdR xs (keptF n fl) k).getD 0 0]
      match hh : holdR xs (keptF n fl) k, g1 with
      | [a], _ => rfl
    rw [e, List.mem_singleton] at hm
    exact n2 hm
  · refine decide_eq_true fun z => ?_
    have hm := mem_holdR hp1 hf
    rw [z] at hm
    have e : holdR xs (keptF n fl) ((pairR xs (keptF n fl) k).getD 1 0) = [] := List.length_eq_zero_iff.mp g2
    rw [e] at hm
    cases hm

def restN (m : Nat) (p : List Int) : List Int := (upN m).filter fun q => decide (q ≠ p.getD 0 0) && decide (q ≠ p.getD 1 0)
theorem map_up (ks : List Int) : (upN ks.length).map (atK ks) = ks := by
  apply List.ext_getElem?
  intro i
  rw [List.getElem?_map]
  by_cases h : i < ks.length
  · rw [upN_get h, List.getElem?_eq_getElem h]
    show some (ks.getD ((i : Int)).toNat 0) = _
    rw [Int.toNat_natCast, List.getD_eq_getElem?_getD, List.getElem?_eq_getElem h]
    rfl
  · rw [List.getElem?_eq_none (by rw [upN_len]; omega), List.getElem?_eq_none (by omega)]
    rfl
theorem rest_rng {m : Nat} {p : List Int} : ∀ l ∈ restN m p, 0 ≤ l ∧ l < (m : Int) := fun l hl => mem_upN.mp (List.mem_filter.mp hl).1
theorem rest_nodup (m : Nat) (p : List Int) : (restN m p).Nodup := (upN_nodup m).filter _
theorem sub_all {xs : List (List Int)} (h : ∀ x ∈ xs, ∀ f ∈ x, 0 ≤ f ∧ f < (xs.length : Int)) : sub xs (upN xs.length) = xs := by
  unfold sub
  apply List.ext_getElem?
  intro i
  rw [List.getElem?_map]
  by_cases hi : i < xs.length
  · rw [upN_get hi, List.getElem?_eq_getElem hi]
    show some ((xs.getD ((i : Int)).toNat []).map (ren (upN xs.length))) = _
    have e : xs.getD ((i : Int)).toNat [] = xs[i] := by rw [Int.toNat_natCast, List.getD_eq_getElem?_getD, List.getElem?_eq_getElem hi]; rfl
    rw [e]
    congr 1
    conv => rhs; rw [← List.map_id xs[i]]
    apply List.map_congr_left
    intro f hf
    obtain ⟨f0, f1⟩ := h _ (List.getElem_mem hi) f hf
    have hat : atK (upN xs.length) f = f := by
      unfold atK
      rw [List.getD_eq_getElem?_getD, upN_get (show f.toNat < xs.length by omega)]
      show ((f.toNat : Nat) : Int) = f
      omega
    have := ren_of (upN_nodup xs.length) f0 (by rw [upN_len]; exact f1)
    rwa [hat] at this
  · rw [List.getElem?_eq_none (by rw [upN_len]; omega), List.getElem?_eq_none (by omega)]
    rfl

def coreF (xs : List (List Int)) (n : Nat) : Nat → (Int → Bool) → List (List Int) → (Int → Bool) × List (List Int)
  | 0, fl, acc => (fl, acc)
  | m + 1, fl, acc => match bentR xs (keptF n fl) with
    | [] => (fl, acc)
    | p :: _ => coreF xs n m (without fl p) (acc ++ [p])
theorem bentR_head {xs : List (List Int)} {ks : List Int} {p : List Int} (h : p ∈ bentR xs ks) : ∃ k, k ∈ ks ∧ goodR xs ks k = true ∧ p = pairR xs ks k ∧ p.getD 1 0 ∈ ks := by
  obtain ⟨k, hk, rfl⟩ := List.mem_map.mp h
  obtain ⟨h1, h2⟩ := List.mem_filter.mp hk
  refine ⟨k, h1, h2, rfl, ?_⟩
  unfold goodR at h2
  rw [Bool.and_eq_true] at h2
  have g1 := of_decide_eq_true h2.1
  have : (holdR xs ks k).getD 0 0 ∈ holdR xs ks k := getD_mem_of (by omega)
  exact holdR_mem this
end Hb

set_option Elab.async false
set_option linter.all false
set_option maxRecDepth 100000
set_option maxHeartbeats 4000000
namespace L2
open PySem PySem.Spec PyProof.Rows
end L2
namespace Hb
open PySem L2

def Low (xs : List (List Int)) : Prop := ∀ (i : Nat) (x : List Int), xs[i]? = some x → ∀ f ∈ x, 0 ≤ f ∧ f < (i : Int)
theorem Low.nil : Low [] := fun i x h => by simp at h
theorem Low.snoc {xs : List (List Int)} {p : List Int} (h : Low xs) (hp : ∀ f ∈ p, 0 ≤ f ∧ f < (xs.length : Int)) : Low (xs ++ [p]) := fun i x hx => by
  rw [List.getElem?_append] at hx
  split at hx
  · exact h i x hx
  · rename_i hi
    have h0 : i - xs.length = 0 := by
      cases z : i - xs.length with
      | zero => rfl
      | succ m => rw [z] at hx; simp at hx
    rw [h0] at hx
    have e : p = x := by simpa using hx
    subst e
    have ei : i = xs.length := by omega
    subst ei
    exact hp
theorem Low.rng {xs : List (List Int)} (h : Low xs) : ∀ x ∈ xs, ∀ f ∈ x, 0 ≤ f ∧ f < (xs.length : Int) := fun x hx f hf => by
  obtain ⟨i, hi⟩ := List.getElem?_of_mem hx
  have h1 := h i x hi f hf
  have := (List.getElem?_eq_some_iff.mp hi).1
  omega
theorem clo_all {xs : List (List Int)} (h : ∀ x ∈ xs, ∀ f ∈ x, 0 ≤ f ∧ f < (xs.length : Int)) : Clo xs (keptF xs.length fun _ => true) := fun k hk f hf => by
  obtain ⟨⟨k0, k1⟩, _⟩ := mem_kept.mp hk
  exact mem_kept.mpr ⟨h _ (getD_mem_of (show k.toNat < xs.length by omega)) f hf, rfl⟩
theorem kept_all (n : Nat) : keptF n (fun _ => true) = upN n := by unfold keptF; exact List.filter_eq_self.mpr fun _ _ => rfl
def zipK (ks : List Int) : Ms := (List.range ks.length).map fun i => (ks.getD i 0, (i : Int))
theorem zipK_keys (ks : List Int) : (zipK ks).map (·.1) = ks := by
  unfold zipK
  rw [List.map_map]
  have := map_up ks
  unfold upN at this
  rw [List.map_map] at this
  conv => rhs; rw [← this]
  apply List.map_congr_left
  intro i _
  show ks.getD i 0 = ks.getD ((i : Int)).toNat 0
  rw [Int.toNat_natCast]
theorem zipK_nd {ks : List Int} (h : ks.Nodup) : nd (zipK ks) := by
  unfold nd
  rw [zipK_keys]
  exact h
theorem zipK_len (ks : List Int) : (zipK ks).length = ks.length := by simp [zipK]
theorem zipK_get {ks : List Int} {i : Nat} (h : i < ks.length) : (zipK ks)[i]? = some (ks.getD i 0, (i : Int)) := by
  unfold zipK
  rw [List.getElem?_map, List.getElem?_range h]
  rfl
theorem zipK_look {ks : List Int} (h : ks.Nodup) {f : Int} (hf : f ∈ ks) : lookI (zipK ks) f = some (ren ks f) := by
  obtain ⟨e, a, b⟩ := ren_at hf
  have hm : (f, ren ks f) ∈ zipK ks := by
    have hg := zipK_get (ks := ks) (i := (ren ks f).toNat) (by omega)
    have e2 : ks.getD (ren ks f).toNat 0 = f := e
    rw [e2, show (((ren ks f).toNat : Nat) : Int) = ren ks f by omega] at hg
    exact List.mem_of_getElem? hg
  exact lookI_in (zipK_nd h) hm
theorem in_bent {ys : List (List Int)} (p : List Int) : ((bentP ys).map tI).any (fun e => eqD e (tI p)) = decide (p ∈ bentP ys) := any_tI p _
theorem bentP_rng {ys : List (List Int)} {p : List Int} (h : p ∈ bentP ys) : ∃ i j, p = [i, j] ∧ 0 ≤ i ∧ i < (ys.length : Int) ∧ 0 ≤ j ∧ j < (ys.length : Int) := by
  have go : ∀ m, m ≤ ys.length → p ∈ bentN ys m → ∃ i j, p = [i, j] ∧ 0 ≤ i ∧ i < (ys.length : Int) ∧ 0 ≤ j ∧ j < (ys.length : Int) := by
    intro m
    induction m with
    | zero => intro _ z; cases z
    | succ m ih =>
      intro hm z
      unfold bentN at z
      split at z
      · rename_i hc
        rcases List.mem_append.mp z with z | z
        · exact ih (by omega) z
        · rw [List.mem_singleton] at z
          have hj := hold_rng (getD_mem_of (d := 0) (show 0 < (hold ys (m : Int)).length by omega))
          exact ⟨_, _, z, by omega, by omega, hj.1, hj.2⟩
      · exact ih (by omega) z
  exact go _ (Nat.le_refl _) h
def flV (n : Nat) (fl : Int → Bool) : List V := (upN n).map fun p => V.bl (fl p)
theorem flV_at {n : Nat} {fl : Int → Bool} {p : Int} (h0 : 0 ≤ p) (h1 : p < (n : Int)) : atI (flV n fl) p = some (.bl (fl p)) := by
  obtain ⟨j, rfl⟩ := Int.eq_ofNat_of_zero_le h0
  refine atI_nat ?_
  unfold flV
  rw [List.getElem?_map, upN_get (show j < n by omega)]
  rfl
theorem holdR_len {xs : List (List Int)} (h4 : ∀ x ∈ xs, x.length ≤ 4) {f : Int} : ∀ ks : List Int, (holdR xs ks f).length ≤ 4 * ks.length
  | [] => Nat.le_refl _
  | k :: ks => by
    have ih := holdR_len h4 (f := f) ks
    have h2 := cnt_le (xs.getD k.toNat []) f
    have h3 : (xs.getD k.toNat []).length ≤ 4 := by
      by_cases h : k.toNat < xs.length
      · exact h4 _ (getD_mem_of h)
      · rw [List.getD_eq_getElem?_getD, List.getElem?_eq_none (by omega)]; exact Nat.zero_le _
    unfold holdR at ih ⊢
    rw [List.flatMap_cons, List.length_append, List.length_replicate, List.length_cons]
    omega
theorem holdR_snoc (xs : List (List Int)) (ks : List Int) (k f : Int) : holdR xs (ks ++ [k]) f = holdR xs ks f ++ List.replicate (cntI (xs.getD k.toNat []) f) k := by
  unfold holdR
  rw [List.flatMap_append, List.flatMap_singleton]
theorem upN_succ (n : Nat) : upN (n + 1) = upN n ++ [(n : Int)] := by
  unfold upN
  rw [List.range_succ, List.map_append]
  rfl
theorem keptF_succ (n : Nat) (fl : Int → Bool) : keptF (n + 1) fl = keptF n fl ++ (if fl (n : Int) = true then [(n : Int)] else []) := by
  unfold keptF
  rw [upN_succ, List.filter_append]
  congr 1
  by_cases h : fl (n : Int) = true
  · rw [if_pos h, List.filter_cons_of_pos h, List.filter_nil]
  · rw [if_neg h, List.filter_cons_of_neg h, List.filter_nil]
theorem bentR_flags (xs : List (List Int)) (n : Nat) (fl : Int → Bool) (ks : List Int) : ((upN n).filter fun p => fl p && goodR xs ks p) = (keptF n fl).filter (goodR xs ks) := by
  unfold keptF
  rw [List.filter_filter]
  apply List.filter_congr
  intro q _
  cases fl q <;> simp
theorem as_inj {as : List Addr} (h : as.Nodup) {i j : Nat} {b : Addr} (hi : as[i]? = some b) (hj : as[j]? = some b) : i = j := by
  obtain ⟨li, ei⟩ := List.getElem?_eq_some_iff.mp hi
  obtain ⟨lj, ej⟩ := List.getElem?_eq_some_iff.mp hj
  exact (List.getElem_inj h).mp (ei.trans ej.symm)
theorem at_refs {as : List Addr} {x : Int} (h0 : 0 ≤ x) (h1 : x < (as.length : Int)) : ∃ b, as[x.toNat]? = some b ∧ atI (as.map V.ref) x = some (.ref b) := by
  obtain ⟨j, rfl⟩ := Int.eq_ofNat_of_zero_le h0
  have hj : j < as.length := by omega
  refine ⟨as[j], by rw [Int.toNat_natCast]; exact List.getElem?_eq_getElem hj, atI_nat ?_⟩
  rw [List.getElem?_map, List.getElem?_eq_getElem hj]
  rfl
section
variable (K : PySem.W.Frag)
def sp_fitsL : Sp := fun vs H Q _ => ∃ (a : Addr) (v : V) (xs : List (List Int)) (p : List Int), vs = [.ref a, v] ∧ LT K H (.ref a) xs ∧ TI K H v p ∧ CntOk xs ∧ xs.length ≤ 1000 ∧
  ∀ (c : Bool) (H' : Hp), Same H H' → (c = true → (p.length = 0 ∨ p.length = 2 ∨ p.length = 3 ∨ p.length = 4) ∧ ∀ f ∈ p, 0 ≤ f ∧ f < (xs.length : Int)) → Q (.bl c) H'
def sp_builtL : Sp := fun vs H Q _ => ∃ (c : Addr) (ns : List Int) (kind most : Int), vs = [.int kind, .ref c, .int most] ∧ SqL K H c (ns.map V.int) ∧ ns.length ≤ 63 ∧ 0 ≤ most ∧ most ≤ 40 ∧
  ∀ (p : Addr) (us : List V) (xs : List (List Int)) (H' : Hp), H p = none → Same H H' → H' p = some (.lst us) → Reps K H' us (xs.map tI) → CntOk xs → Low xs → xs.length ≤ 63 → Q (.ref p) H'
def sp_spots_of : Sp := fun vs H Q _ => ∃ (b : Addr) (ks : List Int), vs = [.ref b] ∧ SqL K H b (ks.map V.int) ∧ ks.Nodup ∧ ks.length ≤ 1000 ∧ newC H (zipK ks) Q
def sp_calledD : Sp := fun vs H Q _ => ∃ (b : Addr) (v : V) (ms : Ms) (fs : List Int) (g : Int → Int), vs = [.ref b, v] ∧ H b = some (.dK (cK ms)) ∧ TI K H v fs ∧ fs.length ≤ 1000 ∧ (∀ x ∈ fs, lookI ms x = some (g x)) ∧
  ∀ (w : V) (H' : Hp), Same H H' → TI K H' w (fs.map g) → Q w H'
def sp_left_with : Sp := fun vs H Q _ => ∃ (a b : Addr) (ys : List (List Int)) (ls : List Int), vs = [.ref a, .ref b] ∧ LT K H (.ref a) ys ∧ SqL K H b (ls.map V.int) ∧ ls.Nodup ∧ (∀ l ∈ ls, 0 ≤ l ∧ l < (ys.length : Int)) ∧ Clo ys ls ∧ ls.length ≤ 1000 ∧ (∀ x ∈ ys, x.length ≤ 4) ∧
  ∀ (D : Addr) (us : List V) (H' : Hp), H D = none → Same H H' → H' D = some (.lst us) → Reps K H' us ((sub ys ls).map tI) → Q (.ref D) H'
def sp_is_bent : Sp := fun vs H Q _ => ∃ (a : Addr) (v : V) (ys : List (List Int)) (p : List Int), vs = [.ref a, v] ∧ LT K H (.ref a) ys ∧ ys.length ≤ 1000 ∧ (∀ x ∈ ys, x.length ≤ 4) ∧ TI K H v p ∧ p.length ≤ 1000 ∧ ∀ H', Same H H' → Q (.bl (decide (p ∈ bentP ys))) H'
def sp_away : Sp := fun vs H Q _ => ∃ (a : Addr) (v : V) (ys : List (List Int)) (i j : Int), vs = [.ref a, v] ∧ LT K H (.ref a) ys ∧ ys.length ≤ 1000 ∧ (∀ x ∈ ys, x.length ≤ 4) ∧ TI K H v [i, j] ∧ [i, j] ∈ bentP ys ∧ Clo ys (restN ys.length [i, j]) ∧
  ∀ (R L P : Addr) (us : List V) (H' : Hp), Same H H' → H L = none → H P = none → H' R = some (.tup [.ref L, .ref P]) → H' L = some (.lst us) → Reps K H' us ((sub ys (restN ys.length [i, j])).map tI) → H' P = some (.lst ((restN ys.length [i, j]).map V.int)) → Q (.ref R) H'
def sp_core : Sp := fun vs H Q _ => ∃ (a : Addr) (xs : List (List Int)), vs = [.ref a] ∧ LT K H (.ref a) xs ∧ xs.length ≤ 1000 ∧ (∀ x ∈ xs, x.length ≤ 4) ∧ (∀ x ∈ xs, ∀ f ∈ x, 0 ≤ f ∧ f < (xs.length : Int)) ∧
  ∀ (R L P M : Addr) (us qu : List V) (H' : Hp), Same H H' → H L = none → H P = none → H M = none → H' R = some (.tup [.ref L, .ref P, .ref M]) → H' L = some (.lst us) → Reps K H' us ((sub xs (keptF xs.length (coreF xs xs.length xs.length (fun _ => true) []).1)).map tI) →
    H' P = some (.lst ((keptF xs.length (coreF xs xs.length xs.length (fun _ => true) []).1).map V.int)) → H' M = some (.lst qu) → Reps K H' qu (((coreF xs xs.length xs.length (fun _ => true) []).2).map tI) →
    bentR xs (keptF xs.length (coreF xs xs.length xs.length (fun _ => true) []).1) = [] → Clo xs (keptF xs.length (coreF xs xs.length xs.length (fun _ => true) []).1) → (∀ p ∈ (coreF xs xs.length xs.length (fun _ => true) []).2, p.length = 2) → Q (.ref R) H'
def sp_L_bent_of : Sp := fun vs H Q _ => ∃ (a l : Addr) (xs : List (List Int)) (fl : Int → Bool), vs = [.ref a, .ref l] ∧ LT K H (.ref a) xs ∧ SqL K H l (flV xs.length fl) ∧ xs.length ≤ 1000 ∧ (∀ x ∈ xs, x.length ≤ 4) ∧ (∀ x ∈ xs, ∀ f ∈ x, 0 ≤ f ∧ f < (xs.length : Int)) ∧
  ∀ (D : Addr) (us : List V) (H' : Hp), H D = none → Same H H' → H' D = some (.lst us) → Reps K H' us ((bentR xs (keptF xs.length fl)).map tI) → Q (.ref D) H'
def sp_L_is_left : Sp := fun vs H Q _ => ∃ (L P a l : Addr) (us : List V) (xs : List (List Int)) (fl : Int → Bool), vs = [.ref L, .ref P, .ref a, .ref l] ∧ H L = some (.lst us) ∧ Reps K H us ((sub xs (keptF xs.length fl)).map tI) ∧ H P = some (.lst ((keptF xs.length fl).map V.int)) ∧ LT K H (.ref a) xs ∧ SqL K H l (flV xs.length fl) ∧
  xs.length ≤ 1000 ∧ (∀ x ∈ xs, x.length ≤ 4) ∧ Low xs ∧ Clo xs (keptF xs.length fl) ∧ ∀ H', Same H H' → Q (.bl true) H'
def sp_L_is_core : Sp := fun vs H Q _ => ∃ (R L P M a : Addr) (us qu : List V) (xs : List (List Int)), vs = [.ref R, .ref a] ∧ H R = some (.tup [.ref L, .ref P, .ref M]) ∧ H L = some (.lst us) ∧ Reps K H us ((sub xs (keptF xs.length (coreF xs xs.length xs.length (fun _ => true) []).1)).map tI) ∧
    H P = some (.lst ((keptF xs.length (coreF xs xs.length xs.length (fun _ => true) []).1).map V.int)) ∧ H M = some (.lst qu) ∧ Reps K H qu (((coreF xs xs.length xs.length (fun _ => true) []).2).map tI) ∧
  Clo xs (keptF xs.length (coreF xs xs.length xs.length (fun _ => true) []).1) ∧ (∀ p ∈ (coreF xs xs.length xs.length (fun _ => true) []).2, p.length = 2) ∧ LT K H (.ref a) xs ∧ xs.length ≤ 1000 ∧ (∀ x ∈ xs, x.length ≤ 4) ∧ Low xs ∧ ∀ H', Same H H' → Q (.bl true) H'
end
end Hb

set_option Elab.async false
set_option linter.all false
set_option maxRecDepth 100000
set_option maxHeartbeats 4000000
namespace L2
open PySem PySem.Spec PyProof.Rows

structure PEw (X : Cx) (e : Expr) (t : TE) : Prop where
  h : PE X e t
theorem pe_ixTw {X : Cx} {K : PySem.W.Frag} {sl : Expr} {es : List Expr} {k : Nat} {p q : Pos} {ta : TA} {tsl : TE} (ha : PAw X es ta) (hsl : PE X sl tsl) (hpi : PlainIx sl) (hK : X.K = K := by rfl) :
    PEw X (.Subscript (.Tuple es k p) sl q) (tOp (rIxT K) (tTup ta) tsl) := by
  subst hK
  exact ⟨pe_ix kix_tup (pe_tup ha.h) hsl hpi⟩
end L2

set_option Elab.async false
set_option linter.all false
set_option maxRecDepth 100000
set_option maxHeartbeats 4000000

namespace Hb
open PySem L2
theorem whole_int {d : L2.D} (h : wholeD d = true) : d = .int (toI d) := by
  cases d with
  | int i => rfl
  | _ => exact nomatch (show false = true from h)
theorem wholes_nums {ds : List L2.D} (h : ds.all wholeD = true) : ds = nums (ds.map toI) := by
  induction ds with
  | nil => rfl
  | cons d ds ih =>
    rw [List.all_cons, Bool.and_eq_true] at h
    show d :: ds = .int (toI d) :: nums (ds.map toI)
    rw [← whole_int h.1, ← ih h.2]
theorem nums_wholes (ns : List Int) : (nums ns).all wholeD = true := by
  rw [List.all_eq_true]
  intro d hd
  obtain ⟨n, _, rfl⟩ := List.mem_map.mp hd
  rfl
theorem toI_nums (ns : List Int) : (nums ns).map toI = ns := by
  unfold nums
  rw [List.map_map]
  exact List.map_id'' (fun _ => rfl) ns

def bentB (ys : List (List Int)) : L2.D → Bool
  | .tup ds => ds.all wholeD && decide (ds.map toI ∈ bentP ys)
  | _ => false
def tupSz : L2.D → Prop
  | .tup ds => ds.length ≤ 1000
  | _ => True
theorem bentB_tI (ys : List (List Int)) (p : List Int) : bentB ys (tI p) = decide (p ∈ bentP ys) := by
  show ((nums p).all wholeD && decide ((nums p).map toI ∈ bentP ys)) = _
  rw [nums_wholes, toI_nums, Bool.true_and]
theorem bentB_pair {ys : List (List Int)} {d : L2.D} (h : bentB ys d = true) : ∃ i j, d = tI [i, j] ∧ [i, j] ∈ bentP ys ∧ 0 ≤ i ∧ i < (ys.length : Int) ∧ 0 ≤ j ∧ j < (ys.length : Int) := by
  cases d with
  | tup ds =>
    have h' : (ds.all wholeD && decide (ds.map toI ∈ bentP ys)) = true := h
    rw [Bool.and_eq_true, decide_eq_true_eq] at h'
    obtain ⟨i, j, e, r⟩ := bentP_rng h'.2
    refine ⟨i, j, ?_, by rw [← e]; exact h'.2, r⟩
    have := wholes_nums h'.1
    rw [e] at this
    rw [this]
  | _ => exact nomatch (show false = true from h)
theorem atK_up {n : Nat} {i : Int} (h0 : 0 ≤ i) (h1 : i < (n : Int)) : atK (upN n) i = i := by
  obtain ⟨m, rfl⟩ := Int.eq_ofNat_of_zero_le h0
  unfold atK upN
  rw [Int.toNat_natCast, List.getD_eq_getElem?_getD, List.getElem?_map, List.getElem?_range (by omega)]
  rfl
theorem bentP_R {xs : List (List Int)} (hr : ∀ x ∈ xs, ∀ f ∈ x, 0 ≤ f ∧ f < (xs.length : Int)) : bentR xs (keptF xs.length fun _ => true) = bentP xs := by
  have h := bent_sub (xs := xs) (kept_nodup xs.length fun _ => true) (clo_all hr)
  rw [kept_all, sub_all hr] at h
  rw [kept_all, ← h]
  conv => rhs; rw [← List.map_id (bentP xs)]
  refine List.map_congr_left fun p hp => ?_
  obtain ⟨i, j, rfl, i0, i1, j0, j1⟩ := bentP_rng hp
  show [atK (upN xs.length) i, atK (upN xs.length) j] = [i, j]
  rw [atK_up i0 i1, atK_up j0 j1]
theorem kept_rest (n : Nat) (p : List Int) : keptF n (without (fun _ => true) p) = restN n p := by rw [kept_without, kept_all]; rfl
theorem clo_bent {xs : List (List Int)} (hr : ∀ x ∈ xs, ∀ f ∈ x, 0 ≤ f ∧ f < (xs.length : Int)) {p : List Int} (hp : p ∈ bentP xs) : Clo xs (restN xs.length p) := by
  rw [← bentP_R hr] at hp
  obtain ⟨k, hk, hg, ep, _⟩ := bentR_head hp
  have := clo_without (clo_all hr) hg
  rw [← ep, kept_rest] at this
  exact this

structure Odd (d : L2.D) : Prop where
  dp : dep d ≤ 4
  tp : ∀ ds, d = .tup ds → ds.length ≤ 3 ∧ ∀ x ∈ ds.drop 1, wholeD x = true
theorem Odd.sz {d : L2.D} (h : Odd d) : tupSz d := by
  cases d with
  | tup ds => have := (h.tp ds rfl).1; show ds.length ≤ 1000; omega
  | _ => trivial
theorem odd_tI {p : List Int} (h : p.length ≤ 3) : Odd (tI p) := by
  refine ⟨?_, fun ds e => ?_⟩
  · show deps (nums p) + 1 ≤ 4
    rw [deps_nums]
    decide
  · have e2 : ds = nums p := by
      have : L2.D.tup (nums p) = .tup ds := e
      injection this with z
      exact z.symm
    subst e2
    refine ⟨by simpa [nums] using h, fun x hx => ?_⟩
    obtain ⟨n, _, rfl⟩ := List.mem_map.mp (List.mem_of_mem_drop hx)
    rfl
theorem odd_of {d : L2.D} (h1 : dep d ≤ 4) (h2 : ∀ ds, d ≠ .tup ds) : Odd d := ⟨h1, fun ds e => absurd e (h2 ds)⟩
theorem odd_bl (b : Bool) (j : Int) : Odd (.tup [.bl b, .int j]) := by
  refine ⟨by show deps [.bl b, .int j] + 1 ≤ 4; simp [deps, dep], fun ds e => ?_⟩
  cases e
  refine ⟨by show 2 ≤ 3; decide, fun x hx => ?_⟩
  rw [List.mem_singleton.mp hx]
  rfl
theorem reps_bls {K : PySem.W.Frag} {H : Hp} : ∀ bs : List Bool, Reps K H (bs.map V.bl) (bs.map L2.D.bl)
  | [] => rfl
  | b :: bs => ⟨.bl b, bs.map V.bl, rfl, rfl, reps_bls bs⟩
theorem deps_bls : ∀ bs : List Bool, deps (bs.map L2.D.bl) = 0
  | [] => rfl
  | b :: bs => by show max (dep (.bl b)) (deps (bs.map L2.D.bl)) = 0; rw [deps_bls bs]; rfl
theorem rep_bls {K : PySem.W.Frag} {H : Hp} {a : Addr} {bs : List Bool} (h : H a = some (.lst (bs.map V.bl))) : Rep K H (.ref a) (.lst (bs.map L2.D.bl)) := ⟨a, _, rfl, .of h, reps_bls bs⟩

def markB (n : Nat) : List Bool := (List.range 16).map fun k => decide (k = 0) || decide (k = n)
def onlyB (n : Int) : List Bool := (List.range 16).map fun (k : Nat) => (nums [0, n]).any fun e => eqD e (.int (k : Int))
theorem only_mark (n : Nat) : onlyB (n : Int) = markB n := by
  unfold onlyB markB
  refine List.map_congr_left fun k _ => ?_
  simp only [nums, List.map_cons, List.map_nil, List.any_cons, List.any_nil, eqD, Bool.or_false]
  rw [Bool.eq_iff_iff]
  simp
  omega
theorem two_of {K : PySem.W.Frag} {G : Hp} {R L P : Addr} {us : List V} {ys : List (List Int)} {sp : List Int} (hR : G R = some (.tup [.ref L, .ref P])) (hL : G L = some (.lst us)) (rL : Reps K G us (ys.map tI)) (hP : G P = some (.lst (sp.map V.int))) :
    Rep K G (.ref R) (.tup [.lst (ys.map tI), .lst (nums sp)]) := ⟨R, _, rfl, .of hR, ⟨_, _, rfl, ⟨L, us, rfl, .of hL, rL⟩, ⟨_, _, rfl, ⟨P, _, rfl, .of hP, reps_nums.mpr rfl⟩, rfl⟩⟩⟩
section
variable (K : PySem.W.Frag)
def sp_is_bentD : Sp := fun vs H Q _ => ∃ (a : Addr) (v : V) (ys : List (List Int)) (d : L2.D), vs = [.ref a, v] ∧ LT K H (.ref a) ys ∧ ys.length ≤ 1000 ∧ (∀ x ∈ ys, x.length ≤ 4) ∧ Rep K H v d ∧ tupSz d ∧ ∀ H', Same H H' → Q (.bl (bentB ys d)) H'
def sp_awayX (C : Addr) : Sp := fun vs H Q E => ∃ (a : Addr) (v : V) (ys : List (List Int)) (d : L2.D), vs = [.ref a, v] ∧ LT K H (.ref a) ys ∧ ys.length ≤ 1000 ∧ (∀ x ∈ ys, x.length ≤ 4) ∧ (∀ x ∈ ys, ∀ f ∈ x, 0 ≤ f ∧ f < (ys.length : Int)) ∧ Rep K H v d ∧ tupSz d ∧
  (bentB ys d = false → ∀ H', Same H H' → E (.ref C) none H') ∧
  ∀ (i j : Int), d = tI [i, j] → bentB ys d = true → ∀ (R L P : Addr) (us : List V) (H' : Hp), Same H H' → H L = none → H P = none → H' R = some (.tup [.ref L, .ref P]) → H' L = some (.lst us) → Reps K H' us ((sub ys (restN ys.length [i, j])).map tI) → H' P = some (.lst ((restN ys.length [i, j]).map V.int)) → Q (.ref R) H'
def sp_awayOk : Sp := fun vs H Q _ => ∃ (a : Addr) (v : V) (ys : List (List Int)) (i j : Int), vs = [.ref a, v] ∧ LT K H (.ref a) ys ∧ ys.length ≤ 1000 ∧ (∀ x ∈ ys, x.length ≤ 4) ∧ (∀ x ∈ ys, ∀ f ∈ x, 0 ≤ f ∧ f < (ys.length : Int)) ∧ TI K H v [i, j] ∧ [i, j] ∈ bentP ys ∧
  ∀ (R L P : Addr) (us : List V) (H' : Hp), Same H H' → H L = none → H P = none → H' R = some (.tup [.ref L, .ref P]) → H' L = some (.lst us) → Reps K H' us ((sub ys (restN ys.length [i, j])).map tI) → H' P = some (.lst ((restN ys.length [i, j]).map V.int)) → Q (.ref R) H'
theorem away_down {K : PySem.W.Frag} {C : Addr} {vs : List V} {H : Hp} {Q : VK} {E E' : XK} (h : sp_awayOk K vs H Q E) : sp_awayX K C vs H Q E' := by
  obtain ⟨a, v, ys, i, j, e, hL, hyl, h4, hrg, hv, hb, k⟩ := h
  have eb : bentB ys (tI [i, j]) = true := by rw [bentB_tI]; exact decide_eq_true hb
  refine ⟨a, v, ys, tI [i, j], e, hL, hyl, h4, hrg, hv, by show 2 ≤ 1000; decide, fun z => ?_, fun i' j' e2 _ => ?_⟩
  · rw [eb] at z; cases z
  · have e3 : [i, j] = [i', j'] := by
      have := congrArg (fun d => match d with | L2.D.tup ds => ds.map toI | _ => []) e2
      exact this
    cases e3
    exact k
def sp_L_marks (_K : PySem.W.Frag) (C : Addr) : Sp := fun vs H Q _ => ∃ (e : Addr), vs = [.ref e] ∧ H e = some (excO e (.ref C)) ∧ ∀ (M : Addr) (H' : Hp), Same H H' → H' M = some (.lst ((markB 12).map V.bl)) → Q (.ref M) H'
def sp_L_only (_K : PySem.W.Frag) : Sp := fun vs H Q _ => ∃ (n : Int), vs = [.int n] ∧ ∀ (M : Addr) (H' : Hp), Same H H' → H' M = some (.lst ((onlyB n).map V.bl)) → Q (.ref M) H'
def sp_L_thing61 : Sp := fun vs H Q _ => ∃ (a f : Addr) (xs ps : List (List Int)) (c : Int), vs = [.ref a, .ref f, .int c] ∧ LT K H (.ref a) xs ∧ LT K H (.ref f) ps ∧ (∀ p ∈ ps, p.length = 2) ∧ xs.length ≤ 1000 ∧ ps.length ≤ 1000 ∧
  ∀ (v : V) (d : L2.D) (H' : Hp), Same H H' → Rep K H' v d → Odd d → Q v H'
end
end Hb

set_option Elab.async false
set_option linter.all false
set_option maxRecDepth 100000
set_option maxHeartbeats 4000000
namespace Hb
open PySem L2
def top (i : Nat) : Stmt := PySem.Challenge.pw_holebook_k61_a_bent_pair_away.main.body.getD i (.Pass ⟨0, 0, 0, 0⟩)
structure Txt (K : PySem.W.Frag) (mg : Str → Option Value) (C_HoleError C_NoShape C_NoText C_NoName C_NoLevel C_NoChain C_NoTable C_NoTurn C_NoMap C_NoGlue C_NoPrime C_NoStage C_NoPair C_NoRow C_NoPiece C_NoRound : Addr) : Prop where
  m_HoleError : mg "HoleError" = some (.ref C_HoleError)
  k_HoleError : PySem.W.ktsIn K C_HoleError "BaseException" = true
  m_NoShape : mg "NoShape" = some (.ref C_NoShape)
  m_NoText : mg "NoText" = some (.ref C_NoText)
  m_NoName : mg "NoName" = some (.ref C_NoName)
  m_NoLevel : mg "NoLevel" = some (.ref C_NoLevel)
  m_NoChain : mg "NoChain" = some (.ref C_NoChain)
  m_NoTable : mg "NoTable" = some (.ref C_NoTable)
  m_NoTurn : mg "NoTurn" = some (.ref C_NoTurn)
  m_NoMap : mg "NoMap" = some (.ref C_NoMap)
  m_NoGlue : mg "NoGlue" = some (.ref C_NoGlue)
  m_NoPrime : mg "NoPrime" = some (.ref C_NoPrime)
  m_NoStage : mg "NoStage" = some (.ref C_NoStage)
  m_NoPair : mg "NoPair" = some (.ref C_NoPair)
  e_NoPair : PySem.W.excIn K C_NoPair bmV "ValueError.__new__" = true
  x_NoPair : ExcC K C_NoPair
  iv_NoPair : PySem.W.kitOne K (.ref C_NoPair) (.type "ValueError") = some true
  m_NoRow : mg "NoRow" = some (.ref C_NoRow)
  m_NoPiece : mg "NoPiece" = some (.ref C_NoPiece)
  m_NoRound : mg "NoRound" = some (.ref C_NoRound)
  s_NoPair_HoleError : PySem.W.subIn K (.ref C_NoPair) (.ref C_HoleError) = some true
  i_NoPair_NoShape : PySem.W.kitOne K (.ref C_NoPair) (.ref C_NoShape) = some false
  i_NoPair_NoText : PySem.W.kitOne K (.ref C_NoPair) (.ref C_NoText) = some false
  i_NoPair_NoName : PySem.W.kitOne K (.ref C_NoPair) (.ref C_NoName) = some false
  i_NoPair_NoLevel : PySem.W.kitOne K (.ref C_NoPair) (.ref C_NoLevel) = some false
  i_NoPair_NoChain : PySem.W.kitOne K (.ref C_NoPair) (.ref C_NoChain) = some false
  i_NoPair_NoTable : PySem.W.kitOne K (.ref C_NoPair) (.ref C_NoTable) = some false
  i_NoPair_NoTurn : PySem.W.kitOne K (.ref C_NoPair) (.ref C_NoTurn) = some false
  i_NoPair_NoMap : PySem.W.kitOne K (.ref C_NoPair) (.ref C_NoMap) = some false
  i_NoPair_NoGlue : PySem.W.kitOne K (.ref C_NoPair) (.ref C_NoGlue) = some false
  i_NoPair_NoPrime : PySem.W.kitOne K (.ref C_NoPair) (.ref C_NoPrime) = some false
  i_NoPair_NoStage : PySem.W.kitOne K (.ref C_NoPair) (.ref C_NoStage) = some false
  i_NoPair_NoPair : PySem.W.kitOne K (.ref C_NoPair) (.ref C_NoPair) = some true
  i_NoPair_NoRow : PySem.W.kitOne K (.ref C_NoPair) (.ref C_NoRow) = some false
  i_NoPair_NoPiece : PySem.W.kitOne K (.ref C_NoPair) (.ref C_NoPiece) = some false
  i_NoPair_NoRound : PySem.W.kitOne K (.ref C_NoPair) (.ref C_NoRound) = some false
  n_isinstance : mg "isinstance" = none
  n_int : mg "int" = none
  n_bool : mg "bool" = none
  n_tuple : mg "tuple" = none
  n_dict : mg "dict" = none
  n_enumerate : mg "enumerate" = none
  n_range : mg "range" = none
  n_len : mg "len" = none
  n_all : mg "all" = none
  n_max : mg "max" = none
  n_list : mg "list" = none
  n_ValueError : mg "ValueError" = none
def cutS (ns : List Int) (lo hi : Option Int) : List Int := (ns.drop (HT.sIx ns.length 0 lo)).take (HT.sIx ns.length ns.length hi - HT.sIx ns.length 0 lo)
theorem cutV_map (ns : List Int) (lo hi : Option Int) : cutV (ns.map V.int) lo hi = (cutS ns lo hi).map V.int := by
  unfold cutV cutS
  rw [List.length_map, List.map_take, List.map_drop]
theorem cutS_len (ns : List Int) (lo hi : Option Int) : (cutS ns lo hi).length ≤ ns.length := by
  unfold cutS
  rw [List.length_take, List.length_drop]
  omega

theorem ndc_0 : (["face", "spots"] : List Str).Nodup := by decide +kernel
theorem ndc_1 : (["old", "spots", "shape"] : List Str).Nodup := by decide +kernel
theorem ndc_2 : (["place", "thing"] : List Str).Nodup := by decide +kernel
theorem ndc_3 : (["place"] : List Str).Nodup := by decide +kernel
theorem ndc_4 : (["_law_place", "_law_pieces"] : List Str).Nodup := by decide +kernel
theorem ndc_5 : (["_law_face", "_law_pieces", "_law_j"] : List Str).Nodup := by decide +kernel
theorem ndc_6 : (["_law_face", "_law_pieces", "_law_faces"] : List Str).Nodup := by decide +kernel
theorem ndc_7 : (["_law_face", "_law_pieces", "_law_level_here"] : List Str).Nodup := by decide +kernel
theorem ndc_8 : (["_law_letter"] : List Str).Nodup := by decide +kernel
theorem ndc_9 : (["_law_i", "_law_word"] : List Str).Nodup := by decide +kernel
theorem ndc_10 : (["_law_word", "_law_family", "_law_words"] : List Str).Nodup := by decide +kernel
theorem ndc_11 : (["_law_face", "_law_words"] : List Str).Nodup := by decide +kernel
theorem ndc_12 : (["_law_k", "_law_at"] : List Str).Nodup := by decide +kernel
theorem ndc_13 : (["_law_piece"] : List Str).Nodup := by decide +kernel
theorem ndc_14 : (["_law_face", "_law_kept"] : List Str).Nodup := by decide +kernel
theorem ndc_15 : (["_law_face", "_law_place"] : List Str).Nodup := by decide +kernel
theorem ndc_16 : (["_law_place", "_law_left"] : List Str).Nodup := by decide +kernel
theorem ndc_17 : (["_law_one"] : List Str).Nodup := by decide +kernel
theorem ndc_18 : (["_law_place", "_law_thing"] : List Str).Nodup := by decide +kernel
section
variable {P : Program} {w : World} {K : PySem.W.Frag} {mg : Str → Option Value} {base : Heap} {C_HoleError C_NoShape C_NoText C_NoName C_NoLevel C_NoChain C_NoTable C_NoTurn C_NoMap C_NoGlue C_NoPrime C_NoStage C_NoPair C_NoRow C_NoPiece C_NoRound : Addr}
abbrev s_is_whole : Stmt := top 1
theorem sc_is_whole : FnScope ["thing"] ["thing"] (defScope s_is_whole) := ⟨rfl, rfl, rfl, by decide +kernel, rfl, by decide +kernel, by decide +kernel⟩
theorem ok_is_whole {f : Addr} {fd : FuncData} (F : Fun K "is_whole" "is_whole" s_is_whole f fd) (T : Txt K mg C_HoleError C_NoShape C_NoText C_NoName C_NoLevel C_NoChain C_NoTable C_NoTurn C_NoMap C_NoGlue C_NoPrime C_NoStage C_NoPair C_NoRow C_NoPiece C_NoRound)  : FnOk P w K mg base CX0 1 f fd ["thing"] (sp_is_whole K) := by
  refine F.ok sc_is_whole (fun vs H Q E h => ?_) (fun cdv A outer s H vs Q E hr h => ?_)
  · obtain ⟨x, d, rfl, hx, k⟩ := h
    rfl
  · obtain ⟨x, d, rfl, hx, k⟩ := h
    refine ⟨_, (pss_one (ps_ret (pe_and (pe_callB (kcall_isinst (K := K)) (by rfl) T.n_isinstance boot_isinstanceB (pa_cons (pv 0) (pa_cons (pe_bltn (v := .ty "int") rfl T.n_int boot_intT rfl) pa_nil))) (pe_one (pe_not (pe_callB (kcall_isinst (K := K)) (by rfl) T.n_isinstance boot_isinstanceB (pa_cons (pv 0) (pa_cons (pe_bltn (v := .ty "bool") rfl T.n_bool boot_boolT rfl) pa_nil)))))))), ?_⟩
    refine ⟨_, rfl, _, _, d, rfl, .inl rfl, hx, _, rfl, ?_⟩
    refine ite2 (fun e => ?_) (fun e => ?_)
    · refine ⟨_, rfl, _, _, d, rfl, .inr (.inl rfl), hx, _, rfl, ?_⟩
      have e2 : wholeD d = !isD "bool" d := by unfold wholeD; rw [e]; rfl
      rw [e2] at k
      exact k
    · have e2 : wholeD d = false := by unfold wholeD; simp [e]
      rw [e2] at k
      exact k
abbrev s_called_by : Stmt := top 3
theorem sc_called_by : FnScope ["spots", "piece"] ["spots", "piece"] (defScope s_called_by) := ⟨rfl, rfl, rfl, by decide +kernel, rfl, by decide +kernel, by decide +kernel⟩
theorem ok_called_by {f : Addr} {fd : FuncData} (F : Fun K "called_by" "called_by" s_called_by f fd) (T : Txt K mg C_HoleError C_NoShape C_NoText C_NoName C_NoLevel C_NoChain C_NoTable C_NoTurn C_NoMap C_NoGlue C_NoPrime C_NoStage C_NoPair C_NoRow C_NoPiece C_NoRound)  : FnOk P w K mg base CX0 1 f fd ["spots", "piece"] (sp_calledD K) := by
  refine F.ok sc_called_by (fun vs H Q E h => ?_) (fun cdv A outer s H vs Q E hr h => ?_)
  · obtain ⟨b, v, ms, fs, gf, rfl, hb, hv, hfl, hlk, k⟩ := h
    rfl
  · obtain ⟨b, v, ms, fs, gf, rfl, hb, hv, hfl, hlk, k⟩ := h
    have hu8 : (A.deeper (PyProof.Rows.envOfC "called_by" (defScope s_called_by) s.heap.objs.size f cdv)).units + 8 < cLine := by have := hr.units; omega
    refine ⟨_, (pss_one (ps_ret (pe_callTy (kcall_tuple_of (K := K)) (by rfl) T.n_tuple boot_tupleT (pa_cons (pe_comp (N' := ["face", "spots"]) (cap := [none, some 0]) (by rfl) (by kernel_rfl) (kpi_tup (K := K) (pv 1)) (fun _ _ _ _ => (pg_name (i := 0) ndc_0 (by rfl) (by first | exact Or.inl rfl | exact Or.inr rfl))) (fun _ _ _ _ => pts_nil) (fun _ _ _ _ => (pe_dget (u1 hu8) (pv 1) (pv 0) (fun _ _ => rfl)))) pa_nil)))), ?_⟩
    obtain ⟨af, rfl, sq⟩ := TI.sq hv
    refine ⟨_, rfl, af, rfl, ⟨_, sq⟩, fun D hD => ?_⟩
    refine comp_tup0 (K := K) (a := af) (xs := fs.map V.int) (fun i ys τ H1 => Same H H1 ∧ H1 D = some (.lst ys) ∧ ys = ((fs.take i).map gf).map V.int ∧ ∃ o, τ = [o, some (.ref b)])
      ⟨Same.new hD, upd_same, rfl, none, rfl⟩ (fun i ys τ H1 _ ⟨s1, _⟩ => s1.seqT sq) ?_ ?_
    · rintro i y ys τ H1 hy ⟨s1, hD1, hys, o, rfl⟩
      have hi : i < fs.length := by have := (List.getElem?_eq_some_iff.mp hy).1; simpa using this
      have hyv : y = .int fs[i] := by
        rw [List.getElem?_map, List.getElem?_eq_getElem hi] at hy
        simpa using hy.symm
      subst hyv
      have hx := hlk _ (List.getElem_mem hi)
      have e5 : (fs.take (i + 1)).map gf = (fs.take i).map gf ++ [gf fs[i]] := by
        rw [List.take_succ, List.getElem?_eq_getElem hi, List.map_append]
        rfl
      generalize fs[i] = x at hx e5
      refine ⟨_, rfl, _, rfl, b, .int (gf x), rfl, dget_at (.inl (s1 _ _ hb)) hx, hD1, small (by rw [hys, List.length_map, List.length_map, List.length_take]; omega), s1.turn hD, upd_same, ?_, _, rfl⟩
      rw [e5, List.map_append, hys]
      rfl
    · rintro ys τ H1 ⟨s1, hD1, hys, _⟩
      rw [List.length_map, List.take_length] at hys
      refine ⟨D, _, rfl, .inl ⟨.of hD1, fun T1 hT1 => ?_⟩⟩
      refine k _ _ (s1.trans (Same.new hT1)) (TI.mk ?_)
      rw [← hys]
      exact .of upd_same
abbrev s_spots_of : Stmt := top 23
theorem sc_spots_of : FnScope ["things"] ["things"] (defScope s_spots_of) := ⟨rfl, rfl, rfl, by decide +kernel, rfl, by decide +kernel, by decide +kernel⟩
theorem ok_spots_of {f : Addr} {fd : FuncData} (F : Fun K "spots_of" "spots_of" s_spots_of f fd) (T : Txt K mg C_HoleError C_NoShape C_NoText C_NoName C_NoLevel C_NoChain C_NoTable C_NoTurn C_NoMap C_NoGlue C_NoPrime C_NoStage C_NoPair C_NoRow C_NoPiece C_NoRound)  : FnOk P w K mg base CX0 1 f fd ["things"] (sp_spots_of K) := by
  refine F.ok sc_spots_of (fun vs H Q E h => ?_) (fun cdv A outer s H vs Q E hr h => ?_)
  · obtain ⟨b, ks, rfl, hS, hnd, hkl, kq⟩ := h
    rfl
  · obtain ⟨b, ks, rfl, hS, hnd, hkl, kq⟩ := h
    refine ⟨_, (pss_one (ps_ret (pe_callTy (call_dictP (by rfl)) (by rfl) T.n_dict boot_dictT (pa_cons (pe_comp (N' := ["place", "thing"]) (cap := [none, none]) (by rfl) (by kernel_rfl) (pi_enum (K := K) (by rfl) T.n_enumerate (pa_cons (pv 0) pa_nil)) (fun _ _ _ _ => (kpg_tup (K := K) (n := 2) (by rfl) (pgs_cons (pg_name (i := 0) ndc_2 (by rfl) (by first | exact Or.inl rfl | exact Or.inr rfl)) (pgs_cons (pg_name (i := 1) ndc_2 (by rfl) (by first | exact Or.inl rfl | exact Or.inr rfl)) pgs_nil)))) (fun _ _ _ _ => pts_nil) (fun _ _ _ _ => (pe_tup (pa_cons (pv 1) (pa_cons (pv 0) pa_nil))))) pa_nil)))), ?_⟩
    refine ⟨_, rfl, b, rfl, ⟨_, hS⟩, fun D hD => ?_⟩
    refine comp_enum (K := K) (a := b) (xs := ks.map V.int) (fun i zs τ G => Same H G ∧ G D = some (.lst zs) ∧ (∃ ts : List Addr, zs = ts.map V.ref ∧ ts.length = i ∧ ∀ (j : Nat) t, ts[j]? = some t → G t = some (.tup [.int (ks.getD j 0), .int j]) ∧ t ≠ D) ∧ ∃ o1 o2, τ = [o1, o2])
      ⟨Same.new hD, upd_same, ⟨[], rfl, rfl, fun j t z => by simp at z⟩, none, none, rfl⟩ (fun i zs τ G _ ⟨g, _⟩ => g.seq hS) ?_ ?_
    · rintro i x zs τ G p hx ⟨g, hDG, ⟨ts, rfl, htl, hts⟩, o1, o2, rfl⟩ hp
      have hi : i < ks.length := by have := (List.getElem?_eq_some_iff.mp hx).1; simpa using this
      have hxv : x = .int (ks.getD i 0) := by
        rw [List.getElem?_map, List.getElem?_eq_getElem hi] at hx
        rw [List.getD_eq_getElem?_getD, List.getElem?_eq_getElem hi]
        simpa using hx.symm
      subst hxv
      have gp : Same G (upd G p (.tup [.int i, .int (ks.getD i 0)])) := Same.new hp
      have hp1 : (upd G p (.tup [.int i, .int (ks.getD i 0)])) p = some (.tup [.int i, .int (ks.getD i 0)]) := upd_same
      generalize upd G p (.tup [.int i, .int (ks.getD i 0)]) = G1 at gp hp1
      refine ⟨p, _, rfl, .of hp1, rfl, _, _, rfl, _, _, rfl, rfl, ?_⟩
      refine ⟨_, rfl, _, rfl, smallE (by simp), fun t ht => ?_⟩
      have gt := gp.trans (Same.new (o := .tup [.int (ks.getD i 0), .int i]) ht)
      have ntD : t ≠ D := (ne_of_none (gp _ _ hDG) ht).symm
      have hDt := gt _ _ hDG
      have htt : (upd G1 t (.tup [.int (ks.getD i 0), .int i])) t = some (.tup [.int (ks.getD i 0), .int i]) := upd_same
      generalize upd G1 t (.tup [.int (ks.getD i 0), .int i]) = G2 at gt hDt htt
      refine ⟨hDt, small (by rw [List.length_map]; omega), (g.trans gt).turn hD, upd_same, ⟨ts ++ [t], by simp, by simp [htl], fun j t' e2 => ?_⟩, _, _, rfl⟩
      rw [List.getElem?_append] at e2
      split at e2
      · obtain ⟨h2', h3'⟩ := hts j t' e2
        exact ⟨by rw [upd_ne h3']; exact gt _ _ h2', h3'⟩
      · rename_i hj
        have hj0 : j - ts.length = 0 := by
          cases hz : j - ts.length with
          | zero => rfl
          | succ m => rw [hz] at e2; simp at e2
        rw [hj0] at e2
        have et : t = t' := by simpa using e2
        subst et
        have ej : j = i := by omega
        subst ej
        exact ⟨by rw [upd_ne ntD]; exact htt, ntD⟩
    · rintro zs τ G ⟨g, hDG, ⟨ts, rfl, htl, hts⟩, _⟩
      rw [List.length_map] at htl
      refine ⟨D, ts, cK (zipK ks), rfl, hDG, (by rw [cK_len, zipK_len]; exact htl), fun i t e2 => ?_, fun E hE => ?_⟩
      · obtain ⟨h2', _⟩ := hts i t e2
        have hi : i < ks.length := by have := (List.getElem?_eq_some_iff.mp e2).1; omega
        refine ⟨(.inl (ks.getD i 0), .int i), ?_, h2'⟩
        unfold cK
        rw [List.getElem?_map, zipK_get hi]
        rfl
      · refine kq E _ (g.free hE) (g.trans (Same.new hE)) ?_
        rw [upd_same, mergeK_nodup _ [] (by rw [List.nil_append]; exact nodup_cK.mpr (zipK_nd hnd)), List.nil_append]
abbrev s_holders_of : Stmt := top 26
theorem sc_holders_of : FnScope ["shape", "face", "told", "place", "piece"] ["shape", "face"] (defScope s_holders_of) := ⟨rfl, rfl, rfl, by decide +kernel, rfl, by decide +kernel, by decide +kernel⟩
theorem nd_holders_of : (["shape", "face", "told", "place", "piece"] : List Str).Nodup := by decide +kernel

theorem ok_holders_of {f : Addr} {fd : FuncData} (F : Fun K "holders_of" "holders_of" s_holders_of f fd) (T : Txt K mg C_HoleError C_NoShape C_NoText C_NoName C_NoLevel C_NoChain C_NoTable C_NoTurn C_NoMap C_NoGlue C_NoPrime C_NoStage C_NoPair C_NoRow C_NoPiece C_NoRound)  : FnOk P w K mg base CX0 1 f fd ["shape", "face"] (sp_holders_of K) := by
  refine F.ok sc_holders_of (fun vs H Q E h => ?_) (fun cdv A outer s H vs Q E hr h => ?_)
  · obtain ⟨a, xs, f0, rfl, hL, hxl, h4, k⟩ := h
    rfl
  · obtain ⟨a, xs, f0, rfl, hL, hxl, h4, k⟩ := h
    have hu8 : (A.deeper (PyProof.Rows.envOfC "holders_of" (defScope s_holders_of) s.heap.objs.size f cdv)).units + 8 < cLine := by have := hr.units; omega
    refine ⟨_, (pss_cons (ps_set (i := 2) nd_holders_of (by rfl) (by first | exact Or.inl rfl | exact Or.inr rfl) (pe_lst pa_nil))
      (pss_cons (ps_for PassesOwn.never rfl (pi_enum (K := K) (by rfl) T.n_enumerate (pa_cons (pv 0) pa_nil)) (kpg_tup (K := K) (n := 2) (by rfl) (pgs_cons (pg_name (i := 3) nd_holders_of (by rfl) (by first | exact Or.inl rfl | exact Or.inr rfl)) (pgs_cons (pg_name (i := 4) nd_holders_of (by rfl) (by first | exact Or.inl rfl | exact Or.inr rfl)) pgs_nil))) (pss_one (ps_expr (kpe_bm (K := K) PySem.F.plainAttrs_list PySem.F.slot_list_extend PySem.F.type_list_extend mt_extend (pv 2) (pa_cons (pe_op op_rep (pe_lst (pa_cons (pv 3) pa_nil)) (kpe_bmT (K := K) PySem.F.plainAttrs_tuple PySem.F.slot_tuple_count PySem.F.type_tuple_count (kmt_count (K := K) hu8) (pv 4) (pa_cons (pv 1) pa_nil))) pa_nil)))))
      (pss_one (ps_ret (pv 2))))), ?_⟩
    obtain ⟨_, us, z, hq, r⟩ := id hL
    cases z
    have ul : us.length = xs.length := by have := r.length; simpa using this
    refine ⟨Nat.zero_le _, fun D hD => ?_⟩
    have s0 : Same H (upd H D (.lst [])) := Same.new hD
    refine ⟨_, rfl, a, rfl, ⟨_, s0.seq hq⟩, for_enum (K := K) (a := a) (xs := us) (fun i σ G => ∃ o3 o4, σ = [some (.ref a), some (.int f0), some (.ref D), o3, o4] ∧ Same H G ∧ G D = some (.lst ((holdN xs f0 i).map V.int)))
      ⟨none, none, rfl, s0, upd_same⟩ (fun i σ G _ ⟨_, _, _, s, _⟩ => s.seq hq) ?_ ?_⟩
    · rintro i x σ G p hx ⟨o3, o4, rfl, g, hDG⟩ hp
      have hi : i < us.length := (List.getElem?_eq_some_iff.mp hx).1
      have hix : i < xs.length := by omega
      obtain ⟨dv, hdv, rv⟩ := r.getV hx
      have edv : dv = tI (xs.getD i []) := by
        rw [List.getElem?_map, List.getElem?_eq_getElem hix] at hdv
        rw [List.getD_eq_getElem?_getD, List.getElem?_eq_getElem hix]
        simpa using hdv.symm
      subst edv
      have hmem : xs.getD i [] ∈ xs := getD_mem_of hix
      have hx4 := h4 _ hmem
      have gp : Same G (upd G p (.tup [.int i, x])) := Same.new hp
      have hp1 : (upd G p (.tup [.int i, x])) p = some (.tup [.int i, x]) := upd_same
      generalize upd G p (.tup [.int i, x]) = G1 at gp hp1
      have tx : TI K G1 x (xs.getD i []) := Rep.same (g.trans gp) rv
      have hl := holdN_len h4 f0 i
      have hcl := cnt_le (xs.getD i []) f0
      refine ⟨p, _, rfl, .of hp1, rfl, _, _, rfl, _, _, rfl, rfl, ?_⟩
      refine ⟨_, rfl, .inl ⟨rfl, _, .of (gp _ _ hDG)⟩, _, rfl, smallE (by simp), fun E hE => ?_⟩
      have g2 : Same G1 (upd G1 E (.lst [.int i])) := Same.new hE
      have v2 : (upd G1 E (.lst [.int i])) E = some (.lst [.int i]) := upd_same
      generalize upd G1 E (.lst [.int i]) = G2 at g2 v2
      have tx2 := TI.same g2 tx
      obtain ⟨ax, rfl, sqx⟩ := TI.sq tx2
      refine ⟨_, rfl, ⟨ax, _, rfl, sqx⟩, _, rfl, nums (xs.getD i []), .int f0, .int f0, rfl, tx2, rfl, (by rw [deps_nums]; decide), ?_⟩
      rw [count_nums]
      refine ⟨E, _, _, rfl, rfl, v2, by omega, by omega, smallE (by rw [Int.toNat_natCast, List.length_singleton]; omega), fun F hF => ?_⟩
      rw [Int.toNat_natCast, rep_flat]
      have g3 : Same G2 (upd G2 F (.lst (List.replicate (cntI (xs.getD i []) f0) (.int i)))) := Same.new hF
      have v3 : (upd G2 F (.lst (List.replicate (cntI (xs.getD i []) f0) (.int i)))) F = some (.lst (List.replicate (cntI (xs.getD i []) f0) (.int i))) := upd_same
      generalize upd G2 F (.lst (List.replicate (cntI (xs.getD i []) f0) (.int i))) = G3 at g3 v3
      have gg := (gp.trans g2).trans g3
      refine ⟨D, F, _, _, rfl, rfl, gg _ _ hDG, v3, smallE (by rw [List.length_map, List.length_replicate]; omega), ?_⟩
      refine ⟨_, _, rfl, (g.trans gg).turn hD, ?_⟩
      rw [upd_same]
      show _ = some (HO.lst ((holdN xs f0 i ++ List.replicate (cntI (xs.getD i []) f0) (i : Int)).map V.int))
      rw [List.map_append, List.map_replicate]
    · rintro σ G ⟨o3, o4, rfl, g, hDG⟩
      rw [ul] at hDG
      exact ⟨_, rfl, k D G hD g hDG⟩
abbrev s_L_whole : Stmt := top 30
theorem sc_L_whole : FnScope ["_law_found"] ["_law_found"] (defScope s_L_whole) := ⟨rfl, rfl, rfl, by decide +kernel, rfl, by decide +kernel, by decide +kernel⟩
theorem ok_L_whole {f : Addr} {fd : FuncData} (F : Fun K "_law_whole" "_law_whole" s_L_whole f fd) (T : Txt K mg C_HoleError C_NoShape C_NoText C_NoName C_NoLevel C_NoChain C_NoTable C_NoTurn C_NoMap C_NoGlue C_NoPrime C_NoStage C_NoPair C_NoRow C_NoPiece C_NoRound)  : FnOk P w K mg base CX0 1 f fd ["_law_found"] (sp_L_whole K) := by
  refine F.ok sc_L_whole (fun vs H Q E h => ?_) (fun cdv A outer s H vs Q E hr h => ?_)
  · obtain ⟨x, d, rfl, hx, k⟩ := h
    rfl
  · obtain ⟨x, d, rfl, hx, k⟩ := h
    refine ⟨_, (pss_one (ps_ret (pe_and (pe_callB (kcall_isinst (K := K)) (by rfl) T.n_isinstance boot_isinstanceB (pa_cons (pv 0) (pa_cons (pe_bltn (v := .ty "int") rfl T.n_int boot_intT rfl) pa_nil))) (pe_one (pe_not (pe_callB (kcall_isinst (K := K)) (by rfl) T.n_isinstance boot_isinstanceB (pa_cons (pv 0) (pa_cons (pe_bltn (v := .ty "bool") rfl T.n_bool boot_boolT rfl) pa_nil)))))))), ?_⟩
    refine ⟨_, rfl, _, _, d, rfl, .inl rfl, hx, _, rfl, ?_⟩
    refine ite2 (fun e => ?_) (fun e => ?_)
    · refine ⟨_, rfl, _, _, d, rfl, .inr (.inl rfl), hx, _, rfl, ?_⟩
      have e2 : wholeD d = !isD "bool" d := by unfold wholeD; rw [e]; rfl
      rw [e2] at k
      exact k
    · have e2 : wholeD d = false := by unfold wholeD; simp [e]
      rw [e2] at k
      exact k
abbrev s_L_cell_at : Stmt := top 31
theorem sc_L_cell_at : FnScope ["_law_script", "_law_k"] ["_law_script", "_law_k"] (defScope s_L_cell_at) := ⟨rfl, rfl, rfl, by decide +kernel, rfl, by decide +kernel, by decide +kernel⟩
theorem ok_L_cell_at {f : Addr} {fd : FuncData} (F : Fun K "_law_cell_at" "_law_cell_at" s_L_cell_at f fd) (T : Txt K mg C_HoleError C_NoShape C_NoText C_NoName C_NoLevel C_NoChain C_NoTable C_NoTurn C_NoMap C_NoGlue C_NoPrime C_NoStage C_NoPair C_NoRow C_NoPiece C_NoRound)  : FnOk P w K mg base CX0 1 f fd ["_law_script", "_law_k"] (sp_L_cell_at K) := by
  refine F.ok sc_L_cell_at (fun vs H Q E h => ?_) (fun cdv A outer s H vs Q E hr h => ?_)
  · obtain ⟨a, ns, k, rfl, hS, h0, hl, kq⟩ := h
    rfl
  · obtain ⟨a, ns, k, rfl, hS, h0, hl, kq⟩ := h
    refine ⟨_, (pss_cons (ps_if (pt_cmpR op_lt (pv 1) (pe_callB (kcall_len_seq (K := K)) (by rfl) T.n_len PySem.boot_len (pa_cons (pv 0) pa_nil)) (nomark _)) (pss_one (ps_ret (pe_ix (kix_list (K := K)) (pv 0) (pv 1) (fun _ _ => rfl)))) pss_nil)
      (pss_one (ps_ret pe_int))), ?_⟩
    refine ⟨_, rfl, _, rfl, a, _, rfl, .inl hS, _, _, rfl, rfl, _, rfl, ?_⟩
    refine ite2 (fun h1 => ?_) (fun h1 => ?_)
    · have h2 : k < (ns.length : Int) := by simpa using h1
      have e : atI (ns.map V.int) k = some (.int (cellAt ns k)) := by
        obtain ⟨j, rfl⟩ := Int.eq_ofNat_of_zero_le h0
        refine atI_nat ?_
        have hj : j < ns.length := by omega
        rw [List.getElem?_map, List.getElem?_eq_getElem hj]
        simp [cellAt, hj]
      exact ⟨_, rfl, _, rfl, a, _, k, _, rfl, rfl, hS, e, kq⟩
    · have h2 : ¬ k < (ns.length : Int) := by simpa using h1
      have e : cellAt ns k = 0 := by
        unfold cellAt
        have : ns.length ≤ k.toNat := by omega
        simp [this]
      rw [e] at kq
      exact kq
abbrev s_L_level : Stmt := top 32
theorem sc_L_level : FnScope ["_law_piece"] ["_law_piece"] (defScope s_L_level) := ⟨rfl, rfl, rfl, by decide +kernel, rfl, by decide +kernel, by decide +kernel⟩
theorem ok_L_level {f : Addr} {fd : FuncData} (F : Fun K "_law_level" "_law_level" s_L_level f fd) (T : Txt K mg C_HoleError C_NoShape C_NoText C_NoName C_NoLevel C_NoChain C_NoTable C_NoTurn C_NoMap C_NoGlue C_NoPrime C_NoStage C_NoPair C_NoRow C_NoPiece C_NoRound)  : FnOk P w K mg base CX0 1 f fd ["_law_piece"] (sp_level_of K) := by
  refine F.ok sc_L_level (fun vs H Q E h => ?_) (fun cdv A outer s H vs Q E hr h => ?_)
  · obtain ⟨x, ds, rfl, hx, k⟩ := h
    rfl
  · obtain ⟨x, ds, rfl, hx, k⟩ := h
    refine ⟨_, (pss_one (ps_ret (pe_callB (call_max2 (by rfl)) (by rfl) T.n_max boot_maxB (pa_cons pe_int (pa_cons (pe_op op_sub (pe_callB (kcall_len_seq (K := K)) (by rfl) T.n_len PySem.boot_len (pa_cons (pv 0) pa_nil)) pe_int) pa_nil))))), ?_⟩
    obtain ⟨p, us, e, hq, hl⟩ : ∃ (p : Addr) (us : List V), x = .ref p ∧ (SqL K H p us ∨ SqT K H p us) ∧ us.length = ds.length := by
      rcases hx with ⟨p, us, e, hq, r⟩ | ⟨p, us, e, hq, r⟩
      · exact ⟨p, us, e, .inl hq, r.length⟩
      · exact ⟨p, us, e, .inr hq, r.length⟩
    subst e
    refine ⟨_, rfl, p, us, rfl, hq, _, _, rfl, rfl, _, _, rfl, ?_⟩
    rw [hl]
    rw [show (if ((ds.length : Nat) : Int) - 1 > 0 then ((ds.length : Nat) : Int) - 1 else 0) = levI ds.length by unfold levI; split <;> split <;> omega]
    exact k
abbrev s_L_meets : Stmt := top 33
theorem sc_L_meets : FnScope ["_law_pieces", "_law_faces", "_law_face", "_law_i"] ["_law_pieces", "_law_faces", "_law_face"] (defScope s_L_meets) := ⟨rfl, rfl, rfl, by decide +kernel, rfl, by decide +kernel, by decide +kernel⟩
theorem nd_L_meets : (["_law_pieces", "_law_faces", "_law_face", "_law_i"] : List Str).Nodup := by decide +kernel

theorem ok_L_meets {f : Addr} {fd : FuncData} (F : Fun K "_law_meets" "_law_meets" s_L_meets f fd) (T : Txt K mg C_HoleError C_NoShape C_NoText C_NoName C_NoLevel C_NoChain C_NoTable C_NoTurn C_NoMap C_NoGlue C_NoPrime C_NoStage C_NoPair C_NoRow C_NoPiece C_NoRound)  : FnOk P w K mg base CX0 1 f fd ["_law_pieces", "_law_faces", "_law_face"] (sp_L_meets K) := by
  refine F.ok sc_L_meets (fun vs H Q E h => ?_) (fun cdv A outer s H vs Q E hr h => ?_)
  · obtain ⟨a, v, xs, fs, f0, rfl, hL, hv, f1, f2, hg, hf4, hcase, k⟩ := h
    rfl
  · obtain ⟨a, v, xs, fs, f0, rfl, hL, hv, f1, f2, hg, hf4, hcase, k⟩ := h
    refine ⟨_, (pss_cons (ps_if (pt_cmpR op_eq (pe_callB (kcall_len_seq (K := K)) (by rfl) T.n_len PySem.boot_len (pa_cons (pe_ix (kix_list (K := K)) (pv 0) (pv 2) (fun _ _ => rfl)) pa_nil)) pe_int (nomark _)) (pss_one (ps_ret pe_bl)) pss_nil)
      (pss_cons (ps_for PassesOwn.never rfl (pi_range1 (by rfl) T.n_range (pa_cons (pe_callB (kcall_len_seq (K := K)) (by rfl) T.n_len PySem.boot_len (pa_cons (pv 1) pa_nil)) pa_nil)) (pg_name (i := 3) nd_L_meets (by rfl) (by first | exact Or.inl rfl | exact Or.inr rfl)) (pss_one (ps_if (pt_cmpR op_ne (pe_ix (kix_tup (K := K)) (pe_ix (kix_list (K := K)) (pv 0) (pv 2) (fun _ _ => rfl)) (pv 3) (fun _ _ => rfl)) (pe_ix (kix_tup (K := K)) (pe_ix (kix_list (K := K)) (pv 0) (pe_ix (kix_tup (K := K)) (pv 1) (pv 3) (fun _ _ => rfl)) (fun _ _ => rfl)) (pe_op op_sub (pe_callB (kcall_len_seq (K := K)) (by rfl) T.n_len PySem.boot_len (pa_cons (pv 1) pa_nil)) pe_int) (fun _ _ => rfl)) (nomark _)) (pss_one (ps_ret pe_bl)) pss_nil)))
      (pss_one (ps_ret pe_bl)))), ?_⟩
    obtain ⟨xu, vx, hxq, hvx, tvx⟩ := LT.get hL f1 f2
    obtain ⟨ax, rfl, sqx⟩ := TI.sq tvx
    obtain ⟨af, rfl, sqf⟩ := TI.sq hv
    refine ⟨_, rfl, _, rfl, a, xu, _, _, rfl, rfl, hxq, hvx, ax, _, rfl, .inr sqx, rfl, _, rfl, ?_⟩
    rw [List.length_map]
    refine ite2 (fun _ => k true) (fun h1 => ?_)
    have hne : ¬ (xs.getD f0.toNat []).length = 0 := fun z => h1 (by rw [z]; rfl)
    obtain ⟨c1, c2⟩ := hcase.resolve_left hne
    refine ⟨_, rfl, af, _, rfl, .inr sqf, _, rfl, by rw [List.length_map]; omega, by rw [List.length_map]; omega, ?_⟩
    rw [List.length_map]
    refine for_range (lo := 0) (n := fs.length) (fun i σ G => ∃ o3, σ = [some (.ref a), some (.ref af), some (.int f0), o3] ∧ H = G) ⟨_, rfl, rfl⟩ ?_ ?_
    · rintro i σ G hi ⟨o3, rfl, rfl⟩
      rw [show (0 : Int) + (i : Int) = (i : Int) by omega]
      have hgm := getD_mem_of (d := 0) hi
      obtain ⟨g0, g1⟩ := hg _ hgm
      have c3 := c2 _ hgm
      have hatf : atI (fs.map V.int) (i : Int) = some (.int (fs.getD i 0)) := by
        have := at_int (sp := fs) (x := (i : Int)) (by omega) (by omega)
        rwa [Int.toNat_natCast] at this
      obtain ⟨gu, vg, hgq, hvg, tvg⟩ := LT.get hL g0 g1
      obtain ⟨ag, rfl, sqg⟩ := TI.sq tvg
      refine ⟨_, rfl, _, rfl, a, xu, _, _, rfl, rfl, hxq, hvx, _, rfl, ax, _, _, _, rfl, rfl, sqx, at_int (by omega) (by omega), _, rfl, _, rfl, _, rfl, af, _, _, _, rfl, rfl, sqf, hatf, a, gu, _, _, rfl, rfl, hgq, hvg, _, rfl, af, _, rfl, .inr sqf, _, _, rfl, rfl, ag, _, _, _, rfl, rfl, sqg, (by rw [List.length_map]; exact at_int (by omega) (by omega)), rfl, _, rfl, ?_⟩
      exact ite2 (fun _ => k false) (fun _ => ⟨_, rfl, rfl⟩)
    · rintro σ G ⟨o3, rfl, rfl⟩
      exact k true
abbrev s_L_pick : Stmt := top 35
theorem sc_L_pick : FnScope ["_law_cell", "_law_j", "_law_many", "_law_mixed"] ["_law_cell", "_law_j", "_law_many"] (defScope s_L_pick) := ⟨rfl, rfl, rfl, by decide +kernel, rfl, by decide +kernel, by decide +kernel⟩
theorem nd_L_pick : (["_law_cell", "_law_j", "_law_many", "_law_mixed"] : List Str).Nodup := by decide +kernel

theorem ok_L_pick {f : Addr} {fd : FuncData} (F : Fun K "_law_pick" "_law_pick" s_L_pick f fd) (T : Txt K mg C_HoleError C_NoShape C_NoText C_NoName C_NoLevel C_NoChain C_NoTable C_NoTurn C_NoMap C_NoGlue C_NoPrime C_NoStage C_NoPair C_NoRow C_NoPiece C_NoRound)  : FnOk P w K mg base CX0 1 f fd ["_law_cell", "_law_j", "_law_many"] (sp_L_pick K) := by
  refine F.ok sc_L_pick (fun vs H Q E h => ?_) (fun cdv A outer s H vs Q E hr h => ?_)
  · obtain ⟨c, j, m, rfl, hm, k⟩ := h
    rfl
  · obtain ⟨c, j, m, rfl, hm, k⟩ := h
    refine ⟨_, (pss_cons (ps_set (i := 3) nd_L_pick (by rfl) (by first | exact Or.inl rfl | exact Or.inr rfl) (pe_op op_mulX (pe_op op_add (pe_op op_mod (pv 0) pe_int) pe_int) (pe_ix (kix_tup (K := K)) (pe_tup (pa_cons pe_int (pa_cons pe_int (pa_cons pe_int (pa_cons pe_int pa_nil))))) (pe_op op_mod (pv 1) pe_int) (fun _ _ => rfl))))
      (pss_one (ps_ret (pe_op op_mod (pe_op op_mod (pv 3) (pe_ix (kix_tup (K := K)) (pe_tup (pa_cons pe_int (pa_cons pe_int (pa_cons pe_int (pa_cons pe_int pa_nil))))) (pe_op op_mod (pv 1) pe_int) (fun _ _ => rfl))) (pv 2))))), ?_⟩
    have p4 : (0 : Int) < 4 := by decide
    have c0 := Int.emod_nonneg c (show (1000003 : Int) ≠ 0 by decide)
    have c1 := Int.emod_lt_of_pos c (show (0 : Int) < 1000003 by decide)
    have j0 := Int.emod_nonneg j (show (4 : Int) ≠ 0 by decide)
    have j1 := Int.emod_lt_of_pos j p4
    have four : ∀ a b c d : Int, 0 < a → 0 < b → 0 < c → 0 < d → a < 100000 → b < 100000 → c < 100000 → d < 100000 → ∃ x : Int, atI [V.int a, V.int b, V.int c, V.int d] (j % 4) = some (.int x) ∧ 0 < x ∧ x < 100000 := fun a b c d a0 b0 c0 d0 a1 b1 c1 d1 => by
      rcases (show j % 4 = 0 ∨ j % 4 = 1 ∨ j % 4 = 2 ∨ j % 4 = 3 by omega) with e | e | e | e <;> rw [e]
      · exact ⟨a, rfl, a0, a1⟩
      · exact ⟨b, rfl, b0, b1⟩
      · exact ⟨c, rfl, c0, c1⟩
      · exact ⟨d, rfl, d0, d1⟩
    refine tSeq_cut (fun σ' H' => ∃ x : Int, σ' = [some (.int c), some (.int j), some (.int m), some (.int x)] ∧ Same H H') ?_ fun key => ?_
    rotate_left
    · refine ⟨_, rfl, _, _, rfl, rfl, (by show (0 : Int) < 1000003; decide), _, _, rfl, rfl, smallE (by simp), fun T1 hT1 => ?_⟩
      obtain ⟨x, hx, x0, x1⟩ := four 48271 69621 16807 39373 (by decide) (by decide) (by decide) (by decide) (by decide) (by decide) (by decide) (by decide)
      refine ⟨_, rfl, _, _, rfl, rfl, p4, T1, _, _, _, rfl, rfl, .of upd_same, hx, _, _, rfl, rfl, mulokL (by omega) (by omega), ?_⟩
      exact key _ _ ⟨_, rfl, Same.new hT1⟩
    rintro _ H1 ⟨x, rfl, s1⟩
    refine ⟨_, rfl, smallE (by simp), fun T1 hT1 => ?_⟩
    obtain ⟨y, hy, y0, y1⟩ := four 65537 50021 99991 32749 (by decide) (by decide) (by decide) (by decide) (by decide) (by decide) (by decide) (by decide)
    refine ⟨_, rfl, _, _, rfl, rfl, p4, T1, _, _, _, rfl, rfl, .of upd_same, hy, _, _, rfl, rfl, y0, _, rfl, _, _, rfl, rfl, hm, ?_⟩
    exact k _ _ (s1.trans (Same.new hT1)) (Int.emod_nonneg _ (by omega)) (Int.emod_lt_of_pos _ hm)
abbrev s_L_faces_by : Stmt := top 38
theorem sc_L_faces_by : FnScope ["_law_word", "_law_family", "_law_size", "_law_faces", "_law_i"] ["_law_word", "_law_family"] (defScope s_L_faces_by) := ⟨rfl, rfl, rfl, by decide +kernel, rfl, by decide +kernel, by decide +kernel⟩
theorem nd_L_faces_by : (["_law_word", "_law_family", "_law_size", "_law_faces", "_law_i"] : List Str).Nodup := by decide +kernel

theorem ok_L_faces_by {f : Addr} {fd : FuncData} (F : Fun K "_law_faces_by" "_law_faces_by" s_L_faces_by f fd) (T : Txt K mg C_HoleError C_NoShape C_NoText C_NoName C_NoLevel C_NoChain C_NoTable C_NoTurn C_NoMap C_NoGlue C_NoPrime C_NoStage C_NoPair C_NoRow C_NoPiece C_NoRound)  : FnOk P w K mg base CX0 1 f fd ["_law_word", "_law_family"] (sp_L_faces_by K) := by
  refine F.ok sc_L_faces_by (fun vs H Q E h => ?_) (fun cdv A outer s H vs Q E hr h => ?_)
  · obtain ⟨v, w, fam, rfl, hv, hw, k⟩ := h
    rfl
  · obtain ⟨v, w, fam, rfl, hv, hw, k⟩ := h
    refine ⟨_, (pss_cons (ps_set (i := 2) nd_L_faces_by (by rfl) (by first | exact Or.inl rfl | exact Or.inr rfl) (pe_callB (kcall_len_seq (K := K)) (by rfl) T.n_len PySem.boot_len (pa_cons (pv 0) pa_nil)))
      (pss_cons (ps_if (pt_cmpR op_eq (pv 1) pe_int (nomark _)) (pss_cons (ps_if (pt_cmpR op_lt (pv 2) pe_int (nomark _)) (pss_one (ps_ret (pe_lst pa_nil))) pss_nil)
      (pss_one (ps_ret (pe_comp (N' := ["_law_i", "_law_word"]) (cap := [none, some 0]) (by rfl) (by kernel_rfl) (pi_range1 (by rfl) T.n_range (pa_cons (pv 2) pa_nil)) (fun _ _ _ _ => (pg_name (i := 0) ndc_9 (by rfl) (by first | exact Or.inl rfl | exact Or.inr rfl))) (fun _ _ _ _ => pts_nil) (fun _ _ _ _ => (pe_op (kop_catW (K := K)) (pe_slice (ksl_tupW (K := K)) (pv 1) po_none (po_some (pv 0))) (pe_slice (ksl_tupW (K := K)) (pv 1) (po_some (pe_op op_add (pv 0) pe_int)) po_none))))))) pss_nil)
      (pss_cons (ps_if (pt_cmpR op_eq (pv 2) pe_int (nomark _)) (pss_one (ps_ret (pe_lst pa_nil))) pss_nil)
      (pss_cons (ps_if (pt_cmpR op_lt (pv 1) pe_int (nomark _)) (pss_cons (ps_if (pt_cmpR op_eq (pv 2) pe_int (nomark _)) (pss_one (ps_ret (pe_lst (pa_cons (pe_tup pa_nil) (pa_cons (pe_tup pa_nil) pa_nil))))) pss_nil)
      (pss_one (ps_ret (pe_comp (N' := ["_law_letter"]) (cap := [none]) (by rfl) (by kernel_rfl) (kpi_tup (K := K) (pv 0)) (fun _ _ _ _ => (pg_name (i := 0) ndc_8 (by rfl) (by first | exact Or.inl rfl | exact Or.inr rfl))) (fun _ _ _ _ => pts_nil) (fun _ _ _ _ => (pe_tup (pa_cons (pv 0) pa_nil))))))) pss_nil)
      (pss_cons (ps_set (i := 3) nd_L_faces_by (by rfl) (by first | exact Or.inl rfl | exact Or.inr rfl) (pe_lst (pa_cons (pe_slice (ksl_tupW (K := K)) (pv 0) (po_some pe_int) po_none) pa_nil)))
      (pss_cons (ps_for PassesOwn.never rfl (pi_range1 (by rfl) T.n_range (pa_cons (pe_op op_sub (pv 2) pe_int) pa_nil)) (pg_name (i := 4) nd_L_faces_by (by rfl) (by first | exact Or.inl rfl | exact Or.inr rfl)) (pss_one (ps_expr (kpe_bm (K := K) PySem.F.plainAttrs_list PySem.F.slot_list_append PySem.F.type_list_append mt_append (pv 3) (pa_cons (pe_op (kop_catW (K := K)) (pe_op (kop_catW (K := K)) (pe_slice (ksl_tupW (K := K)) (pv 0) po_none (po_some (pv 4))) (pe_tup (pa_cons (pe_op op_mod (pe_op op_add (pe_ix (kix_tup (K := K)) (pv 0) (pv 4) (fun _ _ => rfl)) (pe_ix (kix_tup (K := K)) (pv 0) (pe_op op_add (pv 4) pe_int) (fun _ _ => rfl))) (pv 1)) pa_nil))) (pe_slice (ksl_tupW (K := K)) (pv 0) (po_some (pe_op op_add (pv 4) pe_int)) po_none)) pa_nil)))))
      (pss_cons (ps_expr (kpe_bm (K := K) PySem.F.plainAttrs_list PySem.F.slot_list_append PySem.F.type_list_append mt_append (pv 3) (pa_cons (pe_slice (ksl_tupW (K := K)) (pv 0) po_none (po_some (pe_op op_sub (pv 2) pe_int))) pa_nil)))
      (pss_one (ps_ret (pv 3)))))))))), ?_⟩
    obtain ⟨aw, rfl, hq⟩ := hv.sq
    have hlen : (w.map V.int).length = w.length := List.length_map ..
    have hl4 : w.length ≤ 4 := by rcases hw with z | z | z <;> omega
    refine ⟨_, rfl, aw, _, rfl, .inr hq, ?_⟩
    rw [hlen]
    refine ⟨_, rfl, rfl, _, rfl, ?_⟩
    refine ite2 (fun h1 => ?_) (fun h1 => ?_)
    · have hf : fam = 0 := by simpa using h1
      subst hf
      refine ⟨_, rfl, _, _, rfl, rfl, _, rfl, ?_⟩
      refine ite2 (fun h2 => ?_) (fun h2 => ?_)
      · have h3 : w.length < 2 := by have : (w.length : Int) < 2 := by simpa using h2
                                     omega
        refine ⟨Nat.zero_le _, fun p hp => ?_⟩
        refine k p [] _ hp (Same.new hp) upd_same ?_
        have e : facesBy w 0 = [] := by unfold facesBy; rw [if_pos rfl, if_pos h3]
        rw [e]
        rfl
      · have h3 : ¬ w.length < 2 := by have : ¬ (w.length : Int) < 2 := by simpa using h2
                                       omega
        have e : facesBy w 0 = (List.range w.length).map fun i => w.take i ++ w.drop (i + 1) := by unfold facesBy; rw [if_pos rfl, if_neg h3]
        rw [e] at k
        refine ⟨_, rfl, _, rfl, by omega, by omega, fun D hD => ?_⟩
        refine comp_range0 (fun i ys τ H1 => i ≤ w.length ∧ Same H H1 ∧ H1 D = some (.lst ys) ∧ Reps K H1 ys (((List.range i).map fun i => w.take i ++ w.drop (i + 1)).map tI) ∧ ∃ o, τ = [o, some (.ref aw)])
          ⟨Nat.zero_le _, Same.new hD, upd_same, rfl, none, rfl⟩ ?_ ?_
        · rintro i ys τ H1 hi ⟨hi1, s1, hD1, r1, o, rfl⟩
          have hi2 : i < w.length := by simpa using hi
          have hq1 : SqT K H1 aw (w.map V.int) := s1.seqT hq
          refine ⟨_, rfl, _, rfl, _, rfl, aw, _, rfl, hq1, ?_, fun p1 H2 s2 q2 => ?_⟩
          · rw [hlen]; rintro ⟨_, z⟩
            rw [show ((0 : Int) + (i : Int)) = ((i : Nat) : Int) by omega, HT.sIx_nat] at z
            omega
          refine ⟨_, rfl, _, rfl, _, _, rfl, rfl, _, rfl, aw, _, rfl, s2.seqT hq1, ?_, fun p2 H3 s3 q3 => ?_⟩
          · rw [hlen]; rintro ⟨z, _⟩
            rw [show ((0 : Int) + (i : Int) + 1) = ((i + 1 : Nat) : Int) by omega, HT.sIx_nat] at z
            omega
          rw [show ((0 : Int) + (i : Int)) = ((i : Nat) : Int) by omega, cut_take] at q2
          rw [show ((0 : Int) + (i : Int) + 1) = ((i + 1 : Nat) : Int) by omega, cut_drop] at q3
          refine ⟨p1, p2, _, _, rfl, rfl, s3.seqT q2, q3, ?_, fun p H4 s4 q4 => ?_⟩
          · refine smallE ?_
            simp only [List.length_take, List.length_drop, List.length_map]
            omega
          have s14 : Same H1 H4 := (s2.trans s3).trans s4
          have hD4 : H4 D = some (.lst ys) := s14 _ _ hD1
          have t4 : TI K H4 (.ref p) (w.take i ++ w.drop (i + 1)) := by
            refine TI.mk ?_
            rw [List.map_append, List.map_take, List.map_drop]
            exact q4
          have r4 : Reps K H4 ys (((List.range i).map fun i => w.take i ++ w.drop (i + 1)).map tI) := Reps.same s14 r1
          have hyl : ys.length = i := by have := r1.length; simpa using this
          refine ⟨hD4, small (by omega), by omega, (s1.trans s14).turn hD, upd_same, ?_, _, rfl⟩
          rw [List.range_succ, List.map_append]
          exact push_TI hD4 r4 t4
        · rintro ys τ H1 ⟨_, s1, hD1, r1, _⟩
          rw [show ((w.length : Int)).toNat = w.length by omega] at r1
          exact k D ys H1 hD s1 hD1 r1
    · have hf : ¬ fam = 0 := by simpa using h1
      refine ⟨_, rfl, rfl, _, rfl, ?_⟩
      refine ite2 (fun h2 => ?_) (fun h2 => ?_)
      · have h3 : w.length = 0 := by simpa using h2
        refine ⟨Nat.zero_le _, fun p hp => ?_⟩
        refine k p [] _ hp (Same.new hp) upd_same ?_
        have e : facesBy w fam = [] := by unfold facesBy; rw [if_neg hf, if_pos h3]
        rw [e]
        rfl
      have h3 : ¬ w.length = 0 := by simpa using h2
      refine ⟨_, rfl, _, _, rfl, rfl, _, rfl, ?_⟩
      refine ite2 (fun h4 => ?_) (fun h4 => ?_)
      · have h5 : fam < 0 := by simpa using h4
        refine ⟨_, rfl, rfl, _, rfl, ?_⟩
        refine ite2 (fun h6 => ?_) (fun h6 => ?_)
        · have h7 : w.length = 1 := by
            have : (w.length : Int) = 1 := by simpa using h6
            omega
          have e : facesBy w fam = [[], []] := by unfold facesBy; rw [if_neg hf, if_neg h3, if_pos h5, if_pos h7]
          rw [e] at k
          refine ⟨Nat.zero_le _, fun p1 hp1 => ⟨Nat.zero_le _, fun p2 hp2 => ⟨smallE (by simp), fun p hp => ?_⟩⟩⟩
          have s1 : Same H (upd H p1 (.tup [])) := Same.new hp1
          have s2 : Same (upd H p1 (.tup [])) (upd (upd H p1 (.tup [])) p2 (.tup [])) := Same.new hp2
          have s3 : Same (upd (upd H p1 (.tup [])) p2 (.tup [])) (upd (upd (upd H p1 (.tup [])) p2 (.tup [])) p (.lst [.ref p1, .ref p2])) := Same.new hp
          have hp0 : H p = none := (s1.trans s2).free hp
          refine k p _ _ hp0 ((s1.trans s2).trans s3) upd_same ?_
          have t1 : TI K _ (.ref p1) [] := TI.mk (.of (s3 _ _ (s2 _ _ upd_same)))
          have t2 : TI K _ (.ref p2) [] := TI.mk (.of (s3 _ _ upd_same))
          exact ⟨_, _, rfl, t1, _, _, rfl, t2, rfl⟩
        · have h7 : ¬ w.length = 1 := by
            have : ¬ (w.length : Int) = 1 := by simpa using h6
            omega
          have e : facesBy w fam = w.map fun l => [l] := by unfold facesBy; rw [if_neg hf, if_neg h3, if_pos h5, if_neg h7]
          rw [e] at k
          refine ⟨_, rfl, aw, rfl, ⟨_, hq⟩, fun D hD => ?_⟩
          refine comp_tup0 (xs := w.map V.int) (fun i ys τ H1 => i ≤ w.length ∧ Same H H1 ∧ H1 D = some (.lst ys) ∧ Reps K H1 ys (((w.take i).map fun l => [l]).map tI) ∧ ∃ o, τ = [o])
            ⟨Nat.zero_le _, Same.new hD, upd_same, rfl, none, rfl⟩ (fun i ys τ H1 _ ⟨_, s1, _⟩ => s1.seqT hq) ?_ ?_
          · rintro i x ys τ H1 hx ⟨hi1, s1, hD1, r1, o, rfl⟩
            have hi2 : i < w.length := by have := (List.getElem?_eq_some_iff.mp hx).1; simpa using this
            have hx2 : x = .int w[i] := by
              rw [List.getElem?_map, List.getElem?_eq_getElem hi2] at hx
              simpa using hx.symm
            subst hx2
            refine ⟨_, rfl, smallE (by simp), fun p hp => ?_⟩
            have s2 : Same H1 (upd H1 p (.tup [.int w[i]])) := Same.new hp
            have hD4 := s2 _ _ hD1
            have t4 : TI K (upd H1 p (.tup [.int w[i]])) (.ref p) [w[i]] := TI.mk (.of upd_same)
            have r4 := Reps.same s2 r1
            have hyl : ys.length = i := by have := r1.length; simp at this; omega
            refine ⟨hD4, small (by omega), by omega, (s1.trans s2).turn hD, upd_same, ?_, _, rfl⟩
            have e2 : (w.take (i + 1)).map (fun l => [l]) = (w.take i).map (fun l => [l]) ++ [[w[i]]] := by
              rw [List.take_succ, List.getElem?_eq_getElem hi2, List.map_append]
              rfl
            rw [e2]
            exact push_TI hD4 r4 t4
          · rintro ys τ H1 ⟨_, s1, hD1, r1, _⟩
            rw [hlen, List.take_length] at r1
            exact k D ys H1 hD s1 hD1 r1
      have h5 : ¬ fam < 0 := by simpa using h4
      have hpos : 0 < fam := by omega
      have e : facesBy w fam = w.drop 1 :: ((List.range (w.length - 1)).map fun i => w.take i ++ [(w.getD i 0 + w.getD (i + 1) 0) % fam] ++ w.drop (i + 2)) ++ [w.take (w.length - 1)] := by
        unfold facesBy; rw [if_neg hf, if_neg h3, if_neg h5]
      rw [e] at k
      refine ⟨_, rfl, _, rfl, aw, _, rfl, hq, ?_, fun p1 H1 s1 q1 => ⟨smallE (by simp), fun D hD => ?_⟩⟩
      · rw [hlen]; rintro ⟨z, _⟩
        rw [show (1 : Int) = ((1 : Nat) : Int) by omega, HT.sIx_nat] at z
        omega
      rw [show (1 : Int) = ((1 : Nat) : Int) by omega, cut_drop] at q1
      have hD0 : H D = none := s1.free hD
      have s2 : Same H1 (upd H1 D (.lst [.ref p1])) := Same.new hD
      have t1 : TI K (upd H1 D (.lst [.ref p1])) (.ref p1) (w.drop 1) := by
        refine TI.mk ?_
        rw [List.map_drop]
        exact s2.seqT q1
      have hn : ((w.length : Int) - 1).toNat = w.length - 1 := by omega
      refine ⟨_, rfl, _, _, rfl, rfl, _, rfl, by omega, by omega, for_range (lo := 0) (n := ((w.length : Int) - 1).toNat)
        (fun i σ H2 => ∃ (ys : List V) (o : Option V), σ = [some (.ref aw), some (.int fam), some (.int w.length), some (.ref D), o] ∧ Same H H2 ∧ H2 D = some (.lst ys) ∧
          Reps K H2 ys ((w.drop 1 :: ((List.range i).map fun i => w.take i ++ [(w.getD i 0 + w.getD (i + 1) 0) % fam] ++ w.drop (i + 2))).map tI))
        ⟨_, none, rfl, s1.trans s2, upd_same, ⟨_, _, rfl, t1, rfl⟩⟩ ?_ ?_⟩
      · rintro i σ H2 hi ⟨ys, o, rfl, sH, hD2, r2⟩
        rw [hn] at hi
        have hq2 : SqT K H2 aw (w.map V.int) := sH.seqT hq
        have c0 : ((0 : Int) + (i : Int)) = ((i : Nat) : Int) := by omega
        have c1 : ((0 : Int) + (i : Int) + 1) = ((i + 1 : Nat) : Int) := by omega
        have c2 : ((0 : Int) + (i : Int) + 2) = ((i + 2 : Nat) : Int) := by omega
        have at0 : atI (w.map V.int) ((0 : Int) + (i : Int)) = some (.int (w.getD i 0)) := by
          rw [c0]
          refine atI_nat ?_
          rw [List.getElem?_map, List.getElem?_eq_getElem (by omega)]
          simp [show i < w.length by omega]
        have at1 : atI (w.map V.int) ((0 : Int) + (i : Int) + 1) = some (.int (w.getD (i + 1) 0)) := by
          rw [c1]
          refine atI_nat ?_
          rw [List.getElem?_map, List.getElem?_eq_getElem (by omega)]
          simp [show i + 1 < w.length by omega]
        refine ⟨_, rfl, .inl ⟨rfl, _, SqL.of hD2⟩, ?_⟩
        refine ⟨_, rfl, _, rfl, _, rfl, aw, _, rfl, hq2, ?_, fun pa Ha sa qa => ?_⟩
        · rw [hlen]; rintro ⟨_, z⟩
          rw [c0, HT.sIx_nat] at z
          omega
        rw [c0, cut_take] at qa
        refine ⟨_, rfl, _, rfl, aw, _, _, _, rfl, rfl, sa.seqT hq2, at0, _, rfl, _, rfl, _, _, rfl, rfl, aw, _, _, _, rfl, rfl, sa.seqT hq2, at1, _, _, rfl, rfl, _, rfl, _, _, rfl, rfl, hpos, smallE (by simp), fun pb hb => ?_⟩
        have sb : Same Ha (upd Ha pb (.tup [.int ((w.getD i 0 + w.getD (i + 1) 0) % fam)])) := Same.new hb
        refine ⟨pa, pb, _, _, rfl, rfl, sb.seqT qa, .of upd_same, smallE (by simp; omega), fun pc Hc sc qc => ?_⟩
        have sac := (sa.trans sb).trans sc
        refine ⟨_, rfl, _, rfl, _, _, rfl, rfl, _, rfl, aw, _, rfl, sac.seqT hq2, ?_, fun pd Hd sd qd => ?_⟩
        · rw [hlen]; rintro ⟨z, _⟩
          rw [c2, HT.sIx_nat] at z
          omega
        rw [c2, cut_drop] at qd
        refine ⟨pc, pd, _, _, rfl, rfl, sd.seqT qc, qd, smallE (by simp; omega), fun pe He se qe => ?_⟩
        have sall := (sac.trans sd).trans se
        have hDe := sall _ _ hD2
        have te : TI K He (.ref pe) (w.take i ++ [(w.getD i 0 + w.getD (i + 1) 0) % fam] ++ w.drop (i + 2)) := by
          refine TI.mk ?_
          simp only [List.map_append, List.map_take, List.map_drop, List.map_cons, List.map_nil]
          exact qe
        have hyl : ys.length = i + 1 := by have := r2.length; simpa using this
        refine ⟨D, _, _, rfl, rfl, hDe, small (by omega), ?_⟩
        refine ⟨_, _, rfl, (sH.trans sall).turn hD0, upd_same, ?_⟩
        have e3 : (w.drop 1 :: ((List.range (i + 1)).map fun i => w.take i ++ [(w.getD i 0 + w.getD (i + 1) 0) % fam] ++ w.drop (i + 2))) =
            (w.drop 1 :: ((List.range i).map fun i => w.take i ++ [(w.getD i 0 + w.getD (i + 1) 0) % fam] ++ w.drop (i + 2))) ++ [w.take i ++ [(w.getD i 0 + w.getD (i + 1) 0) % fam] ++ w.drop (i + 2)] := by
          rw [List.range_succ, List.map_append]
          rfl
        rw [e3]
        exact push_TI hDe (Reps.same sall r2) te
      · rintro σ H2 ⟨ys, o, rfl, sH, hD2, r2⟩
        rw [hn] at r2
        have hq2 : SqT K H2 aw (w.map V.int) := sH.seqT hq
        have c1 : ((w.length : Int) - 1) = ((w.length - 1 : Nat) : Int) := by omega
        refine ⟨_, rfl, .inl ⟨rfl, _, SqL.of hD2⟩, _, rfl, _, rfl, _, _, rfl, rfl, _, rfl, aw, _, rfl, hq2, ?_, fun pa Ha sa qa => ?_⟩
        · rw [hlen]; rintro ⟨_, z⟩
          rw [c1, HT.sIx_nat] at z
          omega
        rw [c1, cut_take] at qa
        have hDa := sa _ _ hD2
        have ta : TI K Ha (.ref pa) (w.take (w.length - 1)) := by
          refine TI.mk ?_
          rw [List.map_take]
          exact qa
        have hyl : ys.length = w.length := by have := r2.length; simp at this; omega
        refine ⟨D, _, _, rfl, rfl, hDa, small (by omega), ?_⟩
        refine ⟨_, rfl, ?_⟩
        exact k D _ _ hD0 ((sH.trans sa).turn hD0) upd_same (push_TI hDa (Reps.same sa r2) ta)
abbrev s_L_word_by : Stmt := top 39
theorem sc_L_word_by : FnScope ["_law_cell", "_law_family", "_law_letters", "_law_size", "_law_base", "_law_word", "_law_k"] ["_law_cell", "_law_family", "_law_letters"] (defScope s_L_word_by) := ⟨rfl, rfl, rfl, by decide +kernel, rfl, by decide +kernel, by decide +kernel⟩
theorem nd_L_word_by : (["_law_cell", "_law_family", "_law_letters", "_law_size", "_law_base", "_law_word", "_law_k"] : List Str).Nodup := by decide +kernel

theorem ok_L_word_by {f : Addr} {fd : FuncData} (F : Fun K "_law_word_by" "_law_word_by" s_L_word_by f fd) (T : Txt K mg C_HoleError C_NoShape C_NoText C_NoName C_NoLevel C_NoChain C_NoTable C_NoTurn C_NoMap C_NoGlue C_NoPrime C_NoStage C_NoPair C_NoRow C_NoPiece C_NoRound)  : FnOk P w K mg base CX0 1 f fd ["_law_cell", "_law_family", "_law_letters"] (sp_L_word_by K) := by
  refine F.ok sc_L_word_by (fun vs H Q E h => ?_) (fun cdv A outer s H vs Q E hr h => ?_)
  · obtain ⟨c, fam, letters, rfl, hl0, hl1, hf, k⟩ := h
    rfl
  · obtain ⟨c, fam, letters, rfl, hl0, hl1, hf, k⟩ := h
    refine ⟨_, (pss_cons (ps_set (i := 0) nd_L_word_by (by rfl) (by first | exact Or.inl rfl | exact Or.inr rfl) (pe_op op_mod (pv 0) pe_int))
      (pss_cons (ps_set (i := 3) nd_L_word_by (by rfl) (by first | exact Or.inl rfl | exact Or.inr rfl) (pe_op op_mod (pv 0) pe_int))
      (pss_cons (ps_set (i := 4) nd_L_word_by (by rfl) (by first | exact Or.inl rfl | exact Or.inr rfl) (pv 2))
      (pss_cons (ps_if (pt_cmpR op_eq (pv 1) pe_int (nomark _)) (pss_one (ps_set (i := 3) nd_L_word_by (by rfl) (by first | exact Or.inl rfl | exact Or.inr rfl) (pe_op op_add (pv 3) pe_int))) pss_nil)
      (pss_cons (ps_if (PW.pt (pw_and (pt_cmpR op_lt (pv 1) pe_int (nomark _)) (pw_and1 (pt_cmpR op_ne (pv 3) pe_int (nomark _))))) (pss_one (ps_set (i := 3) nd_L_word_by (by rfl) (by first | exact Or.inl rfl | exact Or.inr rfl) pe_int)) pss_nil)
      (pss_cons (ps_if (pt_cmpR op_gt (pv 1) pe_int (nomark _)) (pss_one (ps_set (i := 4) nd_L_word_by (by rfl) (by first | exact Or.inl rfl | exact Or.inr rfl) (pv 1))) pss_nil)
      (pss_cons (ps_set (i := 0) nd_L_word_by (by rfl) (by first | exact Or.inl rfl | exact Or.inr rfl) (pe_op op_fdiv (pv 0) pe_int))
      (pss_cons (ps_set (i := 5) nd_L_word_by (by rfl) (by first | exact Or.inl rfl | exact Or.inr rfl) (pe_tup pa_nil))
      (pss_cons (ps_for PassesOwn.never rfl (pi_range1 (by rfl) T.n_range (pa_cons (pv 3) pa_nil)) (pg_name (i := 6) nd_L_word_by (by rfl) (by first | exact Or.inl rfl | exact Or.inr rfl)) (pss_cons (ps_set (i := 5) nd_L_word_by (by rfl) (by first | exact Or.inl rfl | exact Or.inr rfl) (pe_op (kop_catW (K := K)) (pv 5) (pe_tup (pa_cons (pe_op op_mod (pv 0) (pv 4)) pa_nil))))
      (pss_one (ps_set (i := 0) nd_L_word_by (by rfl) (by first | exact Or.inl rfl | exact Or.inr rfl) (pe_op op_fdiv (pv 0) (pv 4))))))
      (pss_one (ps_ret (pv 5)))))))))))), ?_⟩
    have m1 : 0 ≤ c % 1000000 % 4 := Int.emod_nonneg _ (by decide)
    have m2 : c % 1000000 % 4 < 4 := Int.emod_lt_of_pos _ (by decide)
    refine ⟨_, rfl, _, _, rfl, rfl, (by show (0 : Int) < 1000000; decide), ?_⟩
    refine ⟨_, rfl, _, _, rfl, rfl, (by show (0 : Int) < 4; decide), ?_⟩
    refine ⟨_, rfl, ?_⟩
    have fork : (fam = 0) ∨ (fam < 0 ∧ c % 1000000 % 4 = 1) ∨ (fam < 0 ∧ ¬ c % 1000000 % 4 = 1) ∨ 0 < fam := by omega
    have nofam : ¬ fam = 0 → ¬ (decide (V.int fam = V.int 0) = true) := fun z q => z (by simpa using q)
    have isfam : fam = 0 → decide (V.int fam = V.int 0) = true := fun z => by simp [z]
    have hb0 : 0 < letters := hl0
    have hb1 : letters < 1073741824 := by omega
    rcases fork with hz | ⟨hz, h1⟩ | ⟨hz, h1⟩ | hz
    · refine ⟨_, rfl, rfl, _, rfl, ?_⟩
      refine ifP (isfam hz) ?_
      refine ⟨_, rfl, _, _, rfl, rfl, ?_⟩
      refine ⟨_, rfl, _, _, rfl, rfl, _, rfl, ?_⟩
      refine ifN (by simp; omega) ?_
      refine ifN (by simp) ?_
      refine ⟨_, rfl, _, _, rfl, rfl, _, rfl, ?_⟩
      refine ifN (by simp; omega) ?_
      have hW : ∀ w : List Int, w.length = (c % 1000000 % 4 + 1).toNat → Word fam w := fun w e => .inl ⟨hz, by omega, by omega⟩
      refine ⟨_, rfl, _, _, rfl, rfl, ⟨by decide, by decide⟩, Nat.zero_le _, fun p0 hp0 => ?_⟩
      refine ⟨_, rfl, _, rfl, by omega, by omega, ?_⟩
      refine for_range (lo := 0) (n := (c % 1000000 % 4 + 1 : Int).toNat)
        (fun i σ H2 => ∃ (c' : Int) (v : V) (o : Option V) (w : List Int), σ = [some (.int c'), some (.int fam), some (.int letters), some (.int (c % 1000000 % 4 + 1)), some (.int letters), some v, o] ∧ Same H H2 ∧ TI K H2 v w ∧ w.length = i)
        ⟨_, _, none, [], rfl, Same.new hp0, TI.mk (.of upd_same), rfl⟩ ?_ ?_
      · rintro i σ H2 hi ⟨c', v, o, w, rfl, s2, tv, hwl⟩
        obtain ⟨a, rfl, hqa⟩ := tv.sq
        refine ⟨_, rfl, _, rfl, _, rfl, _, _, rfl, rfl, hb0, smallE (by simp), fun pt hpt => ?_⟩
        have s3 : Same H2 (upd H2 pt (.tup [.int (c' % letters)])) := Same.new hpt
        refine ⟨a, pt, _, _, rfl, rfl, s3.seqT hqa, .of upd_same, smallE (by simp; omega), fun p3 H3 s4 q3 => ?_⟩
        refine ⟨_, rfl, _, rfl, _, _, rfl, rfl, ⟨hb0, hb1⟩, ?_⟩
        refine ⟨_, _, _, w ++ [c' % letters], rfl, (s2.trans s3).trans s4, TI.mk ?_, by simp [hwl]⟩
        rw [List.map_append]
        exact q3
      · rintro σ H2 ⟨c', v, o, w, rfl, s2, tv, hwl⟩
        exact ⟨_, rfl, k v H2 w s2 tv (hW w hwl)⟩
    · refine ⟨_, rfl, rfl, _, rfl, ?_⟩
      refine ifN (nofam (by omega)) ?_
      refine ⟨_, rfl, _, _, rfl, rfl, _, rfl, ?_⟩
      refine ifP (by simp; omega) ?_
      refine ⟨_, rfl, rfl, _, rfl, ?_⟩
      refine ifN (eqI h1) ?_
      refine ⟨_, rfl, _, _, rfl, rfl, _, rfl, ?_⟩
      refine ifN (by simp; omega) ?_
      have hW : ∀ w : List Int, w.length = (c % 1000000 % 4).toNat → Word fam w := fun w e => .inr (.inl ⟨hz, by omega⟩)
      refine ⟨_, rfl, _, _, rfl, rfl, ⟨by decide, by decide⟩, Nat.zero_le _, fun p0 hp0 => ?_⟩
      refine ⟨_, rfl, _, rfl, by omega, by omega, ?_⟩
      refine for_range (lo := 0) (n := (c % 1000000 % 4 : Int).toNat)
        (fun i σ H2 => ∃ (c' : Int) (v : V) (o : Option V) (w : List Int), σ = [some (.int c'), some (.int fam), some (.int letters), some (.int (c % 1000000 % 4)), some (.int letters), some v, o] ∧ Same H H2 ∧ TI K H2 v w ∧ w.length = i)
        ⟨_, _, none, [], rfl, Same.new hp0, TI.mk (.of upd_same), rfl⟩ ?_ ?_
      · rintro i σ H2 hi ⟨c', v, o, w, rfl, s2, tv, hwl⟩
        obtain ⟨a, rfl, hqa⟩ := tv.sq
        refine ⟨_, rfl, _, rfl, _, rfl, _, _, rfl, rfl, hb0, smallE (by simp), fun pt hpt => ?_⟩
        have s3 : Same H2 (upd H2 pt (.tup [.int (c' % letters)])) := Same.new hpt
        refine ⟨a, pt, _, _, rfl, rfl, s3.seqT hqa, .of upd_same, smallE (by simp; omega), fun p3 H3 s4 q3 => ?_⟩
        refine ⟨_, rfl, _, rfl, _, _, rfl, rfl, ⟨hb0, hb1⟩, ?_⟩
        refine ⟨_, _, _, w ++ [c' % letters], rfl, (s2.trans s3).trans s4, TI.mk ?_, by simp [hwl]⟩
        rw [List.map_append]
        exact q3
      · rintro σ H2 ⟨c', v, o, w, rfl, s2, tv, hwl⟩
        exact ⟨_, rfl, k v H2 w s2 tv (hW w hwl)⟩
    · refine ⟨_, rfl, rfl, _, rfl, ?_⟩
      refine ifN (nofam (by omega)) ?_
      refine ⟨_, rfl, _, _, rfl, rfl, _, rfl, ?_⟩
      refine ifP (by simp; omega) ?_
      refine ⟨_, rfl, rfl, _, rfl, ?_⟩
      refine ifP (neI h1) ?_
      refine ⟨_, rfl, _, _, rfl, rfl, _, rfl, ?_⟩
      refine ifN (by simp; omega) ?_
      have hW : ∀ w : List Int, w.length = (3 : Int).toNat → Word fam w := fun w e => .inr (.inl ⟨hz, .inr (.inr e)⟩)
      refine ⟨_, rfl, _, _, rfl, rfl, ⟨by decide, by decide⟩, Nat.zero_le _, fun p0 hp0 => ?_⟩
      refine ⟨_, rfl, _, rfl, by omega, by omega, ?_⟩
      refine for_range (lo := 0) (n := (3 : Int).toNat)
        (fun i σ H2 => ∃ (c' : Int) (v : V) (o : Option V) (w : List Int), σ = [some (.int c'), some (.int fam), some (.int letters), some (.int (3)), some (.int letters), some v, o] ∧ Same H H2 ∧ TI K H2 v w ∧ w.length = i)
        ⟨_, _, none, [], rfl, Same.new hp0, TI.mk (.of upd_same), rfl⟩ ?_ ?_
      · rintro i σ H2 hi ⟨c', v, o, w, rfl, s2, tv, hwl⟩
        obtain ⟨a, rfl, hqa⟩ := tv.sq
        refine ⟨_, rfl, _, rfl, _, rfl, _, _, rfl, rfl, hb0, smallE (by simp), fun pt hpt => ?_⟩
        have s3 : Same H2 (upd H2 pt (.tup [.int (c' % letters)])) := Same.new hpt
        refine ⟨a, pt, _, _, rfl, rfl, s3.seqT hqa, .of upd_same, smallE (by simp; omega), fun p3 H3 s4 q3 => ?_⟩
        refine ⟨_, rfl, _, rfl, _, _, rfl, rfl, ⟨hb0, hb1⟩, ?_⟩
        refine ⟨_, _, _, w ++ [c' % letters], rfl, (s2.trans s3).trans s4, TI.mk ?_, by simp [hwl]⟩
        rw [List.map_append]
        exact q3
      · rintro σ H2 ⟨c', v, o, w, rfl, s2, tv, hwl⟩
        exact ⟨_, rfl, k v H2 w s2 tv (hW w hwl)⟩
    · refine ⟨_, rfl, rfl, _, rfl, ?_⟩
      refine ifN (nofam (by omega)) ?_
      refine ⟨_, rfl, _, _, rfl, rfl, _, rfl, ?_⟩
      refine ifN (by simp; omega) ?_
      refine ifN (by simp) ?_
      refine ⟨_, rfl, _, _, rfl, rfl, _, rfl, ?_⟩
      refine ifP (by simp; omega) ?_
      refine ⟨_, rfl, ?_⟩
      have hW : ∀ w : List Int, w.length = (c % 1000000 % 4).toNat → Word fam w := fun w e => .inr (.inr ⟨hz, by omega⟩)
      have hb0 : 0 < fam := hz
      have hb1 : fam < 1073741824 := by omega
      refine ⟨_, rfl, _, _, rfl, rfl, ⟨by decide, by decide⟩, Nat.zero_le _, fun p0 hp0 => ?_⟩
      refine ⟨_, rfl, _, rfl, by omega, by omega, ?_⟩
      refine for_range (lo := 0) (n := (c % 1000000 % 4 : Int).toNat)
        (fun i σ H2 => ∃ (c' : Int) (v : V) (o : Option V) (w : List Int), σ = [some (.int c'), some (.int fam), some (.int letters), some (.int (c % 1000000 % 4)), some (.int fam), some v, o] ∧ Same H H2 ∧ TI K H2 v w ∧ w.length = i)
        ⟨_, _, none, [], rfl, Same.new hp0, TI.mk (.of upd_same), rfl⟩ ?_ ?_
      · rintro i σ H2 hi ⟨c', v, o, w, rfl, s2, tv, hwl⟩
        obtain ⟨a, rfl, hqa⟩ := tv.sq
        refine ⟨_, rfl, _, rfl, _, rfl, _, _, rfl, rfl, hb0, smallE (by simp), fun pt hpt => ?_⟩
        have s3 : Same H2 (upd H2 pt (.tup [.int (c' % fam)])) := Same.new hpt
        refine ⟨a, pt, _, _, rfl, rfl, s3.seqT hqa, .of upd_same, smallE (by simp; omega), fun p3 H3 s4 q3 => ?_⟩
        refine ⟨_, rfl, _, rfl, _, _, rfl, rfl, ⟨hb0, hb1⟩, ?_⟩
        refine ⟨_, _, _, w ++ [c' % fam], rfl, (s2.trans s3).trans s4, TI.mk ?_, by simp [hwl]⟩
        rw [List.map_append]
        exact q3
      · rintro σ H2 ⟨c', v, o, w, rfl, s2, tv, hwl⟩
        exact ⟨_, rfl, k v H2 w s2 tv (hW w hwl)⟩
abbrev s_L_marks : Stmt := top 43
theorem sc_L_marks : FnScope ["_law_e", "_law_marks_here"] ["_law_e"] (defScope s_L_marks) := ⟨rfl, rfl, rfl, by decide +kernel, rfl, by decide +kernel, by decide +kernel⟩
theorem nd_L_marks : (["_law_e", "_law_marks_here"] : List Str).Nodup := by decide +kernel

theorem ok_L_marks {f : Addr} {fd : FuncData} (F : Fun K "_law_marks" "_law_marks" s_L_marks f fd) (T : Txt K mg C_HoleError C_NoShape C_NoText C_NoName C_NoLevel C_NoChain C_NoTable C_NoTurn C_NoMap C_NoGlue C_NoPrime C_NoStage C_NoPair C_NoRow C_NoPiece C_NoRound)  : FnOkN P w K mg base 1 f fd ["_law_e"] (sp_L_marks K C_NoPair) := by
  refine F.okN sc_L_marks (fun vs H Q E h => ?_) (fun cdv A outer s H vs Q E hr h => ?_)
  · obtain ⟨e, rfl, he, k⟩ := h
    rfl
  · obtain ⟨e, rfl, he, k⟩ := h
    refine ⟨_, (pss_cons (ps_set (i := 1) nd_L_marks (by rfl) (by first | exact Or.inl rfl | exact Or.inr rfl) (pe_lst (pa_cons (pe_callB (kcall_isiX (K := K)) (by rfl) T.n_isinstance boot_isinstanceB (pa_cons (pv 0) (pa_cons (pe_bltn (v := .ty "ValueError") rfl T.n_ValueError boot_ValueErrorT rfl) pa_nil))) (pa_cons (pe_callB (kcall_isiX (K := K)) (by rfl) T.n_isinstance boot_isinstanceB (pa_cons (pv 0) (pa_cons (pe_glob (v := .ref C_NoShape) (by rfl) T.m_NoShape rfl) pa_nil))) (pa_cons (pe_callB (kcall_isiX (K := K)) (by rfl) T.n_isinstance boot_isinstanceB (pa_cons (pv 0) (pa_cons (pe_glob (v := .ref C_NoText) (by rfl) T.m_NoText rfl) pa_nil))) (pa_cons (pe_callB (kcall_isiX (K := K)) (by rfl) T.n_isinstance boot_isinstanceB (pa_cons (pv 0) (pa_cons (pe_glob (v := .ref C_NoName) (by rfl) T.m_NoName rfl) pa_nil))) pa_nil))))))
      (pss_cons (ps_set (i := 1) nd_L_marks (by rfl) (by first | exact Or.inl rfl | exact Or.inr rfl) (pe_op (kop_catLW (K := K)) (pv 1) (pe_lst (pa_cons (pe_callB (kcall_isiX (K := K)) (by rfl) T.n_isinstance boot_isinstanceB (pa_cons (pv 0) (pa_cons (pe_glob (v := .ref C_NoLevel) (by rfl) T.m_NoLevel rfl) pa_nil))) (pa_cons (pe_callB (kcall_isiX (K := K)) (by rfl) T.n_isinstance boot_isinstanceB (pa_cons (pv 0) (pa_cons (pe_glob (v := .ref C_NoChain) (by rfl) T.m_NoChain rfl) pa_nil))) (pa_cons (pe_callB (kcall_isiX (K := K)) (by rfl) T.n_isinstance boot_isinstanceB (pa_cons (pv 0) (pa_cons (pe_glob (v := .ref C_NoTable) (by rfl) T.m_NoTable rfl) pa_nil))) pa_nil))))))
      (pss_cons (ps_set (i := 1) nd_L_marks (by rfl) (by first | exact Or.inl rfl | exact Or.inr rfl) (pe_op (kop_catLW (K := K)) (pv 1) (pe_lst (pa_cons (pe_callB (kcall_isiX (K := K)) (by rfl) T.n_isinstance boot_isinstanceB (pa_cons (pv 0) (pa_cons (pe_glob (v := .ref C_NoTurn) (by rfl) T.m_NoTurn rfl) pa_nil))) (pa_cons (pe_callB (kcall_isiX (K := K)) (by rfl) T.n_isinstance boot_isinstanceB (pa_cons (pv 0) (pa_cons (pe_glob (v := .ref C_NoMap) (by rfl) T.m_NoMap rfl) pa_nil))) (pa_cons (pe_callB (kcall_isiX (K := K)) (by rfl) T.n_isinstance boot_isinstanceB (pa_cons (pv 0) (pa_cons (pe_glob (v := .ref C_NoGlue) (by rfl) T.m_NoGlue rfl) pa_nil))) (pa_cons (pe_callB (kcall_isiX (K := K)) (by rfl) T.n_isinstance boot_isinstanceB (pa_cons (pv 0) (pa_cons (pe_glob (v := .ref C_NoPrime) (by rfl) T.m_NoPrime rfl) pa_nil))) pa_nil)))))))
      (pss_cons (ps_set (i := 1) nd_L_marks (by rfl) (by first | exact Or.inl rfl | exact Or.inr rfl) (pe_op (kop_catLW (K := K)) (pv 1) (pe_lst (pa_cons (pe_callB (kcall_isiX (K := K)) (by rfl) T.n_isinstance boot_isinstanceB (pa_cons (pv 0) (pa_cons (pe_glob (v := .ref C_NoStage) (by rfl) T.m_NoStage rfl) pa_nil))) (pa_cons (pe_callB (kcall_isiX (K := K)) (by rfl) T.n_isinstance boot_isinstanceB (pa_cons (pv 0) (pa_cons (pe_glob (v := .ref C_NoPair) (by rfl) T.m_NoPair rfl) pa_nil))) (pa_cons (pe_callB (kcall_isiX (K := K)) (by rfl) T.n_isinstance boot_isinstanceB (pa_cons (pv 0) (pa_cons (pe_glob (v := .ref C_NoRow) (by rfl) T.m_NoRow rfl) pa_nil))) pa_nil))))))
      (pss_one (ps_ret (pe_op (kop_catLW (K := K)) (pv 1) (pe_lst (pa_cons (pe_callB (kcall_isiX (K := K)) (by rfl) T.n_isinstance boot_isinstanceB (pa_cons (pv 0) (pa_cons (pe_glob (v := .ref C_NoPiece) (by rfl) T.m_NoPiece rfl) pa_nil))) (pa_cons (pe_callB (kcall_isiX (K := K)) (by rfl) T.n_isinstance boot_isinstanceB (pa_cons (pv 0) (pa_cons (pe_glob (v := .ref C_NoRound) (by rfl) T.m_NoRound rfl) pa_nil))) pa_nil)))))))))), ?_⟩
    refine tSeq_cut (fun σ' H' => ∃ M : Addr, σ' = [some (.ref e), some (.ref M)] ∧ Same H H' ∧ H' M = some (.lst [.bl true, .bl false, .bl false, .bl false])) ?_ fun key => ?_
    rotate_left
    · exact ⟨_, rfl, e, C_NoPair, _, _, _, rfl, rfl, ty_only, he, T.x_NoPair, T.iv_NoPair, _, rfl, e, C_NoPair, _, _, _, rfl, rfl, ref_only, he, T.x_NoPair, T.i_NoPair_NoShape, _, rfl, e, C_NoPair, _, _, _, rfl, rfl, ref_only, he, T.x_NoPair, T.i_NoPair_NoText, _, rfl, e, C_NoPair, _, _, _, rfl, rfl, ref_only, he, T.x_NoPair, T.i_NoPair_NoName, smallE (by simp), fun M hM => key _ _ ⟨M, rfl, Same.new hM, upd_same⟩⟩
    rintro _ H0 ⟨M0, rfl, s0, hM0⟩
    
    refine tSeq_cut (fun σ' H' => ∃ M : Addr, σ' = [some (.ref e), some (.ref M)] ∧ Same H H' ∧ H' M = some (.lst [.bl true, .bl false, .bl false, .bl false, .bl false, .bl false, .bl false])) ?_ fun key => ?_
    rotate_left
    · refine ⟨_, rfl, _, rfl, e, C_NoPair, _, _, _, rfl, rfl, ref_only, (s0 _ _ he), T.x_NoPair, T.i_NoPair_NoLevel, _, rfl, e, C_NoPair, _, _, _, rfl, rfl, ref_only, (s0 _ _ he), T.x_NoPair, T.i_NoPair_NoChain, _, rfl, e, C_NoPair, _, _, _, rfl, rfl, ref_only, (s0 _ _ he), T.x_NoPair, T.i_NoPair_NoTable, smallE (by simp), fun N hN => ?_⟩
      have sG1 : Same H0 (upd H0 N (.lst [.bl false, .bl false, .bl false])) := Same.new hN
      have eG1 : upd H0 N (.lst [.bl false, .bl false, .bl false]) N = some (.lst [.bl false, .bl false, .bl false]) := upd_same
      generalize upd H0 N (.lst [.bl false, .bl false, .bl false]) = G1 at sG1 eG1
      exact ⟨M0, N, _, _, rfl, rfl, .of (sG1 _ _ hM0), .of eG1, smallE (by simp), fun M hM => key _ _ ⟨M, rfl, (s0.trans sG1).trans (Same.new hM), upd_same⟩⟩
    rintro _ H1 ⟨M1, rfl, s1, hM1⟩
    
    refine tSeq_cut (fun σ' H' => ∃ M : Addr, σ' = [some (.ref e), some (.ref M)] ∧ Same H H' ∧ H' M = some (.lst [.bl true, .bl false, .bl false, .bl false, .bl false, .bl false, .bl false, .bl false, .bl false, .bl false, .bl false])) ?_ fun key => ?_
    rotate_left
    · refine ⟨_, rfl, _, rfl, e, C_NoPair, _, _, _, rfl, rfl, ref_only, (s1 _ _ he), T.x_NoPair, T.i_NoPair_NoTurn, _, rfl, e, C_NoPair, _, _, _, rfl, rfl, ref_only, (s1 _ _ he), T.x_NoPair, T.i_NoPair_NoMap, _, rfl, e, C_NoPair, _, _, _, rfl, rfl, ref_only, (s1 _ _ he), T.x_NoPair, T.i_NoPair_NoGlue, _, rfl, e, C_NoPair, _, _, _, rfl, rfl, ref_only, (s1 _ _ he), T.x_NoPair, T.i_NoPair_NoPrime, smallE (by simp), fun N hN => ?_⟩
      have sG1 : Same H1 (upd H1 N (.lst [.bl false, .bl false, .bl false, .bl false])) := Same.new hN
      have eG1 : upd H1 N (.lst [.bl false, .bl false, .bl false, .bl false]) N = some (.lst [.bl false, .bl false, .bl false, .bl false]) := upd_same
      generalize upd H1 N (.lst [.bl false, .bl false, .bl false, .bl false]) = G1 at sG1 eG1
      exact ⟨M1, N, _, _, rfl, rfl, .of (sG1 _ _ hM1), .of eG1, smallE (by simp), fun M hM => key _ _ ⟨M, rfl, (s1.trans sG1).trans (Same.new hM), upd_same⟩⟩
    rintro _ H2 ⟨M2, rfl, s2, hM2⟩
    
    refine tSeq_cut (fun σ' H' => ∃ M : Addr, σ' = [some (.ref e), some (.ref M)] ∧ Same H H' ∧ H' M = some (.lst [.bl true, .bl false, .bl false, .bl false, .bl false, .bl false, .bl false, .bl false, .bl false, .bl false, .bl false, .bl false, .bl true, .bl false])) ?_ fun key => ?_
    rotate_left
    · refine ⟨_, rfl, _, rfl, e, C_NoPair, _, _, _, rfl, rfl, ref_only, (s2 _ _ he), T.x_NoPair, T.i_NoPair_NoStage, _, rfl, e, C_NoPair, _, _, _, rfl, rfl, ref_only, (s2 _ _ he), T.x_NoPair, T.i_NoPair_NoPair, _, rfl, e, C_NoPair, _, _, _, rfl, rfl, ref_only, (s2 _ _ he), T.x_NoPair, T.i_NoPair_NoRow, smallE (by simp), fun N hN => ?_⟩
      have sG1 : Same H2 (upd H2 N (.lst [.bl false, .bl true, .bl false])) := Same.new hN
      have eG1 : upd H2 N (.lst [.bl false, .bl true, .bl false]) N = some (.lst [.bl false, .bl true, .bl false]) := upd_same
      generalize upd H2 N (.lst [.bl false, .bl true, .bl false]) = G1 at sG1 eG1
      exact ⟨M2, N, _, _, rfl, rfl, .of (sG1 _ _ hM2), .of eG1, smallE (by simp), fun M hM => key _ _ ⟨M, rfl, (s2.trans sG1).trans (Same.new hM), upd_same⟩⟩
    rintro _ H3 ⟨M3, rfl, s3, hM3⟩
    
    refine ⟨_, rfl, _, rfl, e, C_NoPair, _, _, _, rfl, rfl, ref_only, (s3 _ _ he), T.x_NoPair, T.i_NoPair_NoPiece, _, rfl, e, C_NoPair, _, _, _, rfl, rfl, ref_only, (s3 _ _ he), T.x_NoPair, T.i_NoPair_NoRound, smallE (by simp), fun N hN => ?_⟩
    have sG1 : Same H3 (upd H3 N (.lst [.bl false, .bl false])) := Same.new hN
    have eG1 : upd H3 N (.lst [.bl false, .bl false]) N = some (.lst [.bl false, .bl false]) := upd_same
    generalize upd H3 N (.lst [.bl false, .bl false]) = G1 at sG1 eG1
    exact ⟨M3, N, _, _, rfl, rfl, .of (sG1 _ _ hM3), .of eG1, smallE (by simp), fun M hM => k M _ ((s3.trans sG1).trans (Same.new hM)) upd_same⟩
abbrev s_L_only : Stmt := top 44
theorem sc_L_only : FnScope ["_law_at"] ["_law_at"] (defScope s_L_only) := ⟨rfl, rfl, rfl, by decide +kernel, rfl, by decide +kernel, by decide +kernel⟩
theorem ok_L_only {f : Addr} {fd : FuncData} (F : Fun K "_law_only" "_law_only" s_L_only f fd) (T : Txt K mg C_HoleError C_NoShape C_NoText C_NoName C_NoLevel C_NoChain C_NoTable C_NoTurn C_NoMap C_NoGlue C_NoPrime C_NoStage C_NoPair C_NoRow C_NoPiece C_NoRound)  : FnOk P w K mg base CX0 1 f fd ["_law_at"] (sp_L_only K) := by
  refine F.ok sc_L_only (fun vs H Q E h => ?_) (fun cdv A outer s H vs Q E hr h => ?_)
  · obtain ⟨n, rfl, k⟩ := h
    rfl
  · obtain ⟨n, rfl, k⟩ := h
    have hu8 : (A.deeper (PyProof.Rows.envOfC "_law_only" (defScope s_L_only) s.heap.objs.size f cdv)).units + 8 < cLine := by have := hr.units; omega
    refine ⟨_, (pss_one (ps_ret (pe_comp (N' := ["_law_k", "_law_at"]) (cap := [none, some 0]) (by rfl) (by kernel_rfl) (pi_range1 (by rfl) T.n_range (pa_cons pe_int pa_nil)) (fun _ _ _ _ => (pg_name (i := 0) ndc_12 (by rfl) (by first | exact Or.inl rfl | exact Or.inr rfl))) (fun _ _ _ _ => pts_nil) (fun _ _ _ _ => (pe_cmpR (kop_inD (K := K) hu8) (pv 0) (pe_tup (pa_cons pe_int (pa_cons (pv 1) pa_nil))) rfl))))), ?_⟩
    refine ⟨_, rfl, by decide, by decide, fun D hD => ?_⟩
    refine comp_range0 (n := 16) (fun j ys τ H1 => Same H H1 ∧ H1 D = some (.lst ys) ∧ j ≤ 16 ∧ ys = ((List.range j).map fun (k : Nat) => (nums [0, n]).any fun e => eqD e (.int (k : Int))).map V.bl ∧ ∃ o, τ = [o, some (.int n)]) ⟨Same.new hD, upd_same, Nat.zero_le _, rfl, none, rfl⟩ ?_ ?_
    · rintro j ys τ H1 hj ⟨s1, hD1, hj16, hys, o, rfl⟩
      refine ⟨_, rfl, _, rfl, smallE (by simp), fun T1 hT1 => ?_⟩
      have sT : Same H1 (upd H1 T1 (.tup [.int 0, .int n])) := Same.new hT1
      refine ⟨.int (0 + (j : Int)), nums [0, n], rfl, .inr ⟨T1, _, rfl, .of upd_same, reps_nums.mpr rfl⟩, (by rw [deps_nums]; decide), ?_⟩
      rw [if_neg (by simp)]
      refine ⟨sT _ _ hD1, small (by rw [hys, List.length_map, List.length_map, List.length_range]; omega), (s1.trans sT).turn hD, upd_same, by omega, ?_, _, rfl⟩
      rw [hys, List.range_succ, List.map_append, List.map_append, Int.zero_add]
      rfl
    · rintro ys τ H1 ⟨s1, hD1, _, hys, _⟩
      rw [hys] at hD1
      exact k D H1 s1 hD1
abbrev s_L_bent_of : Stmt := top 45
theorem sc_L_bent_of : FnScope ["_law_pieces", "_law_left", "_law_above", "_law_place", "_law_face", "_law_found"] ["_law_pieces", "_law_left"] (defScope s_L_bent_of) := ⟨rfl, rfl, rfl, by decide +kernel, rfl, by decide +kernel, by decide +kernel⟩
theorem nd_L_bent_of : (["_law_pieces", "_law_left", "_law_above", "_law_place", "_law_face", "_law_found"] : List Str).Nodup := by decide +kernel

theorem ok_L_bent_of {f : Addr} {fd : FuncData} (F : Fun K "_law_bent_of" "_law_bent_of" s_L_bent_of f fd) (T : Txt K mg C_HoleError C_NoShape C_NoText C_NoName C_NoLevel C_NoChain C_NoTable C_NoTurn C_NoMap C_NoGlue C_NoPrime C_NoStage C_NoPair C_NoRow C_NoPiece C_NoRound)  : FnOk P w K mg base CX0 1 f fd ["_law_pieces", "_law_left"] (sp_L_bent_of K) := by
  refine F.ok sc_L_bent_of (fun vs H Q E h => ?_) (fun cdv A outer s H vs Q E hr h => ?_)
  · obtain ⟨a, l, xs, fl, rfl, hL, hS, hxl, h4, hrg, k⟩ := h
    rfl
  · obtain ⟨a, l, xs, fl, rfl, hL, hS, hxl, h4, hrg, k⟩ := h
    refine ⟨_, (pss_cons (ps_setC (N' := ["_law_piece"]) (cap := [none]) (i := 2) nd_L_bent_of (by rfl) (by first | exact Or.inl rfl | exact Or.inr rfl) (by rfl) (by kernel_rfl) (kpi_list (K := K) (pv 0)) (fun _ _ _ _ => (pg_name (i := 0) ndc_13 (by rfl) (by first | exact Or.inl rfl | exact Or.inr rfl))) (fun _ _ _ _ => pts_nil) (fun _ _ _ _ => (pe_lst pa_nil)))
      (pss_cons (ps_for PassesOwn.never rfl (pi_range1 (by rfl) T.n_range (pa_cons (pe_callB (kcall_len_seq (K := K)) (by rfl) T.n_len PySem.boot_len (pa_cons (pv 0) pa_nil)) pa_nil)) (pg_name (i := 3) nd_L_bent_of (by rfl) (by first | exact Or.inl rfl | exact Or.inr rfl)) (pss_one (ps_if (pt_val (pe_ix (kix_list (K := K)) (pv 1) (pv 3) (fun _ _ => rfl))) (pss_one (ps_for PassesOwn.never rfl (kpi_tup (K := K) (pe_ix (kix_list (K := K)) (pv 0) (pv 3) (fun _ _ => rfl))) (pg_name (i := 4) nd_L_bent_of (by rfl) (by first | exact Or.inl rfl | exact Or.inr rfl)) (pss_one (ps_expr (kpe_bm (K := K) PySem.F.plainAttrs_list PySem.F.slot_list_append PySem.F.type_list_append mt_append (pe_ix (kix_list (K := K)) (pv 2) (pv 4) (fun _ _ => rfl)) (pa_cons (pv 3) pa_nil)))))) pss_nil)))
      (pss_cons (ps_set (i := 5) nd_L_bent_of (by rfl) (by first | exact Or.inl rfl | exact Or.inr rfl) (pe_lst pa_nil))
      (pss_cons (ps_for PassesOwn.never rfl (pi_range1 (by rfl) T.n_range (pa_cons (pe_callB (kcall_len_seq (K := K)) (by rfl) T.n_len PySem.boot_len (pa_cons (pv 0) pa_nil)) pa_nil)) (pg_name (i := 3) nd_L_bent_of (by rfl) (by first | exact Or.inl rfl | exact Or.inr rfl)) (pss_one (ps_if (PW.pt (pw_and (pt_val (pe_ix (kix_list (K := K)) (pv 1) (pv 3) (fun _ _ => rfl))) (pw_and (pt_cmpR op_eq (pe_callB (kcall_len_seq (K := K)) (by rfl) T.n_len PySem.boot_len (pa_cons (pe_ix (kix_list (K := K)) (pv 2) (pv 3) (fun _ _ => rfl)) pa_nil)) pe_int (nomark _)) (pw_and1 (pt_cmpR op_eq (pe_callB (kcall_len_seq (K := K)) (by rfl) T.n_len PySem.boot_len (pa_cons (pe_ix (kix_list (K := K)) (pv 2) (pe_ix (kix_list (K := K)) (pe_ix (kix_list (K := K)) (pv 2) (pv 3) (fun _ _ => rfl)) pe_int (fun _ _ => rfl)) (fun _ _ => rfl)) pa_nil)) pe_int (nomark _)))))) (pss_one (ps_expr (kpe_bm (K := K) PySem.F.plainAttrs_list PySem.F.slot_list_append PySem.F.type_list_append mt_append (pv 5) (pa_cons (pe_tup (pa_cons (pv 3) (pa_cons (pe_ix (kix_list (K := K)) (pe_ix (kix_list (K := K)) (pv 2) (pv 3) (fun _ _ => rfl)) pe_int (fun _ _ => rfl)) pa_nil))) pa_nil)))) pss_nil)))
      (pss_one (ps_ret (pv 5))))))), ?_⟩
    obtain ⟨_, us, z, hq, r⟩ := id hL
    cases z
    have ul : us.length = xs.length := by have := r.length; simpa using this
    refine tSeq_cut (fun σ' H' => ∃ (B : Addr) (as : List Addr), σ' = [some (.ref a), some (.ref l), some (.ref B), none, none, none] ∧ Same H H' ∧ H' B = some (.lst (as.map V.ref)) ∧ as.length = xs.length ∧ as.Nodup ∧ ∀ (j : Nat) b, as[j]? = some b → H b = none ∧ b ≠ B ∧ H' b = some (.lst [])) ?_ fun key => ?_
    rotate_left
    · refine ⟨_, rfl, a, rfl, ⟨_, hq⟩, fun D hD => ?_⟩
      refine comp_list0 (K := K) (a := a) (xs := us) (fun i ws τ G => ∃ as : List Addr, as.length = i ∧ ws = as.map V.ref ∧ Same H G ∧ G D = some (.lst ws) ∧ as.Nodup ∧ (∀ (j : Nat) b, as[j]? = some b → H b = none ∧ b ≠ D ∧ G b = some (.lst [])) ∧ ∃ o, τ = [o])
        ⟨[], rfl, rfl, Same.new hD, upd_same, List.nodup_nil, fun j b z => by simp at z, none, rfl⟩ (fun i ws τ G _ ⟨_, _, _, g, _⟩ => g.seq hq) ?_ ?_
      · rintro i x ws τ G hx ⟨as, hal, rfl, g, hDG, hnd, hrow, o, rfl⟩
        have hi : i < us.length := (List.getElem?_eq_some_iff.mp hx).1
        refine ⟨Nat.zero_le _, fun E hE => ?_⟩
        have g1 : Same G (upd G E (.lst [])) := Same.new hE
        have nE : E ≠ D := (ne_of_none hDG hE).symm
        refine ⟨g1 _ _ hDG, small (by rw [List.length_map]; omega), as ++ [E], by simp [hal], by simp, (g.trans g1).turn hD, upd_same, ?_, fun j b z => ?_, _, rfl⟩
        · rw [List.nodup_append]
          refine ⟨hnd, by simp, fun b hb c hc e => ?_⟩
          rw [List.mem_singleton] at hc
          subst hc
          subst e
          obtain ⟨j, hj⟩ := List.getElem?_of_mem hb
          have := (hrow j _ hj).2.2
          rw [hE] at this
          cases this
        · rw [List.getElem?_append] at z
          split at z
          · obtain ⟨q1, q2, q3⟩ := hrow j b z
            exact ⟨q1, q2, by rw [upd_ne q2]; exact g1 _ _ q3⟩
          · have hj0 : j - as.length = 0 := by
              cases hz : j - as.length with
              | zero => rfl
              | succ m => rw [hz] at z; simp at z
            rw [hj0] at z
            have et : E = b := by simpa using z
            subst et
            exact ⟨g.free hE, nE, by rw [upd_ne nE]; exact upd_same⟩
      · rintro ws τ G ⟨as, hal, rfl, g, hDG, hnd, hrow, _⟩
        exact key _ _ ⟨D, as, rfl, g, hDG, by omega, hnd, hrow⟩
    rintro _ H1 ⟨B, as, rfl, s1, hB, hal, hnd, hrow⟩
    refine tSeq_cut (fun σ' H' => ∃ (o3 o4 : Option V), σ' = [some (.ref a), some (.ref l), some (.ref B), o3, o4, none] ∧ Same H H' ∧ H' B = some (.lst (as.map V.ref)) ∧ ∀ (j : Nat) b, as[j]? = some b → H' b = some (.lst ((holdR xs (keptF xs.length fl) (j : Int)).map V.int))) ?_ fun key => ?_
    rotate_left
    · refine ⟨_, rfl, a, us, rfl, .inl (s1.seq hq), _, rfl, by omega, by omega, ?_⟩
      rw [ul]
      refine for_range (lo := 0) (n := xs.length) (fun i σ G => ∃ (o3 o4 : Option V), σ = [some (.ref a), some (.ref l), some (.ref B), o3, o4, none] ∧ Same H G ∧ G B = some (.lst (as.map V.ref)) ∧ ∀ (j : Nat) b, as[j]? = some b → G b = some (.lst ((holdR xs (keptF i fl) (j : Int)).map V.int)))
        ⟨none, none, rfl, s1, hB, fun j b z => (hrow j b z).2.2⟩ ?_ ?_
      · rintro i σ G hi ⟨o3, o4, rfl, g, hBG, hab⟩
        rw [show (0 : Int) + (i : Int) = (i : Int) by omega]
        have ek := keptF_succ i fl
        refine ⟨_, rfl, _, rfl, l, _, _, _, rfl, rfl, g.seq hS, flV_at (by omega) (by omega), _, rfl, ?_⟩
        refine ite2 (fun h1 => ?_) (fun h1 => ?_)
        rotate_left
        · rw [if_neg h1, List.append_nil] at ek
          exact ⟨_, _, rfl, g, hBG, by rw [ek]; exact hab⟩
        rw [if_pos h1] at ek
        have hm4 := h4 _ (getD_mem_of (d := []) hi)
        have hfr := hrg _ (getD_mem_of (d := []) hi)
        have eh : ∀ j : Int, holdR xs (keptF (i + 1) fl) j = holdR xs (keptF i fl) j ++ List.replicate (cntI (xs.getD i []) j) (i : Int) := fun j => by
          rw [ek, holdR_snoc, Int.toNat_natCast]
        have hkl := kept_len i fl
        have hhl : ∀ j : Int, (holdR xs (keptF i fl) j).length ≤ 4000 := fun j => by
          have := holdR_len h4 (f := j) (keptF i fl)
          omega
        have hmem : (xs.map tI)[i]? = some (tI (xs.getD i [])) := by rw [List.getElem?_map, List.getElem?_eq_getElem hi, List.getD_eq_getElem?_getD, List.getElem?_eq_getElem hi]; rfl
        obtain ⟨v0, hv0, tv0⟩ := r.get hmem
        have hpe : atI us (i : Int) = some v0 := atI_nat hv0
        have tv0' : TI K H v0 (xs.getD i []) := tv0
        obtain ⟨av, rfl, sqvH⟩ := TI.sq tv0'
        have sqv := g.seqT sqvH
        generalize xs.getD i [] = fs at sqvH sqv hm4 hfr eh
        refine ⟨_, rfl, _, rfl, a, us, _, _, rfl, rfl, g.seq hq, hpe, av, rfl, ⟨_, sqv⟩, for_tup (K := K) (a := av) (xs := fs.map V.int) (fun m σ G2 => ∃ o4, σ = [some (.ref a), some (.ref l), some (.ref B), some (.int (i : Int)), o4, none] ∧ Same H G2 ∧ SqT K G2 av (fs.map V.int) ∧ G2 B = some (.lst (as.map V.ref)) ∧ ∀ (j : Nat) b, as[j]? = some b → G2 b = some (.lst ((holdR xs (keptF i fl) (j : Int) ++ List.replicate (cntI (fs.take m) (j : Int)) (i : Int)).map V.int)))
          ⟨_, rfl, g, sqv, hBG, fun j b z => by rw [hab j b z]; simp [cntI]⟩ (fun m σ G2 _ ⟨_, _, _, s, _⟩ => s) ?_ ?_⟩
        · rintro m y σ G2 hy ⟨o4', rfl, g2, sq2, hB2, hab2⟩
          have hm : m < fs.length := by have := (List.getElem?_eq_some_iff.mp hy).1; simpa using this
          have hyv : y = .int fs[m] := by
            rw [List.getElem?_map, List.getElem?_eq_getElem hm] at hy
            simpa using hy.symm
          subst hyv
          obtain ⟨f0, f1⟩ := hfr _ (List.getElem_mem hm)
          have ct : ∀ j : Int, cntI (fs.take (m + 1)) j = cntI (fs.take m) j + (if fs[m] = j then 1 else 0) := fun j => cntI_take hm
          have hc4 : ∀ j : Int, cntI (fs.take m) j ≤ 4 := fun j => Nat.le_trans (cnt_le _ _) (by rw [List.length_take]; omega)
          generalize fs[m] = f0' at f0 f1 ct
          obtain ⟨b, hb, hat⟩ := at_refs (as := as) f0 (by rw [hal]; exact f1)
          have hG2b := hab2 _ _ hb
          rw [show ((f0'.toNat : Nat) : Int) = f0' by omega] at hG2b
          obtain ⟨nb0, nbB, _⟩ := hrow _ _ hb
          have hh := hhl f0'
          have hc := hc4 f0'
          refine ⟨_, rfl, _, rfl, B, _, _, _, rfl, rfl, .of hB2, hat, .inl ⟨rfl, _, .of hG2b⟩, _, rfl, b, _, _, rfl, rfl, hG2b, small (by rw [List.length_map, List.length_append, List.length_replicate]; omega), ?_⟩
          refine ⟨_, rfl, g2.turn nb0, ?_, by rw [upd_ne nbB.symm]; exact hB2, fun j c z => ?_⟩
          · exact (g2.turn nb0).seqT sqvH
          · by_cases e : c = b
            · subst e
              have ej := as_inj hnd z hb
              subst ej
              rw [upd_same, show ((f0'.toNat : Nat) : Int) = f0' by omega, ct, if_pos rfl, List.replicate_succ', ← List.append_assoc, List.map_append (l₂ := [(i : Int)])]
              rfl
            · have nj : ¬ f0' = (j : Int) := fun w => e (by
                have : j = f0'.toNat := by omega
                subst this
                rw [z] at hb
                exact Option.some.inj hb)
              rw [upd_ne e, ct, if_neg nj]
              exact hab2 j c z
        · rintro σ G2 ⟨o4', rfl, g2, sq2, hB2, hab2⟩
          rw [List.length_map, List.take_length] at hab2
          exact ⟨_, _, rfl, g2, hB2, fun j b z => by rw [eh]; exact hab2 j b z⟩
      · rintro σ G ⟨o3, o4, rfl, g, hBG, hab⟩
        exact key _ _ ⟨_, _, rfl, g, hBG, hab⟩
    rintro _ H2 ⟨o3, o4, rfl, s2, hB2, hab⟩
    refine tSeq_cut (fun σ' H' => ∃ D : Addr, σ' = [some (.ref a), some (.ref l), some (.ref B), o3, o4, some (.ref D)] ∧ Same H2 H' ∧ H2 D = none ∧ H' D = some (.lst [])) ?_ fun key => ?_
    rotate_left
    · refine ⟨Nat.zero_le _, fun D hD => ?_⟩
      exact key _ _ ⟨D, rfl, Same.new hD, hD, upd_same⟩
    rintro _ H3 ⟨D, rfl, s3, nD, hD⟩
    obtain ⟨ks, hks⟩ : ∃ ks, ks = keptF xs.length fl := ⟨_, rfl⟩
    rw [← hks] at hab
    have AT : ∀ (G : Hp), Same H2 G → ∀ x : Int, 0 ≤ x → x < (xs.length : Int) → ∃ b, atI (as.map V.ref) x = some (.ref b) ∧ G b = some (.lst ((holdR xs ks x).map V.int)) := fun G g x x0 x1 => by
      obtain ⟨b, hb, hat⟩ := at_refs (as := as) x0 (by rw [hal]; exact x1)
      have := hab _ _ hb
      rw [show ((x.toNat : Nat) : Int) = x by omega] at this
      exact ⟨b, hat, g _ _ this⟩
    refine tSeq_cut (fun σ' H' => ∃ (o3 : Option V) (du : List V), σ' = [some (.ref a), some (.ref l), some (.ref B), o3, o4, some (.ref D)] ∧ Same H2 H' ∧ H' D = some (.lst du) ∧ Reps K H' du ((bentR xs ks).map tI)) ?_ fun key => ?_
    rotate_left
    · refine ⟨_, rfl, a, us, rfl, .inl ((s2.trans s3).seq hq), _, rfl, by omega, by omega, ?_⟩
      rw [ul]
      refine for_range (lo := 0) (n := xs.length) (fun i σ G => ∃ (o3 : Option V) (du : List V), σ = [some (.ref a), some (.ref l), some (.ref B), o3, o4, some (.ref D)] ∧ Same H2 G ∧ G D = some (.lst du) ∧ Reps K G du ((((upN i).filter fun p => fl p && goodR xs ks p).map (pairR xs ks)).map tI))
        ⟨_, [], rfl, s3, hD, rfl⟩ ?_ ?_
      · rintro i σ G hi ⟨o3', du, rfl, g, hDG, rD⟩
        rw [show (0 : Int) + (i : Int) = (i : Int) by omega]
        have dul : du.length ≤ i := by
          have := rD.length
          rw [List.length_map, List.length_map] at this
          have h2 : ((upN i).filter fun p => fl p && goodR xs ks p).length ≤ (upN i).length := List.length_filter_le ..
          rw [upN_len] at h2
          omega
        have e5 : ((upN (i + 1)).filter fun p => fl p && goodR xs ks p) = ((upN i).filter fun p => fl p && goodR xs ks p) ++ (if (fl (i : Int) && goodR xs ks (i : Int)) = true then [(i : Int)] else []) := by
          rw [upN_succ, List.filter_append]
          congr 1
          by_cases hz : (fl (i : Int) && goodR xs ks (i : Int)) = true
          · rw [if_pos hz, List.filter_cons_of_pos (by exact hz), List.filter_nil]
          · rw [if_neg hz, List.filter_cons_of_neg (by exact hz), List.filter_nil]
        have stay : ¬ (fl (i : Int) && goodR xs ks (i : Int)) = true → ∀ G', Same H2 G' → G' D = some (.lst du) → Reps K G' du ((((upN i).filter fun p => fl p && goodR xs ks p).map (pairR xs ks)).map tI) → Reps K G' du ((((upN (i + 1)).filter fun p => fl p && goodR xs ks p).map (pairR xs ks)).map tI) := fun hz G' _ _ rr => by
          rw [e5, if_neg hz, List.append_nil]
          exact rr
        have gH := s2.trans g
        obtain ⟨b, hatb, hb⟩ := AT G g (i : Int) (by omega) (by omega)
        refine ⟨_, rfl, _, rfl, l, _, _, _, rfl, rfl, gH.seq hS, flV_at (by omega) (by omega), _, rfl, ?_⟩
        by_cases hf : fl (i : Int) = true
        rotate_left
        · refine ifN hf ?_
          refine ifN (by simp) ?_
          exact ⟨_, du, rfl, g, hDG, stay (by simp [hf]) G g hDG rD⟩
        refine ifP hf ?_
        refine ⟨_, rfl, _, rfl, B, _, _, _, rfl, rfl, .of (g _ _ hB2), hatb, b, _, rfl, .inl (.of hb), rfl, _, rfl, ?_⟩
        rw [List.length_map]
        by_cases e1 : (holdR xs ks (i : Int)).length = 1
        rotate_left
        · refine ifN (fun w => e1 (by have : ((holdR xs ks (i : Int)).length : Int) = 1 := by simpa using w
                                      omega)) ?_
          refine ifN (by simp) ?_
          exact ⟨_, du, rfl, g, hDG, stay (by unfold goodR; rw [decide_eq_false e1]; simp) G g hDG rD⟩
        refine ifP (by rw [e1]; rfl) ?_
        obtain ⟨h0, eh0⟩ : ∃ h0, holdR xs ks (i : Int) = [h0] := by
          match hz : holdR xs ks (i : Int), e1 with
          | [h0], _ => exact ⟨h0, rfl⟩
        have hh0 : h0 ∈ keptF xs.length fl := by
          rw [← hks]
          refine holdR_mem (f := (i : Int)) (xs := xs) ?_
          rw [eh0]
          simp
        obtain ⟨⟨h00, h01⟩, _⟩ := mem_kept.mp hh0
        obtain ⟨c, hatc, hc⟩ := AT G g h0 h00 h01
        rw [eh0] at hb
        refine ⟨_, rfl, _, rfl, _, rfl, B, _, _, _, rfl, rfl, .of (g _ _ hB2), hatb, b, _, _, _, rfl, rfl, .of hb, rfl, B, _, _, _, rfl, rfl, .of (g _ _ hB2), hatc, c, _, rfl, .inl (.of hc), rfl, _, rfl, ?_⟩
        rw [List.length_map]
        by_cases e2 : (holdR xs ks h0).length = 0
        rotate_left
        · refine ifN (fun w => e2 (by have : ((holdR xs ks h0).length : Int) = 0 := by simpa using w
                                      omega)) ?_
          exact ⟨_, du, rfl, g, hDG, stay (by unfold goodR; rw [eh0]; show ¬ (_ && (_ && decide ((holdR xs ks h0).length = 0))) = true; rw [decide_eq_false e2]; simp) G g hDG rD⟩
        refine ifP (by rw [e2]; rfl) ?_
        refine ⟨_, rfl, .inl ⟨rfl, _, .of hDG⟩, _, rfl, _, rfl, _, rfl, B, _, _, _, rfl, rfl, .of (g _ _ hB2), hatb, b, _, _, _, rfl, rfl, .of hb, rfl, smallE (by simp), fun T1 hT1 => ?_⟩
        have g1 : Same G (upd G T1 (.tup [.int i, .int h0])) := Same.new hT1
        have v1 : (upd G T1 (.tup [.int i, .int h0])) T1 = some (.tup [.int i, .int h0]) := upd_same
        generalize upd G T1 (.tup [.int i, .int h0]) = G1 at g1 v1
        have hDG1 := g1 _ _ hDG
        refine ⟨D, _, _, rfl, rfl, hDG1, small (by omega), ?_⟩
        refine ⟨_, _, rfl, (g.trans g1).turn nD, upd_same, ?_⟩
        have gd : (fl (i : Int) && goodR xs ks (i : Int)) = true := by
          unfold goodR
          rw [hf, eh0]
          show (true && (decide (1 = 1) && decide ((holdR xs ks h0).length = 0))) = true
          rw [e2]
          rfl
        rw [e5, if_pos gd, List.map_append]
        have ep : [(i : Int)].map (pairR xs ks) = [[(i : Int), h0]] := by
          show [pairR xs ks (i : Int)] = _
          unfold pairR
          rw [eh0]
          rfl
        rw [ep]
        exact push_TI hDG1 (Reps.same g1 rD) (TI.mk (.of v1))
      · rintro σ G ⟨o3', du, rfl, g, hDG, rD⟩
        rw [bentR_flags, ← hks] at rD
        exact key _ _ ⟨_, du, rfl, g, hDG, rD⟩
    rintro _ H4 ⟨o3', du, rfl, s4, hD4, rD4⟩
    rw [hks] at rD4
    exact ⟨_, rfl, k D du H4 (s2.free nD) (s2.trans s4) hD4 rD4⟩
abbrev s_left_with : Stmt := top 22
theorem sc_left_with : FnScope ["shape", "kept", "spots"] ["shape", "kept"] (defScope s_left_with) := ⟨rfl, rfl, rfl, by decide +kernel, rfl, by decide +kernel, by decide +kernel⟩
theorem nd_left_with : (["shape", "kept", "spots"] : List Str).Nodup := by decide +kernel

theorem ok_left_with {f : Addr} {fd : FuncData} (F : Fun K "left_with" "left_with" s_left_with f fd) (T : Txt K mg C_HoleError C_NoShape C_NoText C_NoName C_NoLevel C_NoChain C_NoTable C_NoTurn C_NoMap C_NoGlue C_NoPrime C_NoStage C_NoPair C_NoRow C_NoPiece C_NoRound) (h_spots_of : Has P w K mg base "spots_of" ["things"] 1 (sp_spots_of K)) (h_called_by : Has P w K mg base "called_by" ["spots", "piece"] 1 (sp_calledD K)) : FnOk P w K mg base CX0 2 f fd ["shape", "kept"] (sp_left_with K) := by
  refine F.ok sc_left_with (fun vs H Q E h => ?_) (fun cdv A outer s H vs Q E hr h => ?_)
  · obtain ⟨a, b, ys, ls, rfl, hL, hS, hnd, hrg, hcl, hll, h4, k⟩ := h
    rfl
  · obtain ⟨a, b, ys, ls, rfl, hL, hS, hnd, hrg, hcl, hll, h4, k⟩ := h
    refine ⟨_, (pss_cons (ps_set (i := 2) nd_left_with (by rfl) (by first | exact Or.inl rfl | exact Or.inr rfl) (pe_callH h_spots_of hr (by rfl) (pa_cons (pv 1) pa_nil)))
      (pss_one (ps_ret (pe_comp (N' := ["old", "spots", "shape"]) (cap := [none, some 2, some 0]) (by rfl) (by kernel_rfl) (kpi_list (K := K) (pv 1)) (fun _ _ _ _ => (pg_name (i := 0) ndc_1 (by rfl) (by first | exact Or.inl rfl | exact Or.inr rfl))) (fun _ _ _ _ => pts_nil) (fun _ _ _ _ => (pe_callH h_called_by hr (by rfl) (pa_cons (pv 1) (pa_cons (pe_ix (kix_list (K := K)) (pv 2) (pv 0) (fun _ _ => rfl)) pa_nil)))))))), ?_⟩
    refine tSeq_cut (fun σ' H' => ∃ S : Addr, σ' = [some (.ref a), some (.ref b), some (.ref S)] ∧ Same H H' ∧ H' S = some (.dK (cK (zipK ls)))) ?_ fun key => ?_
    rotate_left
    · refine ⟨_, rfl, b, ls, rfl, hS, hnd, hll, fun S H' hS' s' hS1 => ?_⟩
      exact key _ _ ⟨S, rfl, s', hS1⟩
    rintro _ H1 ⟨S, rfl, s1, hSd⟩
    refine ⟨_, rfl, b, rfl, ⟨_, s1.seq hS⟩, fun D hD => ?_⟩
    refine comp_list0 (K := K) (a := b) (xs := ls.map V.int) (fun i us τ G => Same H1 G ∧ G D = some (.lst us) ∧ Reps K G us (((ls.take i).map fun l => (ys.getD l.toNat []).map (ren ls)).map tI) ∧ ∃ o, τ = [o, some (.ref S), some (.ref a)])
      ⟨Same.new hD, upd_same, rfl, none, rfl⟩ (fun i us τ G _ ⟨g, _⟩ => (s1.trans g).seq hS) ?_ ?_
    · rintro i x us τ G hx ⟨g, hDG, rG, o, rfl⟩
      have hi : i < ls.length := by have := (List.getElem?_eq_some_iff.mp hx).1; simpa using this
      have hxv : x = .int ls[i] := by
        rw [List.getElem?_map, List.getElem?_eq_getElem hi] at hx
        simpa using hx.symm
      subst hxv
      have hlm := List.getElem_mem hi
      obtain ⟨l0, l1⟩ := hrg _ hlm
      have hc := hcl _ hlm
      have e5 : (ls.take (i + 1)).map (fun l => (ys.getD l.toNat []).map (ren ls)) = (ls.take i).map (fun l => (ys.getD l.toNat []).map (ren ls)) ++ [(ys.getD ls[i].toNat []).map (ren ls)] := by
        rw [List.take_succ, List.getElem?_eq_getElem hi, List.map_append]
        rfl
      generalize ls[i] = l at l0 l1 hc e5
      obtain ⟨yu, vy, hyq, hvy, tvy⟩ := LT.get (Rep.same (s1.trans g) hL) l0 l1
      have hl4 : (ys.getD l.toNat []).length ≤ 4 := h4 _ (getD_mem_of (by omega))
      have usl : us.length ≤ 1000 := by have := rG.length; rw [List.length_map, List.length_map, List.length_take] at this; omega
      refine ⟨_, rfl, _, rfl, _, rfl, a, yu, _, vy, rfl, rfl, hyq, hvy, S, vy, zipK ls, ys.getD l.toNat [], ren ls, rfl, g _ _ hSd, tvy, by omega, fun f hf => zipK_look hnd (hc f hf), fun w G2 g2 tw => ?_⟩
      refine ⟨g2 _ _ hDG, small (by omega), (g.trans g2).turn hD, upd_same, ?_, _, rfl⟩
      rw [e5]
      exact push_TI (g2 _ _ hDG) (Reps.same g2 rG) tw
    · rintro us τ G ⟨g, hDG, rG, _⟩
      rw [List.length_map, List.take_length] at rG
      exact k D us G (s1.free hD) (s1.trans g) hDG rG
abbrev s_bent : Stmt := top 25
theorem sc_bent : FnScope ["shape", "told", "face", "holders"] ["shape"] (defScope s_bent) := ⟨rfl, rfl, rfl, by decide +kernel, rfl, by decide +kernel, by decide +kernel⟩
theorem nd_bent : (["shape", "told", "face", "holders"] : List Str).Nodup := by decide +kernel

theorem ok_bent {f : Addr} {fd : FuncData} (F : Fun K "bent" "bent" s_bent f fd) (T : Txt K mg C_HoleError C_NoShape C_NoText C_NoName C_NoLevel C_NoChain C_NoTable C_NoTurn C_NoMap C_NoGlue C_NoPrime C_NoStage C_NoPair C_NoRow C_NoPiece C_NoRound) (h_holders_of : Has P w K mg base "holders_of" ["shape", "face"] 1 (sp_holders_of K)) : FnOk P w K mg base CX0 2 f fd ["shape"] (sp_bent K) := by
  refine F.ok sc_bent (fun vs H Q E h => ?_) (fun cdv A outer s H vs Q E hr h => ?_)
  · obtain ⟨a, xs, rfl, hL, hxl, h4, k⟩ := h
    rfl
  · obtain ⟨a, xs, rfl, hL, hxl, h4, k⟩ := h
    refine ⟨_, (pss_cons (ps_set (i := 1) nd_bent (by rfl) (by first | exact Or.inl rfl | exact Or.inr rfl) (pe_lst pa_nil))
      (pss_cons (ps_for PassesOwn.never rfl (pi_range1 (by rfl) T.n_range (pa_cons (pe_callB (kcall_len_seq (K := K)) (by rfl) T.n_len PySem.boot_len (pa_cons (pv 0) pa_nil)) pa_nil)) (pg_name (i := 2) nd_bent (by rfl) (by first | exact Or.inl rfl | exact Or.inr rfl)) (pss_cons (ps_set (i := 3) nd_bent (by rfl) (by first | exact Or.inl rfl | exact Or.inr rfl) (pe_callH h_holders_of hr (by rfl) (pa_cons (pv 0) (pa_cons (pv 2) pa_nil))))
      (pss_one (ps_if (PW.pt (pw_and (pt_cmpR op_eq (pe_callB (kcall_len_seq (K := K)) (by rfl) T.n_len PySem.boot_len (pa_cons (pv 3) pa_nil)) pe_int (nomark _)) (pw_and1 (pt_cmpR op_eq (pe_callB (kcall_len_seq (K := K)) (by rfl) T.n_len PySem.boot_len (pa_cons (pe_callH h_holders_of hr (by rfl) (pa_cons (pv 0) (pa_cons (pe_ix (kix_list (K := K)) (pv 3) pe_int (fun _ _ => rfl)) pa_nil))) pa_nil)) pe_int (nomark _))))) (pss_one (ps_expr (kpe_bm (K := K) PySem.F.plainAttrs_list PySem.F.slot_list_append PySem.F.type_list_append mt_append (pv 1) (pa_cons (pe_tup (pa_cons (pv 2) (pa_cons (pe_ix (kix_list (K := K)) (pv 3) pe_int (fun _ _ => rfl)) pa_nil))) pa_nil)))) pss_nil))))
      (pss_one (ps_ret (pv 1))))), ?_⟩
    obtain ⟨us, hq, ul⟩ := LT.len hL
    refine ⟨Nat.zero_le _, fun D hD => ?_⟩
    have s0 : Same H (upd H D (.lst [])) := Same.new hD
    refine ⟨_, rfl, a, us, rfl, .inl (s0.seq hq), _, rfl, by omega, by omega, ?_⟩
    rw [ul]
    refine for_range (lo := 0) (n := xs.length) (fun i σ G => ∃ o2 o3 du, σ = [some (.ref a), some (.ref D), o2, o3] ∧ Same H G ∧ G D = some (.lst du) ∧ Reps K G du ((bentN xs i).map tI))
      ⟨none, none, [], rfl, s0, upd_same, rfl⟩ ?_ ?_
    · rintro i σ G hi ⟨o2, o3, du, rfl, g, hDG, rD⟩
      rw [show (0 : Int) + (i : Int) = (i : Int) by omega]
      have dul : du.length = (bentN xs i).length := by have := rD.length; simpa using this
      have bl := bentN_len xs i
      have eb : bentN xs (i + 1) = (if (hold xs (i : Int)).length = 1 ∧ (hold xs ((hold xs (i : Int)).getD 0 0)).length = 0 then bentN xs i ++ [[(i : Int), (hold xs (i : Int)).getD 0 0]] else bentN xs i) := rfl
      refine ⟨_, rfl, _, rfl, a, xs, _, rfl, Rep.same g hL, hxl, h4, fun Ho G1 hHo g1 hHo1 => ?_⟩
      generalize hold xs (i : Int) = hs at hHo1 eb
      have hDG1 := g1 _ _ hDG
      have rD1 := Reps.same g1 rD
      refine ⟨_, rfl, Ho, _, rfl, .inl (.of hHo1), rfl, _, rfl, ?_⟩
      rw [List.length_map]
      refine ite2 (fun h1 => ?_) (fun h1 => ?_)
      rotate_left
      · have e1 : ¬ hs.length = 1 := fun z => h1 (by rw [z]; rfl)
        refine ifN (by simp) ?_
        refine ⟨_, _, du, rfl, g.trans g1, hDG1, ?_⟩
        rw [eb, if_neg (fun z => e1 z.1)]
        exact rD1
      have e1 : hs.length = 1 := by
        have : (hs.length : Int) = 1 := by simpa using h1
        omega
      obtain ⟨h0, rfl⟩ : ∃ h0, hs = [h0] := by
        match hs, e1 with
        | [h0], _ => exact ⟨h0, rfl⟩
      refine ⟨_, rfl, _, rfl, Ho, _, _, _, rfl, rfl, .of hHo1, rfl, a, xs, h0, rfl, Rep.same (g.trans g1) hL, hxl, h4, fun H2 G2 hH2 g2 hH22 => ?_⟩
      refine ⟨H2, _, rfl, .inl (.of hH22), rfl, _, rfl, ?_⟩
      rw [List.length_map]
      have gg := g.trans (g1.trans g2)
      have hDG2 := g2 _ _ hDG1
      have rD2 := Reps.same g2 rD1
      refine ite2 (fun h2 => ?_) (fun h2 => ?_)
      · have e2 : (hold xs h0).length = 0 := by
          have : ((hold xs h0).length : Int) = 0 := by simpa using h2
          omega
        refine ⟨_, rfl, .inl ⟨rfl, _, .of hDG2⟩, _, rfl, _, rfl, Ho, _, _, _, rfl, rfl, .of (g2 _ _ hHo1), rfl, smallE (by simp), fun T1 hT1 => ?_⟩
        have g3 : Same G2 (upd G2 T1 (.tup [.int i, .int h0])) := Same.new hT1
        have v3 : (upd G2 T1 (.tup [.int i, .int h0])) T1 = some (.tup [.int i, .int h0]) := upd_same
        generalize upd G2 T1 (.tup [.int i, .int h0]) = G3 at g3 v3
        have hDG3 := g3 _ _ hDG2
        refine ⟨D, _, _, rfl, rfl, hDG3, small (by omega), ?_⟩
        refine ⟨_, _, _, rfl, (gg.trans g3).turn hD, upd_same, ?_⟩
        rw [eb, if_pos ⟨rfl, e2⟩]
        exact push_TI hDG3 (Reps.same g3 rD2) (TI.mk (.of v3))
      · have e2 : ¬ (hold xs h0).length = 0 := fun z => h2 (by rw [z]; rfl)
        refine ⟨_, _, du, rfl, gg, hDG2, ?_⟩
        rw [eb, if_neg (fun z => e2 z.2)]
        exact rD2
    · rintro σ G ⟨o2, o3, du, rfl, g, hDG, rD⟩
      exact ⟨_, rfl, k D du G hD g hDG rD⟩
abbrev s_L_fits : Stmt := top 34
theorem sc_L_fits : FnScope ["_law_pieces", "_law_thing", "_law_face", "_law_j"] ["_law_pieces", "_law_thing"] (defScope s_L_fits) := ⟨rfl, rfl, rfl, by decide +kernel, rfl, by decide +kernel, by decide +kernel⟩
theorem nd_L_fits : (["_law_pieces", "_law_thing", "_law_face", "_law_j"] : List Str).Nodup := by decide +kernel

theorem ok_L_fits {f : Addr} {fd : FuncData} (F : Fun K "_law_fits" "_law_fits" s_L_fits f fd) (T : Txt K mg C_HoleError C_NoShape C_NoText C_NoName C_NoLevel C_NoChain C_NoTable C_NoTurn C_NoMap C_NoGlue C_NoPrime C_NoStage C_NoPair C_NoRow C_NoPiece C_NoRound) (h_L_level : Has P w K mg base "_law_level" ["_law_piece"] 1 (sp_level_of K)) (h_L_meets : Has P w K mg base "_law_meets" ["_law_pieces", "_law_faces", "_law_face"] 1 (sp_L_meets K)) (h_L_whole : Has P w K mg base "_law_whole" ["_law_found"] 1 (sp_L_whole K)) : FnOk P w K mg base CX0 2 f fd ["_law_pieces", "_law_thing"] (sp_fitsL K) := by
  refine F.ok sc_L_fits (fun vs H Q E h => ?_) (fun cdv A outer s H vs Q E hr h => ?_)
  · obtain ⟨a, v, xs, p, rfl, hL, hv, hC, hxl, k⟩ := h
    rfl
  · obtain ⟨a, v, xs, p, rfl, hL, hv, hC, hxl, k⟩ := h
    have hu8 : (A.deeper (PyProof.Rows.envOfC "_law_fits" (defScope s_L_fits) s.heap.objs.size f cdv)).units + 8 < cLine := by have := hr.units; omega
    refine ⟨_, (pss_cons (ps_if (PW.pt (pw_or (pt_not (pt_val (pe_callB (kcall_isinst (K := K)) (by rfl) T.n_isinstance boot_isinstanceB (pa_cons (pv 1) (pa_cons (pe_bltn (v := .ty "tuple") rfl T.n_tuple boot_tupleT rfl) pa_nil))))) (pw_or1 (pt_cmpR (kop_notInD (K := K) hu8) (pe_callB (kcall_len_seq (K := K)) (by rfl) T.n_len PySem.boot_len (pa_cons (pv 1) pa_nil)) (pe_tup (pa_cons pe_int (pa_cons pe_int (pa_cons pe_int (pa_cons pe_int pa_nil))))) rfl)))) (pss_one (ps_ret pe_bl)) pss_nil)
      (pss_cons (ps_for PassesOwn.never rfl (kpi_tup (K := K) (pv 1)) (pg_name (i := 2) nd_L_fits (by rfl) (by first | exact Or.inl rfl | exact Or.inr rfl)) (pss_cons (ps_if (PW.pt (pw_or (pt_not (pt_val (pe_callH h_L_whole hr (by rfl) (pa_cons (pv 2) pa_nil)))) (pw_or (pt_cmpR op_lt (pv 2) pe_int (nomark _)) (pw_or1 (pt_cmpR op_ge (pv 2) (pe_callB (kcall_len_seq (K := K)) (by rfl) T.n_len PySem.boot_len (pa_cons (pv 0) pa_nil)) (nomark _)))))) (pss_one (ps_ret pe_bl)) pss_nil)
      (pss_one (ps_if (pt_cmpR op_ne (pe_op op_add (pe_callH h_L_level hr (by rfl) (pa_cons (pe_ix (kix_list (K := K)) (pv 0) (pv 2) (fun _ _ => rfl)) pa_nil)) pe_int) (pe_callH h_L_level hr (by rfl) (pa_cons (pv 1) pa_nil)) (nomark _)) (pss_one (ps_ret pe_bl)) pss_nil))))
      (pss_cons (ps_for PassesOwn.never rfl (pi_range1 (by rfl) T.n_range (pa_cons (pe_callB (kcall_len_seq (K := K)) (by rfl) T.n_len PySem.boot_len (pa_cons (pv 1) pa_nil)) pa_nil)) (pg_name (i := 3) nd_L_fits (by rfl) (by first | exact Or.inl rfl | exact Or.inr rfl)) (pss_one (ps_if (pt_not (pt_val (pe_callH h_L_meets hr (by rfl) (pa_cons (pv 0) (pa_cons (pe_slice (ksl_tupW (K := K)) (pv 1) po_none (po_some (pv 3))) (pa_cons (pe_ix (kix_tup (K := K)) (pv 1) (pv 3) (fun _ _ => rfl)) pa_nil)))))) (pss_one (ps_ret pe_bl)) pss_nil)))
      (pss_one (ps_ret pe_bl))))), ?_⟩
    obtain ⟨us, hq, ul⟩ := LT.len hL
    obtain ⟨ap, rfl, sqp⟩ := TI.sq hv
    have no : ∀ G, Same H G → Q (.bl false) G := fun G g => k false G g (fun z => by cases z)
    refine tSeq_cut (fun σ' H' => σ' = [some (.ref a), some (.ref ap), none, none] ∧ Same H H' ∧ cntB p.length = true) ?_ fun key => ?_
    rotate_left
    · refine ⟨_, rfl, _, _, tI p, rfl, .inr (.inr (.inr (.inl rfl))), hv, _, rfl, ?_⟩
      refine ifN (by simp [isD, tI]) ?_
      refine ⟨_, rfl, ap, _, rfl, .inr sqp, smallE (by simp), fun C hC' => ?_⟩
      have sC : Same H (upd H C (.tup [.int 0, .int 2, .int 3, .int 4])) := Same.new hC'
      refine ⟨.int ((p.map V.int).length : Int), nums [0, 2, 3, 4], rfl, .inr ⟨C, _, rfl, .of upd_same, reps_nums.mpr rfl⟩, (by rw [deps_nums]; decide), _, rfl, ?_⟩
      rw [List.length_map]
      have cnt : (!(nums [0, 2, 3, 4]).any fun e => eqD e (.int (p.length : Int))) = !cntB p.length := by
        have : (nums [0, 2, 3, 4]).any (fun e => eqD e (.int (p.length : Int))) = cntB p.length := by
          simp only [nums, List.map_cons, List.map_nil, List.any_cons, List.any_nil, eqD, cntB]
          rw [Bool.eq_iff_iff]
          simp only [Bool.or_eq_true, beq_iff_eq, Bool.or_false]
          omega
        rw [this]
      by_cases hc : cntB p.length = true
      · refine ifN (by rw [if_pos rfl, cnt, hc]; simp) ?_
        exact key _ _ ⟨rfl, sC, hc⟩
      · have hc' : cntB p.length = false := by simpa using hc
        refine ifP (by rw [if_pos rfl, cnt, hc']; rfl) ?_
        exact no _ sC
    rintro _ H1 ⟨rfl, s1, hc⟩
    have hcnt : p.length = 0 ∨ p.length = 2 ∨ p.length = 3 ∨ p.length = 4 := by have := cntB_le hc; unfold cntB at hc; simp only [Bool.or_eq_true, beq_iff_eq] at hc; omega
    refine tSeq_cut (fun σ' H' => ∃ o2, σ' = [some (.ref a), some (.ref ap), o2, none] ∧ H1 = H' ∧ ∀ x ∈ p, 0 ≤ x ∧ x < (xs.length : Int) ∧ levI (xs.getD x.toNat []).length + 1 = levI p.length) ?_ fun key => ?_
    rotate_left
    · refine ⟨_, rfl, ap, rfl, ⟨_, s1.seqT sqp⟩, for_tup (K := K) (a := ap) (xs := p.map V.int) (fun i σ G => ∃ o2, σ = [some (.ref a), some (.ref ap), o2, none] ∧ H1 = G ∧ ∀ x ∈ p.take i, 0 ≤ x ∧ x < (xs.length : Int) ∧ levI (xs.getD x.toNat []).length + 1 = levI p.length)
        ⟨_, rfl, rfl, fun x hx => by simp at hx⟩ (fun i σ G _ ⟨_, _, e, _⟩ => e ▸ s1.seqT sqp) ?_ ?_⟩
      · rintro i y σ G hy ⟨o2, rfl, rfl, hall⟩
        have hi : i < p.length := by have := (List.getElem?_eq_some_iff.mp hy).1; simpa using this
        have hyv : y = .int p[i] := by
          rw [List.getElem?_map, List.getElem?_eq_getElem hi] at hy
          simpa using hy.symm
        subst hyv
        have htk : ∀ x ∈ p.take (i + 1), x ∈ p.take i ∨ x = p[i] := fun x hx => by
          rw [List.take_succ, List.getElem?_eq_getElem hi] at hx
          rcases List.mem_append.mp hx with z | z
          · exact .inl z
          · exact .inr (by simpa using z)
        generalize p[i] = x at htk
        refine ⟨_, rfl, .int x, .int x, rfl, rfl, _, rfl, ?_⟩
        refine ifN (by simp [wholeD, isD]) ?_
        refine ⟨_, rfl, _, _, rfl, rfl, _, rfl, ?_⟩
        by_cases h0 : 0 ≤ x
        rotate_left
        · refine ifP (by simp; omega) ?_
          exact no _ s1
        refine ifN (by simp; omega) ?_
        refine ⟨_, rfl, _, rfl, a, us, rfl, .inl (s1.seq hq), _, _, rfl, rfl, _, rfl, ?_⟩
        rw [ul]
        by_cases h1 : x < (xs.length : Int)
        rotate_left
        · refine ifP (by simp; omega) ?_
          exact no _ s1
        refine ifN (by simp; omega) ?_
        obtain ⟨xu, vx, hxq, hvx, tvx⟩ := LT.get (Rep.same s1 hL) h0 h1
        refine ⟨_, rfl, _, rfl, a, xu, _, vx, rfl, rfl, hxq, hvx, vx, nums (xs.getD x.toNat []), rfl, .inr tvx, _, _, rfl, rfl, _, rfl, .ref ap, nums p, rfl, .inr (TI.same s1 hv), rfl, _, rfl, ?_⟩
        rw [show (nums (xs.getD x.toNat [])).length = (xs.getD x.toNat []).length from List.length_map .., show (nums p).length = p.length from List.length_map ..]
        by_cases h2 : levI (xs.getD x.toNat []).length + 1 = levI p.length
        · refine ifN (eqI h2) ?_
          refine ⟨_, rfl, rfl, fun z hz => ?_⟩
          rcases htk z hz with q | q
          · exact hall z q
          · rw [q]; exact ⟨h0, h1, h2⟩
        · refine ifP (neI h2) ?_
          exact no _ s1
      · rintro σ G ⟨o2, rfl, rfl, hall⟩
        rw [List.length_map, List.take_length] at hall
        exact key _ _ ⟨_, rfl, rfl, hall⟩
    rintro _ _ ⟨o2, rfl, rfl, hall⟩
    have hp4 : p.length ≤ 4 := by omega
    refine ⟨_, rfl, ap, _, rfl, .inr (s1.seqT sqp), _, rfl, by rw [List.length_map]; omega, by rw [List.length_map]; omega, ?_⟩
    rw [List.length_map]
    refine for_range (lo := 0) (n := p.length) (fun i σ G => ∃ o3, σ = [some (.ref a), some (.ref ap), o2, o3] ∧ Same H G) ⟨_, rfl, s1⟩ ?_ ?_
    · rintro i σ G hi ⟨o3, rfl, g⟩
      rw [show (0 : Int) + (i : Int) = (i : Int) by omega]
      have hne : ¬ p.length = 0 := by omega
      have fin : ∀ (fs : List Int) (w : V) (G' : Hp), Same H G' → TI K G' w fs → fs.length ≤ i → (∀ x ∈ fs, x ∈ p) → sp_L_meets K [.ref a, w, .int (p.getD i 0)] G' (fun u G'' => ∃ c, u = .bl c ∧ G'' = G') (fun _ _ _ => True) := fun fs w G' g' tw hl hsub => by
        obtain ⟨x0, x1, x2⟩ := hall _ (getD_mem_of hi)
        have hcx := hC.at x0 x1
        refine ⟨a, w, xs, fs, _, rfl, Rep.same g' hL, tw, x0, x1, fun y hy => ⟨(hall y (hsub y hy)).1, (hall y (hsub y hy)).2.1⟩, by omega, ?_, fun c => ⟨c, rfl, rfl⟩⟩
        rw [levI_eq, levI_eq] at x2
        by_cases hz : (xs.getD (p.getD i 0).toNat []).length = 0
        · exact .inl hz
        · refine .inr ⟨by omega, fun y hy => ?_⟩
          obtain ⟨y0, y1, y2⟩ := hall y (hsub y hy)
          have hcy := hC.at y0 y1
          rw [levI_eq, levI_eq] at y2
          omega
      have hatp : atI (p.map V.int) (i : Int) = some (.int (p.getD i 0)) := by
        have := at_int (sp := p) (x := (i : Int)) (by omega) (by omega)
        rwa [Int.toNat_natCast] at this
      refine ⟨_, rfl, _, rfl, _, rfl, _, rfl, ap, _, rfl, g.seqT sqp, ?_, fun T1 G1 g1 q1 => ?_⟩
      · rw [List.length_map]
        rintro ⟨_, z⟩
        rw [HT.sIx_nat] at z
        omega
      rw [cut_take, ← List.map_take] at q1
      have gg := g.trans g1
      obtain ⟨a', w', xs', fs', f', e1, m1, m2, m3, m4, m5, m6, m7, m8⟩ := fin (p.take i) (.ref T1) G1 gg (TI.mk q1) (by rw [List.length_take]; omega) (fun x hx => List.mem_of_mem_take hx)
      refine ⟨_, rfl, _, rfl, ap, _, _, _, rfl, rfl, g1.seqT (g.seqT sqp), hatp, a', w', xs', fs', f', e1, m1, m2, m3, m4, m5, m6, m7, fun c => ?_⟩
      refine ⟨_, rfl, ?_⟩
      refine ite2 (fun _ => no _ gg) (fun _ => ⟨_, rfl, gg⟩)
    · rintro σ G ⟨o3, rfl, g⟩
      exact k true G g (fun _ => ⟨hcnt, fun x hx => ⟨(hall x hx).1, (hall x hx).2.1⟩⟩)
abbrev s_L_side : Stmt := top 36
theorem sc_L_side : FnScope ["_law_pieces", "_law_cell", "_law_points"] ["_law_pieces", "_law_cell"] (defScope s_L_side) := ⟨rfl, rfl, rfl, by decide +kernel, rfl, by decide +kernel, by decide +kernel⟩
theorem nd_L_side : (["_law_pieces", "_law_cell", "_law_points"] : List Str).Nodup := by decide +kernel

theorem ok_L_side {f : Addr} {fd : FuncData} (F : Fun K "_law_side" "_law_side" s_L_side f fd) (T : Txt K mg C_HoleError C_NoShape C_NoText C_NoName C_NoLevel C_NoChain C_NoTable C_NoTurn C_NoMap C_NoGlue C_NoPrime C_NoStage C_NoPair C_NoRow C_NoPiece C_NoRound) (h_L_pick : Has P w K mg base "_law_pick" ["_law_cell", "_law_j", "_law_many"] 1 (sp_L_pick K)) : FnOk P w K mg base CX0 2 f fd ["_law_pieces", "_law_cell"] (sp_L_side K) := by
  refine F.ok sc_L_side (fun vs H Q E h => ?_) (fun cdv A outer s H vs Q E hr h => ?_)
  · obtain ⟨a, xs, c, rfl, hL, hxl, k⟩ := h
    rfl
  · obtain ⟨a, xs, c, rfl, hL, hxl, k⟩ := h
    refine ⟨_, (pss_cons (ps_setC (N' := ["_law_place", "_law_pieces"]) (cap := [none, some 0]) (i := 2) nd_L_side (by rfl) (by first | exact Or.inl rfl | exact Or.inr rfl) (by rfl) (by kernel_rfl) (pi_range1 (by rfl) T.n_range (pa_cons (pe_callB (kcall_len_seq (K := K)) (by rfl) T.n_len PySem.boot_len (pa_cons (pv 0) pa_nil)) pa_nil)) (fun _ _ _ _ => (pg_name (i := 0) ndc_4 (by rfl) (by first | exact Or.inl rfl | exact Or.inr rfl))) (fun _ _ _ _ => (pts_one (pt_cmpR op_eq (pe_callB (kcall_len_seq (K := K)) (by rfl) T.n_len PySem.boot_len (pa_cons (pe_ix (kix_list (K := K)) (pv 1) (pv 0) (fun _ _ => rfl)) pa_nil)) pe_int (nomark _)))) (fun _ _ _ _ => (pv 0)))
      (pss_cons (ps_if (pt_cmpR op_eq (pe_callB (kcall_len_seq (K := K)) (by rfl) T.n_len PySem.boot_len (pa_cons (pv 2) pa_nil)) pe_int (nomark _)) (pss_one (ps_ret (pe_tup pa_nil))) pss_nil)
      (pss_one (ps_ret (pe_tup (pa_cons (pe_ix (kix_list (K := K)) (pv 2) (pe_callH h_L_pick hr (by rfl) (pa_cons (pv 1) (pa_cons pe_int (pa_cons (pe_callB (kcall_len_seq (K := K)) (by rfl) T.n_len PySem.boot_len (pa_cons (pv 2) pa_nil)) pa_nil)))) (fun _ _ => rfl)) (pa_cons (pe_ix (kix_list (K := K)) (pv 2) (pe_callH h_L_pick hr (by rfl) (pa_cons (pv 1) (pa_cons pe_int (pa_cons (pe_callB (kcall_len_seq (K := K)) (by rfl) T.n_len PySem.boot_len (pa_cons (pv 2) pa_nil)) pa_nil)))) (fun _ _ => rfl)) pa_nil))))))), ?_⟩
    obtain ⟨us, hq, ul⟩ := LT.len hL
    refine tSeq_cut (fun σ' H' => ∃ (P : Addr) (ps : List Int), σ' = [some (.ref a), some (.int c), some (.ref P)] ∧ Same H H' ∧ H' P = some (.lst (ps.map V.int))) ?_ fun key => ?_
    rotate_left
    · refine ⟨_, rfl, a, us, rfl, .inl hq, _, rfl, by omega, by omega, fun D hD => ?_⟩
      refine comp_range (fun i ys τ G => Same H G ∧ G D = some (.lst ys) ∧ (∃ ps : List Int, ys = ps.map V.int ∧ ps.length ≤ i) ∧ ∃ o, τ = [o, some (.ref a)])
        ⟨Same.new hD, upd_same, ⟨[], rfl, Nat.le_refl _⟩, none, rfl⟩ ?_ ?_
      · rintro i ys τ G hi ⟨g, hDG, ⟨ps, rfl, hpl⟩, o, rfl⟩
        have hi2 : i < xs.length := by omega
        obtain ⟨u1, v1, hu1, av1, tv1⟩ := LT.get (i := (0 : Int) + (i : Int)) (Rep.same g hL) (by omega) (by omega)
        obtain ⟨b1, rfl, hb1⟩ := tv1.sq
        refine ⟨_, rfl, _, rfl, a, u1, _, _, rfl, rfl, hu1, av1, b1, _, rfl, .inr hb1, rfl, _, rfl, ?_⟩
        refine ite2 (fun h1 => ?_) (fun h1 => ?_)
        · exact ⟨_, rfl, hDG, small (by rw [List.length_map]; omega), g.turn hD, upd_same, ⟨ps ++ [(0 : Int) + (i : Int)], by simp, by simp; omega⟩, _, rfl⟩
        · exact ⟨g, hDG, ⟨ps, rfl, by omega⟩, _, rfl⟩
      · rintro ys τ G ⟨g, hDG, ⟨ps, rfl, hpl⟩, _⟩
        exact key _ _ ⟨D, ps, rfl, g, hDG⟩
    rintro _ H1 ⟨P, ps, rfl, s1, hP⟩
    have pe : (ps.map V.int).length = ps.length := List.length_map ..
    refine ⟨_, rfl, P, _, rfl, .inl (.of hP), rfl, _, rfl, ?_⟩
    rw [pe]
    refine ite2 (fun h1 => ?_) (fun h1 => ?_)
    · refine ⟨Nat.zero_le _, fun T1 hT1 => ?_⟩
      exact k (.ref T1) [] _ (s1.trans (Same.new hT1)) (TI.mk (.of upd_same))
    · have hp : 0 < (ps.length : Int) := by
        have : ¬ ps.length = 0 := fun z => h1 (by rw [z]; rfl)
        omega
      refine ⟨_, rfl, _, rfl, _, rfl, P, _, rfl, .inl (.of hP), _, _, _, rfl, by rw [pe]; exact hp, fun r1 H2 s2 r10 r11 => ?_⟩
      rw [pe] at r11
      refine ⟨P, _, _, _, rfl, rfl, .of (s2 _ _ hP), at_int r10 r11, _, rfl, _, rfl, _, rfl, P, _, rfl, .inl (.of (s2 _ _ hP)), _, _, _, rfl, by rw [pe]; exact hp, fun r2 H3 s3 r20 r21 => ?_⟩
      rw [pe] at r21
      refine ⟨P, _, _, _, rfl, rfl, .of ((s2.trans s3) _ _ hP), at_int r20 r21, smallE (by simp), fun T1 hT1 => ?_⟩
      exact k (.ref T1) [_, _] _ (((s1.trans s2).trans s3).trans (Same.new hT1)) (TI.mk (.of upd_same))
abbrev s_L_words_with : Stmt := top 40
theorem sc_L_words_with : FnScope ["_law_words", "_law_word", "_law_family", "_law_layer", "_law_rows", "_law_k", "_law_below", "_law_one", "_law_face", "_law_more"] ["_law_words", "_law_word", "_law_family"] (defScope s_L_words_with) := ⟨rfl, rfl, rfl, by decide +kernel, rfl, by decide +kernel, by decide +kernel⟩
theorem nd_L_words_with : (["_law_words", "_law_word", "_law_family", "_law_layer", "_law_rows", "_law_k", "_law_below", "_law_one", "_law_face", "_law_more"] : List Str).Nodup := by decide +kernel

theorem ok_L_words_with {f : Addr} {fd : FuncData} (F : Fun K "_law_words_with" "_law_words_with" s_L_words_with f fd) (T : Txt K mg C_HoleError C_NoShape C_NoText C_NoName C_NoLevel C_NoChain C_NoTable C_NoTurn C_NoMap C_NoGlue C_NoPrime C_NoStage C_NoPair C_NoRow C_NoPiece C_NoRound) (h_L_faces_by : Has P w K mg base "_law_faces_by" ["_law_word", "_law_family"] 1 (sp_L_faces_by K)) : FnOk P w K mg base CX0 2 f fd ["_law_words", "_law_word", "_law_family"] (sp_L_words_with K) := by
  refine F.ok sc_L_words_with (fun vs H Q E h => ?_) (fun cdv A outer s H vs Q E hr h => ?_)
  · obtain ⟨l, us, v, ws, w, fam, rfl, hl, hr0, hv, hw, hlen, k⟩ := h
    rfl
  · obtain ⟨l, us, v, ws, w, fam, rfl, hl, hr0, hv, hw, hlen, k⟩ := h
    have hu8 : (A.deeper (PyProof.Rows.envOfC "_law_words_with" (defScope s_L_words_with) s.heap.objs.size f cdv)).units + 8 < cLine := by have := hr.units; omega
    refine ⟨_, (pss_cons (ps_set (i := 3) nd_L_words_with (by rfl) (by first | exact Or.inl rfl | exact Or.inr rfl) (pe_lst (pa_cons (pv 1) pa_nil)))
      (pss_cons (ps_set (i := 4) nd_L_words_with (by rfl) (by first | exact Or.inl rfl | exact Or.inr rfl) (pe_lst pa_nil))
      (pss_cons (ps_for PassesOwn.never rfl (pi_range1 (by rfl) T.n_range (pa_cons pe_int pa_nil)) (pg_name (i := 5) nd_L_words_with (by rfl) (by first | exact Or.inl rfl | exact Or.inr rfl)) (pss_cons (ps_set (i := 4) nd_L_words_with (by rfl) (by first | exact Or.inl rfl | exact Or.inr rfl) (pe_op (kop_catLW (K := K)) (pv 3) (pv 4)))
      (pss_cons (ps_set (i := 6) nd_L_words_with (by rfl) (by first | exact Or.inl rfl | exact Or.inr rfl) (pe_lst pa_nil))
      (pss_cons (ps_for PassesOwn.never rfl (kpi_list (K := K) (pv 3)) (pg_name (i := 7) nd_L_words_with (by rfl) (by first | exact Or.inl rfl | exact Or.inr rfl)) (pss_one (ps_for PassesOwn.never rfl (kpi_list (K := K) (pe_callH h_L_faces_by hr (by rfl) (pa_cons (pv 7) (pa_cons (pv 2) pa_nil)))) (pg_name (i := 8) nd_L_words_with (by rfl) (by first | exact Or.inl rfl | exact Or.inr rfl)) (pss_one (ps_if (PW.pt (pw_and (pt_cmpR (kop_notInD (K := K) hu8) (pv 8) (pv 0) rfl) (pw_and1 (pt_cmpR (kop_notInD (K := K) hu8) (pv 8) (pv 6) rfl)))) (pss_one (ps_expr (kpe_bm (K := K) PySem.F.plainAttrs_list PySem.F.slot_list_append PySem.F.type_list_append mt_append (pv 6) (pa_cons (pv 8) pa_nil)))) pss_nil)))))
      (pss_one (ps_set (i := 3) nd_L_words_with (by rfl) (by first | exact Or.inl rfl | exact Or.inr rfl) (pv 6)))))))
      (pss_cons (ps_set (i := 9) nd_L_words_with (by rfl) (by first | exact Or.inl rfl | exact Or.inr rfl) (pe_callTy (kcall_list_of (K := K)) (by rfl) T.n_list boot_listT (pa_cons (pv 0) pa_nil)))
      (pss_cons (ps_for PassesOwn.never rfl (kpi_list (K := K) (pv 4)) (pg_name (i := 7) nd_L_words_with (by rfl) (by first | exact Or.inl rfl | exact Or.inr rfl)) (pss_one (ps_if (pt_cmpR (kop_notInD (K := K) hu8) (pv 7) (pv 9) rfl) (pss_one (ps_expr (kpe_bm (K := K) PySem.F.plainAttrs_list PySem.F.slot_list_append PySem.F.type_list_append mt_append (pv 9) (pa_cons (pv 7) pa_nil)))) pss_nil)))
      (pss_one (ps_ret (pv 9)))))))), ?_⟩
    have s0w : ∀ u ∈ [w], Word fam u := fun u hu => by
      have e : u = w := by simpa using hu
      subst e
      exact hw
    refine ⟨_, rfl, smallE (by simp), fun L0 hL0 => ?_⟩
    have s1 : Same H (upd H L0 (.lst [v])) := Same.new hL0
    refine ⟨Nat.zero_le _, fun R0 hR0 => ?_⟩
    have s2 : Same (upd H L0 (.lst [v])) (upd (upd H L0 (.lst [v])) R0 (.lst [])) := Same.new hR0
    refine ⟨_, rfl, by decide, by decide, for_range (lo := 0) (n := (4 : Int).toNat)
      (fun i σ H2 => ∃ (L R : Addr) (lu ru : List V) (layer rows : List (List Int)) (o5 o6 o7 o8 o9 : Option V), σ = [some (.ref l), some v, some (.int fam), some (.ref L), some (.ref R), o5, o6, o7, o8, o9] ∧ Same H H2 ∧
        H2 L = some (.lst lu) ∧ Reps K H2 lu (layer.map tI) ∧ H2 R = some (.lst ru) ∧ Reps K H2 ru (rows.map tI) ∧ (∀ u ∈ layer, Word fam u) ∧ layers ws fam (4 - i) layer rows = layers ws fam 4 [w] [] ∧ layer.length ≤ 4 ^ i ∧ rows.length ≤ 1000 * i)
      ⟨L0, R0, [v], [], [w], [], none, none, none, none, none, rfl, s1.trans s2, s2 _ _ upd_same, Reps.one (TI.same (s1.trans s2) hv), upd_same, rfl, s0w, rfl, by simp, by simp⟩ ?_ ?_⟩
    · rintro i σ H2 hi ⟨L, R, lu, ru, layer, rows, o5, o6, o7, o8, o9, rfl, sH, hL, rL, hR, rR, hWl, hlay, hll, hrl⟩
      have hi4 : i < 4 := by simpa using hi
      have h4i : 4 ^ i ≤ 64 := by
        have : i = 0 ∨ i = 1 ∨ i = 2 ∨ i = 3 := by omega
        rcases this with rfl | rfl | rfl | rfl <;> decide
      have lul : lu.length = layer.length := by have := rL.length; simpa using this
      have rul : ru.length = rows.length := by have := rR.length; simpa using this
      refine ⟨_, rfl, _, rfl, L, R, _, _, rfl, rfl, .of hL, .of hR, smallE (by omega), fun R1 hR1 => ?_⟩
      have sa : Same H2 (upd H2 R1 (.lst (lu ++ ru))) := Same.new hR1
      have hR1a : (upd H2 R1 (.lst (lu ++ ru))) R1 = some (.lst (lu ++ ru)) := upd_same
      have rRa : Reps K (upd H2 R1 (.lst (lu ++ ru))) (lu ++ ru) ((layer ++ rows).map tI) := by
        rw [List.map_append]
        exact (Reps.same sa rL).append (Reps.same sa rR)
      have hLa := sa _ _ hL
      have rLa : Reps K (upd H2 R1 (.lst (lu ++ ru))) lu (layer.map tI) := Reps.same sa rL
      have sHa : Same H (upd H2 R1 (.lst (lu ++ ru))) := sH.trans sa
      refine ⟨Nat.zero_le _, fun B hB => ?_⟩
      have sb : Same (upd H2 R1 (.lst (lu ++ ru))) (upd (upd H2 R1 (.lst (lu ++ ru))) B (.lst [])) := Same.new hB
      have hBH : H B = none := sHa.free hB
      refine ⟨_, rfl, L, rfl, ⟨_, .of (sb _ _ hLa)⟩, for_list (K := K) (a := L) (xs := lu)
        (fun j σ H3 => ∃ (bu : List V) (o7 o8 : Option V), σ = [some (.ref l), some v, some (.int fam), some (.ref L), some (.ref R1), some (.int (0 + i)), some (.ref B), o7, o8, o9] ∧ Same (upd H2 R1 (.lst (lu ++ ru))) H3 ∧ H3 B = some (.lst bu) ∧
          Reps K H3 bu ((below ws fam [] (layer.take j)).map tI))
        ⟨[], _, _, rfl, sb, upd_same, rfl⟩ (fun j σ H3 _ ⟨_, _, _, _, s3, _⟩ => .of (s3 _ _ hLa)) ?_ ?_⟩
      · rintro j x σ H3 hx ⟨bu, o7, o8, rfl, s3, hB3, rB⟩
        have hj : j < lu.length := (List.getElem?_eq_some_iff.mp hx).1
        have hjl : j < layer.length := by omega
        have hjx : (layer.map tI)[j]? = some (tI layer[j]) := by rw [List.getElem?_map, List.getElem?_eq_getElem hjl]; rfl
        obtain ⟨x', hx', tx⟩ := rLa.get hjx
        rw [hx] at hx'
        cases hx'
        have hwj : Word fam layer[j] := hWl _ (List.getElem_mem _)
        refine ⟨_, rfl, _, rfl, x, layer[j], fam, rfl, TI.same s3 tx, hwj, fun p fu H4 hp s4 hp4 r4 => ?_⟩
        have fl := faces_len hwj
        have ful : fu.length = (facesBy layer[j] fam).length := by have := r4.length; simpa using this
        have hpB : p ≠ B := fun z => by rw [z, hB3] at hp; cases hp
        have hB4 := s4 _ _ hB3
        refine ⟨p, rfl, ⟨_, .of hp4⟩, for_list (K := K) (a := p) (xs := fu)
          (fun m σ H5 => ∃ (bu : List V) (o8 : Option V), σ = [some (.ref l), some v, some (.int fam), some (.ref L), some (.ref R1), some (.int (0 + i)), some (.ref B), some x, o8, o9] ∧ SameX B H4 H5 ∧ H5 B = some (.lst bu) ∧
            Reps K H5 bu ((addNew ws (below ws fam [] (layer.take j)) ((facesBy layer[j] fam).take m)).map tI) ∧ (addNew ws (below ws fam [] (layer.take j)) ((facesBy layer[j] fam).take m)).length ≤ 1000)
          ⟨bu, _, rfl, SameX.refl _ _, hB4, (by simpa [addNew] using Reps.same s4 rB), ?_⟩ (fun m σ H5 _ ⟨_, _, _, s5, _⟩ => .of (s5 _ _ hpB hp4)) ?_ ?_⟩
        · have := below_len (ws := ws) (fam := fam) (layer.take j) [] (fun u hu => hWl u (List.mem_of_mem_take hu))
          simp only [List.take_zero, addNew, List.length_nil, List.length_take] at this ⊢
          omega
        · rintro m y σ H5 hy ⟨bu5, o8', rfl, s5, hB5, rB5, hbl5⟩
          have hm : m < fu.length := (List.getElem?_eq_some_iff.mp hy).1
          have hmf : m < (facesBy layer[j] fam).length := by omega
          have hmy : ((facesBy layer[j] fam).map tI)[m]? = some (tI (facesBy layer[j] fam)[m]) := by rw [List.getElem?_map, List.getElem?_eq_getElem hmf]; rfl
          obtain ⟨y', hy', ty⟩ := r4.get hmy
          rw [hy] at hy'
          cases hy'
          generalize hf : (facesBy layer[j] fam)[m] = fc at ty
          have ty5 : TI K H5 y fc := TI.t (s5.t hB4) ty
          have hl5 : H5 l = some (.lst us) := by
            refine s5 l _ (fun z => ?_) (s4 _ _ (s3 _ _ (sHa _ _ hl)))
            rw [z] at hl
            rw [hl] at hBH
            cases hBH
          have rl5 : Rep K H5 (.ref l) (.lst (ws.map tI)) := ⟨l, us, rfl, .of hl5, Reps.t (s5.t hB4) (imms_tIs ws) (Reps.same ((sHa.trans s3).trans s4) hr0)⟩
          have rb5 : Rep K H5 (.ref B) (.lst ((addNew ws (below ws fam [] (layer.take j)) ((facesBy layer[j] fam).take m)).map tI)) := ⟨B, bu5, rfl, .of hB5, rB5⟩
          have e0 : addNew ws (below ws fam [] (layer.take j)) ((facesBy layer[j] fam).take (m + 1)) = (if fc ∉ ws ∧ fc ∉ addNew ws (below ws fam [] (layer.take j)) ((facesBy layer[j] fam).take m) then addNew ws (below ws fam [] (layer.take j)) ((facesBy layer[j] fam).take m) ++ [fc] else addNew ws (below ws fam [] (layer.take j)) ((facesBy layer[j] fam).take m)) := by
            rw [List.take_succ, List.getElem?_eq_getElem hmf, hf]
            exact addNew_snoc _ _ _ _
          have hbu5 : bu5.length = (addNew ws (below ws fam [] (layer.take j)) ((facesBy layer[j] fam).take m)).length := by have := rB5.length; simpa using this
          have hlen6 : (addNew ws (below ws fam [] (layer.take j)) ((facesBy layer[j] fam).take (m + 1))).length ≤ 1000 := by
            have h1 := addNew_len (ws := ws) ((facesBy layer[j] fam).take (m + 1)) (below ws fam [] (layer.take j))
            have h2 := below_len (ws := ws) (fam := fam) (layer.take j) [] (fun u hu => hWl u (List.mem_of_mem_take hu))
            simp only [List.length_nil, List.length_take] at h1 h2
            have h3 : (facesBy layer[j] fam).length ≤ 4 := by have := fl.1; have := fl.2; split at * <;> omega
            omega
          generalize hacc : addNew ws (below ws fam [] (layer.take j)) ((facesBy layer[j] fam).take m) = acc at rB5 rb5 e0 hbu5 hbl5
          refine ⟨_, rfl, _, rfl, tI fc, ws.map tI, ty5, .inl rl5, (by have := deps_tIs ws; omega), _, rfl, ?_⟩
          by_cases h1 : fc ∈ ws
          · refine ifN (by rw [if_pos rfl, any_tI]; simp [h1]) ?_
            refine ifN (by simp) ?_
            refine ⟨bu5, _, rfl, s5, hB5, ?_, hlen6⟩
            rw [e0, if_neg (by simp [h1])]
            exact rB5
          · refine ifP (by rw [if_pos rfl, any_tI]; simp [h1]) ?_
            refine ⟨_, rfl, _, rfl, tI fc, acc.map tI, ty5, .inl rb5, (by have := deps_tIs acc; omega), _, rfl, ?_⟩
            by_cases h2 : fc ∈ acc
            · refine ifN (by rw [if_pos rfl, any_tI]; simp [h2]) ?_
              refine ⟨bu5, _, rfl, s5, hB5, ?_, hlen6⟩
              rw [e0, if_neg (by simp [h2])]
              exact rB5
            · refine ifP (by rw [if_pos rfl, any_tI]; simp [h2]) ?_
              refine ⟨_, rfl, .inl ⟨rfl, _, .of hB5⟩, _, rfl, B, _, _, rfl, rfl, hB5, small (by omega), ?_⟩
              refine ⟨_, _, rfl, s5.upd, upd_same, ?_, hlen6⟩
              rw [e0, if_pos ⟨h1, h2⟩]
              exact push_TI hB5 rB5 ty5
        · rintro σ H5 ⟨bu5, o8', rfl, s5, hB5, rB5, _⟩
          refine ⟨bu5, _, _, rfl, ?_, hB5, ?_⟩
          · exact s5.same (s3.trans s4) hB
          · rw [ful, List.take_length] at rB5
            rw [List.take_succ, List.getElem?_eq_getElem hjl]
            have e1 : below ws fam [] (layer.take j ++ (some layer[j]).toList) = addNew ws (below ws fam [] (layer.take j)) (facesBy layer[j] fam) := below_snoc _ _ _ _ _
            rw [e1]
            exact rB5
      · rintro σ H3 ⟨bu, o7, o8, rfl, s3, hB3, rB⟩
        rw [lul, List.take_length] at rB
        refine ⟨_, rfl, ?_⟩
        refine ⟨B, R1, bu, lu ++ ru, below ws fam [] layer, layer ++ rows, _, _, _, _, _, rfl, sHa.trans s3, hB3, rB, s3 _ _ hR1a, Reps.same s3 rRa, ?_, ?_, ?_, ?_⟩
        · intro u hu
          rcases below_sub _ _ hu with z | ⟨t, ht, z⟩
          · exact nomatch z
          · exact (faces_word (hWl t ht) z).1
        · rw [← hlay, show 4 - i = (4 - (i + 1)) + 1 by omega]
          rfl
        · have := below_len (ws := ws) (fam := fam) layer [] hWl
          simp only [List.length_nil] at this
          rw [Nat.pow_succ]
          omega
        · rw [List.length_append]
          omega
    · rintro σ H2 ⟨L, R, lu, ru, layer, rows, o5, o6, o7, o8, o9, rfl, sH, hL, rL, hR, rR, hWl, hlay, hll, hrl⟩
      have hrows : rows = layers ws fam 4 [w] [] := hlay
      have hrl2 := layers_len (ws := ws) hw
      rw [← hrows] at hrl2
      have rul : ru.length = rows.length := by have := rR.length; simpa using this
      refine ⟨_, rfl, l, _, rfl, .inl (.of (sH _ _ hl)), fun M hM => ?_⟩
      have sm : Same H2 (upd H2 M (.lst us)) := Same.new hM
      have hMH : H M = none := sH.free hM
      have usl : us.length = ws.length := by have := hr0.length; simpa using this
      refine ⟨_, rfl, R, rfl, ⟨_, .of (sm _ _ hR)⟩, for_list (K := K) (a := R) (xs := ru)
        (fun j σ H3 => ∃ (mu : List V) (o7 : Option V), σ = [some (.ref l), some v, some (.int fam), some (.ref L), some (.ref R), o5, o6, o7, o8, some (.ref M)] ∧ Same H2 H3 ∧ H3 M = some (.lst mu) ∧ Reps K H3 mu ((addAll ws (rows.take j)).map tI))
        ⟨us, _, rfl, sm, upd_same, (by simpa [addAll] using Reps.same (sH.trans sm) hr0)⟩ (fun j σ H3 _ ⟨_, _, _, s3, _⟩ => .of (s3 _ _ hR)) ?_ ?_⟩
      · rintro j x σ H3 hx ⟨mu, o7', rfl, s3, hM3, rM⟩
        have hj : j < ru.length := (List.getElem?_eq_some_iff.mp hx).1
        have hjl : j < rows.length := by omega
        have hjx : (rows.map tI)[j]? = some (tI rows[j]) := by rw [List.getElem?_map, List.getElem?_eq_getElem hjl]; rfl
        obtain ⟨x', hx', tx⟩ := rR.get hjx
        rw [hx] at hx'
        cases hx'
        generalize hf : rows[j] = fc at tx
        have tx3 : TI K H3 x fc := TI.same s3 tx
        have e0 : addAll ws (rows.take (j + 1)) = (if fc ∈ addAll ws (rows.take j) then addAll ws (rows.take j) else addAll ws (rows.take j) ++ [fc]) := by
          rw [List.take_succ, List.getElem?_eq_getElem hjl, hf]
          exact addAll_snoc _ _ _
        have hal := addAll_len (rows.take j) ws
        rw [List.length_take] at hal
        have mul : mu.length = (addAll ws (rows.take j)).length := by have := rM.length; simpa using this
        generalize hacc : addAll ws (rows.take j) = acc at rM e0 hal mul
        have rm3 : Rep K H3 (.ref M) (.lst (acc.map tI)) := ⟨M, mu, rfl, .of hM3, rM⟩
        refine ⟨_, rfl, _, rfl, tI fc, acc.map tI, tx3, .inl rm3, (by have := deps_tIs acc; omega), _, rfl, ?_⟩
        by_cases h1 : fc ∈ acc
        · refine ifN (by rw [if_pos rfl, any_tI]; simp [h1]) ?_
          refine ⟨mu, _, rfl, s3, hM3, ?_⟩
          rw [e0, if_pos h1]
          exact rM
        · refine ifP (by rw [if_pos rfl, any_tI]; simp [h1]) ?_
          refine ⟨_, rfl, .inl ⟨rfl, _, .of hM3⟩, _, rfl, M, _, _, rfl, rfl, hM3, small (by omega), ?_⟩
          refine ⟨_, _, rfl, s3.turn hM, upd_same, ?_⟩
          rw [e0, if_neg h1]
          exact push_TI hM3 rM tx3
      · rintro σ H3 ⟨mu, o7', rfl, s3, hM3, rM⟩
        rw [rul, List.take_length, hrows] at rM
        exact ⟨_, rfl, k M mu H3 hMH (sH.trans s3) hM3 rM⟩
abbrev s_L_is_left : Stmt := top 46
theorem sc_L_is_left : FnScope ["_law_found", "_law_kept", "_law_pieces", "_law_left", "_law_place", "_law_piece"] ["_law_found", "_law_kept", "_law_pieces", "_law_left"] (defScope s_L_is_left) := ⟨rfl, rfl, rfl, by decide +kernel, rfl, by decide +kernel, by decide +kernel⟩
theorem nd_L_is_left : (["_law_found", "_law_kept", "_law_pieces", "_law_left", "_law_place", "_law_piece"] : List Str).Nodup := by decide +kernel

theorem ok_L_is_left {f : Addr} {fd : FuncData} (F : Fun K "_law_is_left" "_law_is_left" s_L_is_left f fd) (T : Txt K mg C_HoleError C_NoShape C_NoText C_NoName C_NoLevel C_NoChain C_NoTable C_NoTurn C_NoMap C_NoGlue C_NoPrime C_NoStage C_NoPair C_NoRow C_NoPiece C_NoRound) (h_L_whole : Has P w K mg base "_law_whole" ["_law_found"] 1 (sp_L_whole K)) : FnOk P w K mg base CX0 2 f fd ["_law_found", "_law_kept", "_law_pieces", "_law_left"] (sp_L_is_left K) := by
  refine F.ok sc_L_is_left (fun vs H Q E h => ?_) (fun cdv A outer s H vs Q E hr h => ?_)
  · obtain ⟨L, P, a, l, us, xs, fl, rfl, hLL, rL, hP, hL, hS, hxl, h4, hLow, hcl, k⟩ := h
    rfl
  · obtain ⟨L, P, a, l, us, xs, fl, rfl, hLL, rL, hP, hL, hS, hxl, h4, hLow, hcl, k⟩ := h
    have hu8 : (A.deeper (PyProof.Rows.envOfC "_law_is_left" (defScope s_L_is_left) s.heap.objs.size f cdv)).units + 8 < cLine := by have := hr.units; omega
    refine ⟨_, (pss_cons (ps_if (PW.pt (pw_or (pt_not (pt_val (pe_callB (kcall_isinst (K := K)) (by rfl) T.n_isinstance boot_isinstanceB (pa_cons (pv 1) (pa_cons (pe_bltn (v := .ty "list") rfl T.n_list boot_listT rfl) pa_nil))))) (pw_or1 (pt_cmpR (kop_neD (K := K) hu8) (pv 1) (pe_comp (N' := ["_law_place", "_law_left"]) (cap := [none, some 3]) (by rfl) (by kernel_rfl) (pi_range1 (by rfl) T.n_range (pa_cons (pe_callB (kcall_len_seq (K := K)) (by rfl) T.n_len PySem.boot_len (pa_cons (pv 2) pa_nil)) pa_nil)) (fun _ _ _ _ => (pg_name (i := 0) ndc_16 (by rfl) (by first | exact Or.inl rfl | exact Or.inr rfl))) (fun _ _ _ _ => (pts_one (pt_val (pe_ix (kix_list (K := K)) (pv 1) (pv 0) (fun _ _ => rfl))))) (fun _ _ _ _ => (pv 0))) (nomark _))))) (pss_one (ps_ret pe_bl)) pss_nil)
      (pss_cons (ps_if (PW.pt (pw_or (pt_not (pt_val (pe_callB (kcall_isinst (K := K)) (by rfl) T.n_isinstance boot_isinstanceB (pa_cons (pv 0) (pa_cons (pe_bltn (v := .ty "list") rfl T.n_list boot_listT rfl) pa_nil))))) (pw_or1 (pt_cmpR op_ne (pe_callB (kcall_len_seq (K := K)) (by rfl) T.n_len PySem.boot_len (pa_cons (pv 0) pa_nil)) (pe_callB (kcall_len_seq (K := K)) (by rfl) T.n_len PySem.boot_len (pa_cons (pv 1) pa_nil)) (nomark _))))) (pss_one (ps_ret pe_bl)) pss_nil)
      (pss_cons (ps_for PassesOwn.never rfl (pi_range1 (by rfl) T.n_range (pa_cons (pe_callB (kcall_len_seq (K := K)) (by rfl) T.n_len PySem.boot_len (pa_cons (pv 1) pa_nil)) pa_nil)) (pg_name (i := 4) nd_L_is_left (by rfl) (by first | exact Or.inl rfl | exact Or.inr rfl)) (pss_cons (ps_set (i := 5) nd_L_is_left (by rfl) (by first | exact Or.inl rfl | exact Or.inr rfl) (pe_ix (kix_list (K := K)) (pv 0) (pv 4) (fun _ _ => rfl)))
      (pss_cons (ps_if (PW.pt (pw_or (pt_not (pt_val (pe_callB (kcall_isinst (K := K)) (by rfl) T.n_isinstance boot_isinstanceB (pa_cons (pv 5) (pa_cons (pe_bltn (v := .ty "tuple") rfl T.n_tuple boot_tupleT rfl) pa_nil))))) (pw_or1 (pt_not (pt_val (pe_callH h_L_whole hr (by rfl) (pa_cons (pe_ix (kix_list (K := K)) (pv 1) (pv 4) (fun _ _ => rfl)) pa_nil))))))) (pss_one (ps_ret pe_bl)) pss_nil)
      (pss_cons (ps_if (pt_cmpR op_gt (pe_callB (kcall_len_seq (K := K)) (by rfl) T.n_len PySem.boot_len (pa_cons (pe_comp (N' := ["_law_face", "_law_place"]) (cap := [none, some 4]) (by rfl) (by kernel_rfl) (kpi_tup (K := K) (pv 5)) (fun _ _ _ _ => (pg_name (i := 0) ndc_15 (by rfl) (by first | exact Or.inl rfl | exact Or.inr rfl))) (fun _ _ _ _ => (pts_one (PW.pt (pw_or (pt_not (pt_val (pe_callH h_L_whole hr (by rfl) (pa_cons (pv 0) pa_nil)))) (pw_or (pt_cmpR op_lt (pv 0) pe_int (nomark _)) (pw_or1 (pt_cmpR op_ge (pv 0) (pv 1) (nomark _)))))))) (fun _ _ _ _ => (pv 0))) pa_nil)) pe_int (nomark _)) (pss_one (ps_ret pe_bl)) pss_nil)
      (pss_one (ps_if (pt_cmpR (kop_neD (K := K) hu8) (pe_callTy (kcall_tuple_of (K := K)) (by rfl) T.n_tuple boot_tupleT (pa_cons (pe_comp (N' := ["_law_face", "_law_kept"]) (cap := [none, some 1]) (by rfl) (by kernel_rfl) (kpi_tup (K := K) (pv 5)) (fun _ _ _ _ => (pg_name (i := 0) ndc_14 (by rfl) (by first | exact Or.inl rfl | exact Or.inr rfl))) (fun _ _ _ _ => pts_nil) (fun _ _ _ _ => (pe_ix (kix_list (K := K)) (pv 1) (pv 0) (fun _ _ => rfl)))) pa_nil)) (pe_ix (kix_list (K := K)) (pv 2) (pe_ix (kix_list (K := K)) (pv 1) (pv 4) (fun _ _ => rfl)) (fun _ _ => rfl)) (nomark _)) (pss_one (ps_ret pe_bl)) pss_nil))))))
      (pss_one (ps_ret pe_bl))))), ?_⟩
    obtain ⟨xu, hxq, hxul⟩ := LT.len hL
    have hkl := kept_len xs.length fl
    have hnd := kept_nodup xs.length fl
    have hpw := kept_pair xs.length fl
    have hkr : ∀ k ∈ keptF xs.length fl, 0 ≤ k ∧ k < (xs.length : Int) := fun k hk => (mem_kept.mp hk).1
    have usl : us.length = (keptF xs.length fl).length := by have := rL.length; rw [List.length_map, sub_len] at this; exact this
    have rPs : ∀ G, Same H G → Rep K G (.ref P) (.lst (nums (keptF xs.length fl))) := fun G g => ⟨P, _, rfl, .of (g _ _ hP), reps_nums.mpr rfl⟩
    refine tSeq_cut (fun σ' H' => σ' = [some (.ref L), some (.ref P), some (.ref a), some (.ref l), none, none] ∧ Same H H') ?_ fun key => ?_
    rotate_left
    · refine ⟨_, rfl, .ref P, "list", .lst (nums (keptF xs.length fl)), rfl, .inr (.inr (.inr (.inr (.inl rfl)))), rPs H (Same.refl H), _, rfl, ?_⟩
      refine ifN (by simp [isD]) ?_
      refine ⟨_, rfl, _, rfl, a, xu, rfl, .inl hxq, _, rfl, by omega, by omega, fun D hD => ?_⟩
      rw [hxul]
      refine comp_range (n := xs.length) (fun i ws τ G => Same H G ∧ G D = some (.lst ws) ∧ ws = (keptF i fl).map V.int ∧ i ≤ xs.length ∧ ∃ o, τ = [o, some (.ref l)])
        ⟨Same.new hD, upd_same, rfl, Nat.zero_le _, none, rfl⟩ ?_ ?_
      · rintro i ws τ G hi ⟨g, hDG, rfl, hil, o, rfl⟩
        rw [show (0 : Int) + (i : Int) = (i : Int) by omega]
        have ek := keptF_succ i fl
        have hkl2 := kept_len i fl
        refine ⟨_, rfl, _, rfl, l, _, _, _, rfl, rfl, g.seq hS, flV_at (by omega) (by omega), _, rfl, ?_⟩
        refine ite2 (fun h1 => ?_) (fun h1 => ?_)
        · refine ⟨_, rfl, hDG, small (by rw [List.length_map]; omega), g.turn hD, upd_same, ?_, by omega, _, rfl⟩
          rw [ek, if_pos h1, List.map_append]
          rfl
        · refine ⟨g, hDG, ?_, by omega, _, rfl⟩
          rw [ek, if_neg h1, List.append_nil]
      · rintro ws τ G ⟨g, hDG, rfl, _, _⟩
        refine ⟨_, .lst (nums (keptF xs.length fl)), rPs G g, ⟨D, _, rfl, .of hDG, reps_nums.mpr rfl⟩, (by show deps (nums _) + 1 ≤ 8; rw [deps_nums]; decide), _, rfl, ?_⟩
        rw [eqD_refl]
        refine ifN (by simp) ?_
        exact key _ _ ⟨rfl, g⟩
    rintro _ H1 ⟨rfl, s1⟩
    refine tSeq_cut (fun σ' H' => σ' = [some (.ref L), some (.ref P), some (.ref a), some (.ref l), none, none] ∧ H1 = H') ?_ fun key => ?_
    rotate_left
    · refine ⟨_, rfl, .ref L, "list", .lst ((sub xs (keptF xs.length fl)).map tI), rfl, .inr (.inr (.inr (.inr (.inl rfl)))), ⟨L, us, rfl, .of (s1 _ _ hLL), Reps.same s1 rL⟩, _, rfl, ?_⟩
      refine ifN (by simp [isD]) ?_
      refine ⟨_, rfl, L, _, rfl, .inl (.of (s1 _ _ hLL)), _, rfl, P, _, rfl, .inl (.of (s1 _ _ hP)), rfl, _, rfl, ?_⟩
      refine ifN (by rw [List.length_map, usl]; simp) ?_
      exact key _ _ ⟨rfl, rfl⟩
    rintro _ _ ⟨rfl, rfl⟩
    have pe : ((keptF xs.length fl).map V.int).length = (keptF xs.length fl).length := List.length_map ..
    refine ⟨_, rfl, P, _, rfl, .inl (.of (s1 _ _ hP)), _, rfl, by rw [pe]; omega, by rw [pe]; omega, ?_⟩
    rw [pe]
    refine for_range (lo := 0) (n := (keptF xs.length fl).length) (fun i σ G => ∃ (o4 o5 : Option V), σ = [some (.ref L), some (.ref P), some (.ref a), some (.ref l), o4, o5] ∧ Same H G) ⟨_, _, rfl, s1⟩ ?_ ?_
    · rintro i σ G hi ⟨o4, o5, rfl, g⟩
      rw [show (0 : Int) + (i : Int) = (i : Int) by omega]
      have hPG := g _ _ hP
      have hLG := g _ _ hLL
      obtain ⟨kk, hkk⟩ : ∃ kk, kk = (keptF xs.length fl).getD i 0 := ⟨_, rfl⟩
      have hkm : kk ∈ keptF xs.length fl := by rw [hkk]; exact getD_mem_of hi
      obtain ⟨k0, k1⟩ := hkr kk hkm
      have hatk : atI ((keptF xs.length fl).map V.int) (i : Int) = some (.int kk) := by
        have := at_int (sp := keptF xs.length fl) (x := (i : Int)) (by omega) (by omega)
        rwa [Int.toNat_natCast, ← hkk] at this
      have hsub : ((sub xs (keptF xs.length fl)).map tI)[i]? = some (tI ((xs.getD kk.toNat []).map (ren (keptF xs.length fl)))) := by
        have := sub_at (xs := xs) hi
        rw [← hkk] at this
        rw [List.getElem?_map, ← this, List.getElem?_eq_getElem (by rw [sub_len]; exact hi), List.getD_eq_getElem?_getD, List.getElem?_eq_getElem (by rw [sub_len]; exact hi)]
        rfl
      obtain ⟨v, hv, tv⟩ := rL.get hsub
      have hatv : atI us (i : Int) = some v := atI_nat hv
      have hfk : ∀ f ∈ xs.getD kk.toNat [], f ∈ keptF xs.length fl ∧ ren (keptF xs.length fl) f < (i : Int) ∧ 0 ≤ ren (keptF xs.length fl) f ∧ ren (keptF xs.length fl) f < ((keptF xs.length fl).length : Int) ∧ (keptF xs.length fl).getD (ren (keptF xs.length fl) f).toNat 0 = f := fun f hf => by
        have h1 := hcl kk hkm f hf
        have hq : xs[kk.toNat]? = some (xs.getD kk.toNat []) := by rw [List.getD_eq_getElem?_getD, List.getElem?_eq_getElem (by omega)]; rfl
        have h2 := hLow _ _ hq f hf
        have h3 := ren_lt hpw h1 hi (by rw [← hkk]; omega)
        obtain ⟨e, a1, a2⟩ := ren_at h1
        exact ⟨h1, h3, a1, a2, e⟩
      have hx4 := h4 _ (getD_mem_of (d := []) (show kk.toNat < xs.length by omega))
      obtain ⟨xq, vx, hxq2, hvx, tvx⟩ := LT.get hL k0 k1
      generalize xs.getD kk.toNat [] = fs at tv hfk hx4 tvx
      refine tSeq_cut (fun σ' H' => σ' = [some (.ref L), some (.ref P), some (.ref a), some (.ref l), some (.int (i : Int)), some v] ∧ G = H') ?_ fun key => ?_
      rotate_left
      · refine ⟨_, rfl, _, rfl, L, _, _, _, rfl, rfl, .of hLG, hatv, ?_⟩
        exact key _ _ ⟨rfl, rfl⟩
      rintro _ _ ⟨rfl, rfl⟩
      obtain ⟨av, rfl, sqv⟩ := TI.sq (show TI K H v (fs.map (ren (keptF xs.length fl))) from tv)
      refine tSeq_cut (fun σ' H' => σ' = [some (.ref L), some (.ref P), some (.ref a), some (.ref l), some (.int (i : Int)), some (.ref av)] ∧ G = H') ?_ fun key => ?_
      rotate_left
      · refine ⟨_, rfl, .ref av, "tuple", tI (fs.map (ren (keptF xs.length fl))), rfl, .inr (.inr (.inr (.inl rfl))), TI.same g tv, _, rfl, ?_⟩
        refine ifN (by simp [isD, tI]) ?_
        refine ⟨_, rfl, _, rfl, P, _, _, _, rfl, rfl, .of hPG, hatk, _, .int kk, rfl, rfl, _, rfl, ?_⟩
        refine ifN (by simp [wholeD, isD]) ?_
        exact key _ _ ⟨rfl, rfl⟩
      rintro _ _ ⟨rfl, rfl⟩
      have sqG := g.seqT sqv
      refine tSeq_cut (fun σ' H' => σ' = [some (.ref L), some (.ref P), some (.ref a), some (.ref l), some (.int (i : Int)), some (.ref av)] ∧ Same G H') ?_ fun key => ?_
      rotate_left
      · refine ⟨_, rfl, av, rfl, ⟨_, sqG⟩, fun D hD => ?_⟩
        refine comp_tup (K := K) (a := av) (xs := (fs.map (ren (keptF xs.length fl))).map V.int) (fun m ws τ G2 => Same G G2 ∧ G2 D = some (.lst ws) ∧ ws = [] ∧ ∃ o, τ = [o, some (.int (i : Int))])
          ⟨Same.new hD, upd_same, rfl, none, rfl⟩ (fun m ws τ G2 _ ⟨g2, _⟩ => g2.seqT sqG) ?_ ?_
        · rintro m y ws τ G2 hy ⟨g2, hDG, rfl, o, rfl⟩
          have hm : m < fs.length := by have := (List.getElem?_eq_some_iff.mp hy).1; simpa using this
          have hyv : y = .int (ren (keptF xs.length fl) fs[m]) := by
            rw [List.getElem?_map, List.getElem?_map, List.getElem?_eq_getElem hm] at hy
            simpa using hy.symm
          subst hyv
          obtain ⟨_, f1, f2, _, _⟩ := hfk _ (List.getElem_mem hm)
          generalize ren (keptF xs.length fl) fs[m] = f at f1 f2
          refine ⟨_, rfl, _, .int f, rfl, rfl, _, rfl, ?_⟩
          refine ifN (by simp [wholeD, isD]) ?_
          refine ⟨_, rfl, _, _, rfl, rfl, _, rfl, ?_⟩
          refine ifN (by simp; omega) ?_
          refine ⟨_, rfl, _, rfl, _, _, rfl, rfl, _, rfl, ?_⟩
          refine ifN (by simp; omega) ?_
          exact ⟨g2, hDG, rfl, _, rfl⟩
        · rintro ws τ G2 ⟨g2, hDG, rfl, _⟩
          refine ⟨D, _, rfl, .inl (.of hDG), _, _, rfl, rfl, _, rfl, ?_⟩
          refine ifN (by simp) ?_
          exact key _ _ ⟨rfl, g2⟩
      rintro _ G2 ⟨rfl, g2⟩
      have gg := g.trans g2
      refine ⟨_, rfl, av, rfl, ⟨_, g2.seqT sqG⟩, fun D hD => ?_⟩
      refine comp_tup0 (K := K) (a := av) (xs := (fs.map (ren (keptF xs.length fl))).map V.int) (fun m ws τ G3 => Same G2 G3 ∧ G3 D = some (.lst ws) ∧ ws = (fs.take m).map V.int ∧ ∃ o, τ = [o, some (.ref P)])
        ⟨Same.new hD, upd_same, rfl, none, rfl⟩ (fun m ws τ G3 _ ⟨g3, _⟩ => (g2.trans g3).seqT sqG) ?_ ?_
      · rintro m y ws τ G3 hy ⟨g3, hDG, hws, o, rfl⟩
        have hm : m < fs.length := by have := (List.getElem?_eq_some_iff.mp hy).1; simpa using this
        have hyv : y = .int (ren (keptF xs.length fl) fs[m]) := by
          rw [List.getElem?_map, List.getElem?_map, List.getElem?_eq_getElem hm] at hy
          simpa using hy.symm
        subst hyv
        obtain ⟨_, _, f2, f3, f4⟩ := hfk _ (List.getElem_mem hm)
        have hat2 : atI ((keptF xs.length fl).map V.int) (ren (keptF xs.length fl) fs[m]) = some (.int fs[m]) := by
          have := at_int f2 f3
          rwa [f4] at this
        refine ⟨_, rfl, _, rfl, P, _, _, _, rfl, rfl, .of ((gg.trans g3) _ _ hP), hat2, hDG, small (by rw [hws, List.length_map, List.length_take]; omega), g3.turn hD, upd_same, ?_, _, rfl⟩
        rw [List.take_succ, List.getElem?_eq_getElem hm, List.map_append, hws]
        rfl
      · rintro ws τ G3 ⟨g3, hDG, hws, _⟩
        rw [List.length_map, List.length_map, List.take_length] at hws
        refine ⟨D, _, rfl, .inl ⟨.of hDG, fun T1 hT1 => ?_⟩⟩
        have g4 : Same G3 (upd G3 T1 (.tup ws)) := Same.new hT1
        have tt : TI K (upd G3 T1 (.tup ws)) (.ref T1) fs := TI.mk (by rw [← hws]; exact .of upd_same)
        have gA := (gg.trans g3).trans g4
        refine ⟨_, rfl, _, rfl, _, rfl, P, _, _, _, rfl, rfl, .of (gA _ _ hP), hatk, a, xq, _, vx, rfl, rfl, gA.seq hxq2, hvx, _, _, tt, TI.same gA tvx, (by show deps (nums _) + 1 ≤ 8; rw [deps_nums]; decide), _, rfl, ?_⟩
        rw [eqD_refl]
        refine ifN (by simp) ?_
        exact ⟨_, _, rfl, gA⟩
    · rintro σ G ⟨o4, o5, rfl, g⟩
      exact k G g
abbrev s_L_thing_by : Stmt := top 47
theorem sc_L_thing_by : FnScope ["_law_pieces", "_law_pairs", "_law_cell", "_law_pair", "_law_way", "_law_odd", "_law_low"] ["_law_pieces", "_law_pairs", "_law_cell"] (defScope s_L_thing_by) := ⟨rfl, rfl, rfl, by decide +kernel, rfl, by decide +kernel, by decide +kernel⟩
theorem nd_L_thing_by : (["_law_pieces", "_law_pairs", "_law_cell", "_law_pair", "_law_way", "_law_odd", "_law_low"] : List Str).Nodup := by decide +kernel

theorem ok_L_thing_by {f : Addr} {fd : FuncData} (F : Fun K "_law_thing_by" "_law_thing_by" s_L_thing_by f fd) (T : Txt K mg C_HoleError C_NoShape C_NoText C_NoName C_NoLevel C_NoChain C_NoTable C_NoTurn C_NoMap C_NoGlue C_NoPrime C_NoStage C_NoPair C_NoRow C_NoPiece C_NoRound) (h_L_pick : Has P w K mg base "_law_pick" ["_law_cell", "_law_j", "_law_many"] 1 (sp_L_pick K)) : FnOk P w K mg base CX0 2 f fd ["_law_pieces", "_law_pairs", "_law_cell"] (sp_L_thing61 K) := by
  refine F.ok sc_L_thing_by (fun vs H Q E h => ?_) (fun cdv A outer s H vs Q E hr h => ?_)
  · obtain ⟨a, fa, xs, ps, c, rfl, hA, hF, hp2, hxl, hpl, k⟩ := h
    rfl
  · obtain ⟨a, fa, xs, ps, c, rfl, hA, hF, hp2, hxl, hpl, k⟩ := h
    refine ⟨_, (pss_cons (ps_set (i := 3) nd_L_thing_by (by rfl) (by first | exact Or.inl rfl | exact Or.inr rfl) (pe_tup (pa_cons (pe_callH h_L_pick hr (by rfl) (pa_cons (pv 2) (pa_cons pe_int (pa_cons (pe_op op_add (pe_callB (kcall_len_seq (K := K)) (by rfl) T.n_len PySem.boot_len (pa_cons (pv 0) pa_nil)) pe_int) pa_nil)))) (pa_cons (pe_callH h_L_pick hr (by rfl) (pa_cons (pv 2) (pa_cons pe_int (pa_cons (pe_op op_add (pe_callB (kcall_len_seq (K := K)) (by rfl) T.n_len PySem.boot_len (pa_cons (pv 0) pa_nil)) pe_int) pa_nil)))) pa_nil))))
      (pss_cons (ps_if (PW.pt (pw_and (pt_cmpR op_gt (pe_callB (kcall_len_seq (K := K)) (by rfl) T.n_len PySem.boot_len (pa_cons (pv 1) pa_nil)) pe_int (nomark _)) (pw_and1 (pt_cmpR op_ne (pe_op op_mod (pv 2) pe_int) pe_int (nomark _))))) (pss_one (ps_set (i := 3) nd_L_thing_by (by rfl) (by first | exact Or.inl rfl | exact Or.inr rfl) (pe_ix (kix_list (K := K)) (pv 1) (pe_op op_mod (pe_op op_fdiv (pv 2) pe_int) (pe_callB (kcall_len_seq (K := K)) (by rfl) T.n_len PySem.boot_len (pa_cons (pv 1) pa_nil))) (fun _ _ => rfl)))) pss_nil)
      (pss_cons (ps_set (i := 4) nd_L_thing_by (by rfl) (by first | exact Or.inl rfl | exact Or.inr rfl) (pe_op op_mod (pe_op op_fdiv (pv 2) pe_int) pe_int))
      (pss_cons (ps_set (i := 5) nd_L_thing_by (by rfl) (by first | exact Or.inl rfl | exact Or.inr rfl) (pe_tup (pa_cons (pe_lst (pa_cons (pe_ix (kix_tup (K := K)) (pv 3) pe_int (fun _ _ => rfl)) (pa_cons (pe_ix (kix_tup (K := K)) (pv 3) pe_int (fun _ _ => rfl)) pa_nil))) (pa_cons (pe_tup (pa_cons (pe_ix (kix_tup (K := K)) (pv 3) pe_int (fun _ _ => rfl)) (pa_cons (pe_ix (kix_tup (K := K)) (pv 3) pe_int (fun _ _ => rfl)) pa_nil))) (pa_cons (pe_tup (pa_cons (pe_ix (kix_tup (K := K)) (pv 3) pe_int (fun _ _ => rfl)) (pa_cons (pe_ix (kix_tup (K := K)) (pv 3) pe_int (fun _ _ => rfl)) (pa_cons (pe_ix (kix_tup (K := K)) (pv 3) pe_int (fun _ _ => rfl)) pa_nil)))) (pa_cons (pe_tup (pa_cons (pe_ix (kix_tup (K := K)) (pv 3) pe_int (fun _ _ => rfl)) pa_nil)) (pa_cons pe_non (pa_cons pe_str (pa_cons (pe_ix (kix_tup (K := K)) (pv 3) pe_int (fun _ _ => rfl)) pa_nil)))))))))
      (pss_cons (ps_if (pt_cmpR op_lt (pv 4) pe_int (nomark _)) (pss_one (ps_ret (pe_ix (kix_tup (K := K)) (pv 5) (pv 4) (fun _ _ => rfl)))) pss_nil)
      (pss_cons (ps_if (pt_cmpR op_eq (pv 4) pe_int (nomark _)) (pss_cons (ps_setC (N' := ["_law_one"]) (cap := [none]) (i := 6) nd_L_thing_by (by rfl) (by first | exact Or.inl rfl | exact Or.inr rfl) (by rfl) (by kernel_rfl) (kpi_list (K := K) (pv 1)) (fun _ _ _ _ => (pg_name (i := 0) ndc_17 (by rfl) (by first | exact Or.inl rfl | exact Or.inr rfl))) (fun _ _ _ _ => (pts_one (pt_cmpR op_lt (pe_ix (kix_tup (K := K)) (pv 0) pe_int (fun _ _ => rfl)) pe_int (nomark _)))) (fun _ _ _ _ => (pv 0)))
      (pss_cons (ps_if (pt_cmpR op_gt (pe_callB (kcall_len_seq (K := K)) (by rfl) T.n_len PySem.boot_len (pa_cons (pv 6) pa_nil)) pe_int (nomark _)) (pss_one (ps_ret (pe_tup (pa_cons (pe_cmpR op_eq (pe_ix (kix_tup (K := K)) (pe_ix (kix_list (K := K)) (pv 6) pe_int (fun _ _ => rfl)) pe_int (fun _ _ => rfl)) pe_int (nomark _)) (pa_cons (pe_ix (kix_tup (K := K)) (pe_ix (kix_list (K := K)) (pv 6) pe_int (fun _ _ => rfl)) pe_int (fun _ _ => rfl)) pa_nil))))) pss_nil)
      (pss_one (ps_ret (pe_tup (pa_cons pe_bl (pa_cons (pe_ix (kix_tup (K := K)) (pv 3) pe_int (fun _ _ => rfl)) pa_nil))))))) pss_nil)
      (pss_cons (ps_if (pt_cmpR op_eq (pv 4) pe_int (nomark _)) (pss_one (ps_ret (pe_tup (pa_cons (pe_op op_sub (pe_ix (kix_tup (K := K)) (pv 3) pe_int (fun _ _ => rfl)) (pe_callB (kcall_len_seq (K := K)) (by rfl) T.n_len PySem.boot_len (pa_cons (pv 0) pa_nil))) (pa_cons (pe_ix (kix_tup (K := K)) (pv 3) pe_int (fun _ _ => rfl)) pa_nil))))) pss_nil)
      (pss_one (ps_ret (pv 3)))))))))), ?_⟩
    obtain ⟨us, hqa, hul⟩ := LT.len hA
    obtain ⟨_, fu, zf, hqf, hrf⟩ := id hF
    cases zf
    have hfl : fu.length = ps.length := by have := hrf.length; rw [List.length_map] at this; exact this
    have pairAt : ∀ (G : Hp), Same H G → ∀ m, m < fu.length → ∃ (b : Addr) (i j : Int), fu[m]? = some (.ref b) ∧ SqT K G b [.int i, .int j] := fun G g m hm => by
      have hm2 : m < ps.length := by omega
      obtain ⟨v, hv, tv⟩ := hrf.get (show (ps.map tI)[m]? = some (tI ps[m]) by rw [List.getElem?_map, List.getElem?_eq_getElem hm2]; rfl)
      obtain ⟨b, rfl, sq⟩ := TI.sq tv
      have e2 := hp2 _ (List.getElem_mem hm2)
      generalize ps[m] = q at sq e2
      match q, e2 with
      | [i, j], _ => exact ⟨b, i, j, hv, g.seqT sq⟩
    refine tSeq_cut (fun σ' H' => ∃ (b : Addr) (i j : Int), σ' = [some (.ref a), some (.ref fa), some (.int c), some (.ref b), none, none, none] ∧ Same H H' ∧ SqT K H' b [.int i, .int j]) ?_ fun key => ?_
    rotate_left
    · refine ⟨_, rfl, _, rfl, a, us, rfl, .inl hqa, _, _, rfl, rfl, c, 0, _, rfl, by omega, fun r1 H1 s1 _ _ => ?_⟩
      refine ⟨_, rfl, _, rfl, a, us, rfl, .inl (s1.seq hqa), _, _, rfl, rfl, c, 1, _, rfl, by omega, fun r2 H2 s2 _ _ => ?_⟩
      exact ⟨smallE (by simp), fun P hP => key _ _ ⟨P, r1, r2, rfl, (s1.trans s2).trans (Same.new hP), .of upd_same⟩⟩
    rintro _ H1 ⟨b, i, j, rfl, s1, hb⟩
    refine tSeq_cut (fun σ' H' => ∃ (b : Addr) (i j : Int), σ' = [some (.ref a), some (.ref fa), some (.int c), some (.ref b), none, none, none] ∧ Same H H' ∧ SqT K H' b [.int i, .int j]) ?_ fun key => ?_
    rotate_left
    · refine ⟨_, rfl, fa, fu, rfl, .inl (s1.seq hqf), _, _, rfl, rfl, _, rfl, ?_⟩
      refine ite2 (fun h1 => ?_) (fun h1 => ?_)
      rotate_left
      · refine ifN (by decide) ?_
        exact key _ _ ⟨b, i, j, rfl, s1, hb⟩
      have hfp : 0 < (fu.length : Int) := of_decide_eq_true h1
      refine ⟨_, rfl, _, _, rfl, rfl, (by decide : (0 : Int) < 8), rfl, _, rfl, ?_⟩
      refine ite2 (fun h2 => ?_) (fun h2 => ?_)
      rotate_left
      · exact key _ _ ⟨b, i, j, rfl, s1, hb⟩
      obtain ⟨m, em⟩ := Int.eq_ofNat_of_zero_le (Int.emod_nonneg (c / 8) (by omega : (fu.length : Int) ≠ 0))
      have hm : m < fu.length := by have := Int.emod_lt_of_pos (c / 8) hfp; omega
      obtain ⟨b2, i2, j2, e2, q2⟩ := pairAt H1 s1 m hm
      exact ⟨_, rfl, _, rfl, _, _, rfl, rfl, ⟨by decide, by decide⟩, _, rfl, fa, fu, rfl, .inl (s1.seq hqf), _, _, rfl, rfl, hfp, fa, fu, _, .ref b2, rfl, rfl, s1.seq hqf, (by rw [em]; exact atI_nat e2), key _ _ ⟨b2, i2, j2, rfl, s1, q2⟩⟩
    rintro _ H2 ⟨b, i, j, rfl, s2, hb⟩
    obtain ⟨way, eway⟩ : ∃ way, way = c / 512 % 16 := ⟨_, rfl⟩
    have w0 : 0 ≤ way := by rw [eway]; exact Int.emod_nonneg _ (by decide)
    refine tSeq_cut (fun σ' H' => σ' = [some (.ref a), some (.ref fa), some (.int c), some (.ref b), some (.int way), none, none] ∧ H2 = H') ?_ fun key => ?_
    rotate_left
    · refine ⟨_, rfl, _, _, rfl, rfl, ⟨by decide, by decide⟩, _, _, rfl, rfl, (by decide : (0 : Int) < 16), key _ _ ⟨?_, rfl⟩⟩
      rw [eway]; rfl
    rintro _ _ ⟨rfl, rfl⟩
    refine tSeq_cut (fun σ' H' => ∃ (O L1 T2 T3 T4 : Addr), σ' = [some (.ref a), some (.ref fa), some (.int c), some (.ref b), some (.int way), some (.ref O), none] ∧ Same H2 H' ∧ H' O = some (.tup [.ref L1, .ref T2, .ref T3, .ref T4, .non, .str (Str.ofString "0 1"), .int i]) ∧ H' L1 = some (.lst [.int i, .int j]) ∧ H' T2 = some (.tup [.int j, .int i]) ∧ H' T3 = some (.tup [.int i, .int j, .int j]) ∧ H' T4 = some (.tup [.int i])) ?_ fun key => ?_
    rotate_left
    · refine ⟨_, rfl, b, _, _, _, rfl, rfl, hb, rfl, _, rfl, b, _, _, _, rfl, rfl, hb, rfl, smallE (by simp), fun L1 hL1 => ?_⟩
      have sG1 : Same H2 (upd H2 L1 (.lst [.int i, .int j])) := Same.new hL1
      have eG1 : upd H2 L1 (.lst [.int i, .int j]) L1 = some (.lst [.int i, .int j]) := upd_same
      generalize upd H2 L1 (.lst [.int i, .int j]) = G1 at sG1 eG1
      refine ⟨_, rfl, b, _, _, _, rfl, rfl, (sG1.seqT hb), rfl, _, rfl, b, _, _, _, rfl, rfl, (sG1.seqT hb), rfl, smallE (by simp), fun T2 hT2 => ?_⟩
      have sG2 : Same G1 (upd G1 T2 (.tup [.int j, .int i])) := Same.new hT2
      have eG2 : upd G1 T2 (.tup [.int j, .int i]) T2 = some (.tup [.int j, .int i]) := upd_same
      generalize upd G1 T2 (.tup [.int j, .int i]) = G2 at sG2 eG2
      have q2 := (sG1.trans sG2).seqT hb
      refine ⟨_, rfl, b, _, _, _, rfl, rfl, q2, rfl, _, rfl, b, _, _, _, rfl, rfl, q2, rfl, _, rfl, b, _, _, _, rfl, rfl, q2, rfl, smallE (by simp), fun T3 hT3 => ?_⟩
      have sG3 : Same G2 (upd G2 T3 (.tup [.int i, .int j, .int j])) := Same.new hT3
      have eG3 : upd G2 T3 (.tup [.int i, .int j, .int j]) T3 = some (.tup [.int i, .int j, .int j]) := upd_same
      generalize upd G2 T3 (.tup [.int i, .int j, .int j]) = G3 at sG3 eG3
      have q3 := sG3.seqT q2
      refine ⟨_, rfl, b, _, _, _, rfl, rfl, q3, rfl, smallE (by simp), fun T4 hT4 => ?_⟩
      have sG4 : Same G3 (upd G3 T4 (.tup [.int i])) := Same.new hT4
      have eG4 : upd G3 T4 (.tup [.int i]) T4 = some (.tup [.int i]) := upd_same
      generalize upd G3 T4 (.tup [.int i]) = G4 at sG4 eG4
      have q4 := sG4.seqT q3
      refine ⟨_, rfl, b, _, _, _, rfl, rfl, q4, rfl, smallE (by simp), fun O hO => ?_⟩
      have sG5 : Same G4 (upd G4 O (.tup [.ref L1, .ref T2, .ref T3, .ref T4, .non, .str (Str.ofString "0 1"), .int i])) := Same.new hO
      have eG5 : upd G4 O (.tup [.ref L1, .ref T2, .ref T3, .ref T4, .non, .str (Str.ofString "0 1"), .int i]) O = some (.tup [.ref L1, .ref T2, .ref T3, .ref T4, .non, .str (Str.ofString "0 1"), .int i]) := upd_same
      generalize upd G4 O (.tup [.ref L1, .ref T2, .ref T3, .ref T4, .non, .str (Str.ofString "0 1"), .int i]) = G5 at sG5 eG5
      exact key _ _ ⟨O, L1, T2, T3, T4, rfl, sG1.trans (sG2.trans (sG3.trans (sG4.trans sG5))), eG5, sG5 _ _ (sG4 _ _ (sG3 _ _ (sG2 _ _ eG1))), sG5 _ _ (sG4 _ _ (sG3 _ _ eG2)), sG5 _ _ (sG4 _ _ eG3), sG5 _ _ eG4⟩
    rintro _ H4 ⟨O, L1, T2, T3, T4, rfl, s4, hO, hL1, hT2, hT3, hT4⟩
    have s04 : Same H H4 := s2.trans s4
    have hb4 := s4.seqT hb
    refine tSeq_cut (fun σ' H' => σ' = [some (.ref a), some (.ref fa), some (.int c), some (.ref b), some (.int way), some (.ref O), none] ∧ H4 = H') ?_ fun key => ?_
    rotate_left
    · refine ⟨_, rfl, _, _, rfl, rfl, _, rfl, ?_⟩
      refine ite2 (fun h1 => ?_) (fun h1 => ?_)
      rotate_left
      · exact key _ _ ⟨rfl, rfl⟩
      have h7 : way < 7 := of_decide_eq_true h1
      rcases (show way = 0 ∨ way = 1 ∨ way = 2 ∨ way = 3 ∨ way = 4 ∨ way = 5 ∨ way = 6 by omega) with z | z | z | z | z | z | z
      · exact ⟨_, rfl, _, rfl, O, _, _, .ref L1, rfl, rfl, .of hO, (by rw [z]; rfl), k _ (.lst (nums [i, j])) H4 s04 (⟨L1, _, rfl, .of hL1, reps_nums.mpr rfl⟩) (odd_of (by show deps (nums [i, j]) + 1 ≤ 4; rw [deps_nums]; decide) (fun _ z => nomatch z))⟩
      · exact ⟨_, rfl, _, rfl, O, _, _, .ref T2, rfl, rfl, .of hO, (by rw [z]; rfl), k _ (tI [j, i]) H4 s04 (⟨T2, _, rfl, .of hT2, reps_nums.mpr rfl⟩) (odd_tI (by show 2 ≤ 3; decide))⟩
      · exact ⟨_, rfl, _, rfl, O, _, _, .ref T3, rfl, rfl, .of hO, (by rw [z]; rfl), k _ (tI [i, j, j]) H4 s04 (⟨T3, _, rfl, .of hT3, reps_nums.mpr rfl⟩) (odd_tI (by show 3 ≤ 3; decide))⟩
      · exact ⟨_, rfl, _, rfl, O, _, _, .ref T4, rfl, rfl, .of hO, (by rw [z]; rfl), k _ (tI [i]) H4 s04 (⟨T4, _, rfl, .of hT4, reps_nums.mpr rfl⟩) (odd_tI (by show 1 ≤ 3; decide))⟩
      · exact ⟨_, rfl, _, rfl, O, _, _, .non, rfl, rfl, .of hO, (by rw [z]; rfl), k _ (.non) H4 s04 (rfl) (odd_of (by decide) (fun _ z => nomatch z))⟩
      · exact ⟨_, rfl, _, rfl, O, _, _, .str (Str.ofString "0 1"), rfl, rfl, .of hO, (by rw [z]; rfl), k _ (.str (Str.ofString "0 1")) H4 s04 (rfl) (odd_of (by show 0 ≤ 4; decide) (fun _ z => nomatch z))⟩
      · exact ⟨_, rfl, _, rfl, O, _, _, .int i, rfl, rfl, .of hO, (by rw [z]; rfl), k _ (.int i) H4 s04 (rfl) (odd_of (by show 0 ≤ 4; decide) (fun _ z => nomatch z))⟩
    rintro _ _ ⟨rfl, rfl⟩
    refine tSeq_cut (fun σ' H' => σ' = [some (.ref a), some (.ref fa), some (.int c), some (.ref b), some (.int way), some (.ref O), none] ∧ H4 = H') ?_ fun key => ?_
    rotate_left
    · refine ⟨_, rfl, rfl, _, rfl, ?_⟩
      refine ite2 (fun h1 => ?_) (fun h1 => ?_)
      rotate_left
      · exact key _ _ ⟨rfl, rfl⟩
      refine tSeq_cut (fun σ' H' => ∃ (L : Addr) (lu : List V), σ' = [some (.ref a), some (.ref fa), some (.int c), some (.ref b), some (.int way), some (.ref O), some (.ref L)] ∧ Same H4 H' ∧ H' L = some (.lst lu) ∧ ∀ v, lu[0]? = some v → ∃ (b2 : Addr) (x y : Int), v = .ref b2 ∧ SqT K H b2 [.int x, .int y]) ?_ fun key => ?_
      rotate_left
      · refine ⟨_, rfl, fa, rfl, ⟨_, s04.seq hqf⟩, fun D hD => ?_⟩
        refine comp_list (K := K) (a := fa) (xs := fu) (fun m ws τ G => Same H4 G ∧ G D = some (.lst ws) ∧ ws.length ≤ m ∧ m ≤ fu.length ∧ (∀ v ∈ ws, ∃ (b2 : Addr) (x y : Int), v = .ref b2 ∧ SqT K H b2 [.int x, .int y]) ∧ ∃ o, τ = [o])
          ⟨Same.new hD, upd_same, Nat.le_refl _, Nat.zero_le _, (fun v hv => by simp at hv), none, rfl⟩ (fun m ws τ G _ ⟨g, _⟩ => (s04.trans g).seq hqf) ?_ ?_
        · rintro m x ws τ G hx ⟨g, hDG, hwl, hml, hws, o, rfl⟩
          have hm : m < fu.length := (List.getElem?_eq_some_iff.mp hx).1
          obtain ⟨b2, x1, y1, e2, q2⟩ := pairAt H (Same.refl H) m hm
          rw [e2] at hx
          cases hx
          refine ⟨_, rfl, b2, _, _, _, rfl, rfl, (s04.trans g).seqT q2, rfl, _, _, rfl, rfl, _, rfl, ?_⟩
          refine ite2 (fun h2 => ?_) (fun h2 => ?_)
          · refine ⟨_, rfl, hDG, small (by omega), g.turn hD, upd_same, by rw [List.length_append]; simp; omega, by omega, fun v hv => ?_, _, rfl⟩
            rcases List.mem_append.mp hv with hv | hv
            · exact hws v hv
            · rw [List.mem_singleton.mp hv]
              exact ⟨b2, x1, y1, rfl, q2⟩
          · exact ⟨g, hDG, by omega, by omega, hws, _, rfl⟩
        · rintro ws τ G ⟨g, hDG, _, _, hws, _⟩
          exact key _ _ ⟨D, ws, rfl, g, hDG, fun v hv => hws v (List.mem_of_getElem? hv)⟩
      rintro _ H5 ⟨L, lu, rfl, s5, hL5, hlu⟩
      refine tSeq_cut (fun σ' H' => σ' = [some (.ref a), some (.ref fa), some (.int c), some (.ref b), some (.int way), some (.ref O), some (.ref L)] ∧ H5 = H') ?_ fun key => ?_
      rotate_left
      · refine ⟨_, rfl, L, lu, rfl, .inl (.of hL5), _, _, rfl, rfl, _, rfl, ?_⟩
        refine ite2 (fun h2 => ?_) (fun h2 => ?_)
        rotate_left
        · exact key _ _ ⟨rfl, rfl⟩
        have hlp : 0 < lu.length := by
          have : (0 : Int) < (lu.length : Int) := of_decide_eq_true h2
          omega
        obtain ⟨b2, x, y, eb, q2⟩ := hlu _ (List.getElem?_eq_getElem hlp)
        have at0 : atI lu 0 = some (.ref b2) := by rw [← eb]; exact atI_nat (j := 0) (List.getElem?_eq_getElem hlp)
        have q5 := (s04.trans s5).seqT q2
        refine ⟨_, rfl, L, _, _, .ref b2, rfl, rfl, .of hL5, at0, b2, _, _, .int x, rfl, rfl, q5, rfl, rfl, _, rfl, L, _, _, .ref b2, rfl, rfl, .of hL5, at0, b2, _, _, .int y, rfl, rfl, q5, rfl, smallE (by simp), fun T1 hT1 => ?_⟩
        exact k _ (.tup [.bl (decide (V.int x = V.int 1)), .int y]) _ ((s04.trans s5).trans (Same.new hT1)) ⟨T1, _, rfl, .of upd_same, _, _, rfl, rfl, _, _, rfl, rfl, rfl⟩ (odd_bl _ _)
      rintro _ _ ⟨rfl, rfl⟩
      refine ⟨_, rfl, b, _, _, _, rfl, rfl, (s5.seqT hb4), rfl, smallE (by simp), fun T1 hT1 => ?_⟩
      exact k _ (.tup [.bl true, .int j]) _ ((s04.trans s5).trans (Same.new hT1)) ⟨T1, _, rfl, .of upd_same, _, _, rfl, rfl, _, _, rfl, rfl, rfl⟩ (odd_bl _ _)
    rintro _ _ ⟨rfl, rfl⟩
    refine tSeq_cut (fun σ' H' => σ' = [some (.ref a), some (.ref fa), some (.int c), some (.ref b), some (.int way), some (.ref O), none] ∧ H4 = H') ?_ fun key => ?_
    rotate_left
    · refine ⟨_, rfl, rfl, _, rfl, ?_⟩
      refine ite2 (fun h1 => ?_) (fun h1 => ?_)
      rotate_left
      · exact key _ _ ⟨rfl, rfl⟩
      refine ⟨_, rfl, b, _, _, _, rfl, rfl, hb4, rfl, _, rfl, a, us, rfl, .inl (s04.seq hqa), _, _, rfl, rfl, _, rfl, b, _, _, _, rfl, rfl, hb4, rfl, smallE (by simp), fun T1 hT1 => ?_⟩
      exact k _ (tI [i - (us.length : Int), j]) _ (s04.trans (Same.new hT1)) ⟨T1, _, rfl, .of upd_same, reps_nums.mpr rfl⟩ (odd_tI (by show 2 ≤ 3; decide))
    rintro _ _ ⟨rfl, rfl⟩
    exact ⟨_, rfl, k _ (tI [i, j]) H4 s04 ⟨b, _, rfl, hb4, reps_nums.mpr rfl⟩ (odd_tI (by show 2 ≤ 3; decide))⟩
abbrev s_is_bent : Stmt := top 28
theorem sc_is_bent : FnScope ["shape", "thing"] ["shape", "thing"] (defScope s_is_bent) := ⟨rfl, rfl, rfl, by decide +kernel, rfl, by decide +kernel, by decide +kernel⟩
theorem ok_is_bent {f : Addr} {fd : FuncData} (F : Fun K "is_bent" "is_bent" s_is_bent f fd) (T : Txt K mg C_HoleError C_NoShape C_NoText C_NoName C_NoLevel C_NoChain C_NoTable C_NoTurn C_NoMap C_NoGlue C_NoPrime C_NoStage C_NoPair C_NoRow C_NoPiece C_NoRound) (h_bent : Has P w K mg base "bent" ["shape"] 2 (sp_bent K)) (h_is_whole : Has P w K mg base "is_whole" ["thing"] 1 (sp_is_whole K)) : FnOk P w K mg base CX0 3 f fd ["shape", "thing"] (sp_is_bentD K) := by
  refine F.ok sc_is_bent (fun vs H Q E h => ?_) (fun cdv A outer s H vs Q E hr h => ?_)
  · obtain ⟨a, v, ys, d, rfl, hL, hyl, h4, hv, hsz, k⟩ := h
    rfl
  · obtain ⟨a, v, ys, d, rfl, hL, hyl, h4, hv, hsz, k⟩ := h
    have hu8 : (A.deeper (PyProof.Rows.envOfC "is_bent" (defScope s_is_bent) s.heap.objs.size f cdv)).units + 8 < cLine := by have := hr.units; omega
    refine ⟨_, (pss_cons (ps_if (PW.pt (pw_or (pt_not (pt_val (pe_callB (kcall_isinst (K := K)) (by rfl) T.n_isinstance boot_isinstanceB (pa_cons (pv 1) (pa_cons (pe_bltn (v := .ty "tuple") rfl T.n_tuple boot_tupleT rfl) pa_nil))))) (pw_or1 (pt_not (pt_val (pe_callB (kcall_allB (K := K) (by rfl)) (by rfl) T.n_all boot_allB (pa_cons (pe_comp (N' := ["place"]) (cap := [none]) (by rfl) (by kernel_rfl) (kpi_tup (K := K) (pv 1)) (fun _ _ _ _ => (pg_name (i := 0) ndc_3 (by rfl) (by first | exact Or.inl rfl | exact Or.inr rfl))) (fun _ _ _ _ => pts_nil) (fun _ _ _ _ => (pe_callH h_is_whole hr (by rfl) (pa_cons (pv 0) pa_nil)))) pa_nil))))))) (pss_one (ps_ret pe_bl)) pss_nil)
      (pss_one (ps_ret (pe_cmpR (kop_inD (K := K) hu8) (pv 1) (pe_callH h_bent hr (by rfl) (pa_cons (pv 0) pa_nil)) rfl)))), ?_⟩
    cases d with
    | tup ds =>
      obtain ⟨ap, us, rfl, sqp, rds⟩ := id hv
      have hul : us.length = ds.length := rds.length
      have hdl : ds.length ≤ 1000 := hsz
      refine ⟨_, rfl, _, _, .tup ds, rfl, .inr (.inr (.inr (.inl rfl))), hv, _, rfl, ?_⟩
      refine ifN (by simp [isD]) ?_
      refine ⟨_, rfl, ap, rfl, ⟨_, sqp⟩, fun D hD => ?_⟩
      refine comp_tup0 (K := K) (a := ap) (xs := us) (fun i ws τ G => Same H G ∧ G D = some (.lst ws) ∧ ws = ((ds.take i).map wholeD).map V.bl ∧ ∃ o, τ = [o])
        ⟨Same.new hD, upd_same, rfl, none, rfl⟩ (fun i ws τ G _ ⟨g, _⟩ => g.seqT sqp) ?_ ?_
      · rintro i y ws τ G hy ⟨g, hDG, hws, o, rfl⟩
        obtain ⟨dy, hdy, hyd⟩ := rds.getV hy
        refine ⟨_, rfl, _, dy, rfl, Rep.same g hyd, hDG, small (by rw [hws, List.length_map, List.length_map, List.length_take]; omega), g.turn hD, upd_same, ?_, _, rfl⟩
        rw [List.take_succ, hdy, hws, List.map_append, List.map_append]
        rfl
      · rintro ws τ G ⟨g, hDG, hws, _⟩
        rw [hul, List.take_length] at hws
        refine ⟨D, ds.map wholeD, rfl, .of (by rw [hDG, hws]), _, rfl, ?_⟩
        have ea : (ds.map wholeD).all id = ds.all wholeD := by rw [List.all_map]; rfl
        rw [ea]
        have eb : bentB ys (.tup ds) = (ds.all wholeD && decide (ds.map toI ∈ bentP ys)) := rfl
        cases hall : ds.all wholeD with
        | false =>
          refine ifP rfl ?_
          have k1 := k G g
          rw [eb, hall, Bool.false_and] at k1
          exact k1
        | true =>
          refine ifN (by simp) ?_
          refine ⟨_, rfl, _, rfl, a, ys, rfl, Rep.same g hL, hyl, h4, fun F fu G2 hF g2 hF2 rF => ?_⟩
          have gg := g.trans g2
          have ed : L2.D.tup ds = tI (ds.map toI) := by show L2.D.tup ds = .tup (nums (ds.map toI)); rw [← wholes_nums hall]
          refine ⟨.tup ds, (bentP ys).map tI, Rep.same gg hv, .inl ⟨F, fu, rfl, .of hF2, rF⟩, (by have := deps_tIs (bentP ys); omega), ?_⟩
          rw [if_neg (by simp), ed, in_bent]
          have k1 := k _ gg
          rw [eb, hall, Bool.true_and] at k1
          exact k1
    | non =>
      refine ⟨_, rfl, _, _, .non, rfl, .inr (.inr (.inr (.inl rfl))), hv, _, rfl, ?_⟩
      refine ifP (by simp [isD]) ?_
      refine ifP rfl ?_
      exact k H (Same.refl H)
    | bl b =>
      refine ⟨_, rfl, _, _, .bl b, rfl, .inr (.inr (.inr (.inl rfl))), hv, _, rfl, ?_⟩
      refine ifP (by simp [isD]) ?_
      refine ifP rfl ?_
      exact k H (Same.refl H)
    | int b =>
      refine ⟨_, rfl, _, _, .int b, rfl, .inr (.inr (.inr (.inl rfl))), hv, _, rfl, ?_⟩
      refine ifP (by simp [isD]) ?_
      refine ifP rfl ?_
      exact k H (Same.refl H)
    | str b =>
      refine ⟨_, rfl, _, _, .str b, rfl, .inr (.inr (.inr (.inl rfl))), hv, _, rfl, ?_⟩
      refine ifP (by simp [isD]) ?_
      refine ifP rfl ?_
      exact k H (Same.refl H)
    | lst b =>
      refine ⟨_, rfl, _, _, .lst b, rfl, .inr (.inr (.inr (.inl rfl))), hv, _, rfl, ?_⟩
      refine ifP (by simp [isD]) ?_
      refine ifP rfl ?_
      exact k H (Same.refl H)
abbrev s_L_next : Stmt := top 37
theorem sc_L_next : FnScope ["_law_pieces", "_law_cell", "_law_level_here", "_law_faces", "_law_j", "_law_meet"] ["_law_pieces", "_law_cell"] (defScope s_L_next) := ⟨rfl, rfl, rfl, by decide +kernel, rfl, by decide +kernel, by decide +kernel⟩
theorem nd_L_next : (["_law_pieces", "_law_cell", "_law_level_here", "_law_faces", "_law_j", "_law_meet"] : List Str).Nodup := by decide +kernel

theorem ok_L_next {f : Addr} {fd : FuncData} (F : Fun K "_law_next" "_law_next" s_L_next f fd) (T : Txt K mg C_HoleError C_NoShape C_NoText C_NoName C_NoLevel C_NoChain C_NoTable C_NoTurn C_NoMap C_NoGlue C_NoPrime C_NoStage C_NoPair C_NoRow C_NoPiece C_NoRound) (h_L_side : Has P w K mg base "_law_side" ["_law_pieces", "_law_cell"] 2 (sp_L_side K)) (h_L_meets : Has P w K mg base "_law_meets" ["_law_pieces", "_law_faces", "_law_face"] 1 (sp_L_meets K)) (h_L_pick : Has P w K mg base "_law_pick" ["_law_cell", "_law_j", "_law_many"] 1 (sp_L_pick K)) (h_L_level : Has P w K mg base "_law_level" ["_law_piece"] 1 (sp_level_of K)) : FnOk P w K mg base CX0 3 f fd ["_law_pieces", "_law_cell"] (sp_L_next K) := by
  refine F.ok sc_L_next (fun vs H Q E h => ?_) (fun cdv A outer s H vs Q E hr h => ?_)
  · obtain ⟨a, xs, c, rfl, hL, hC, hxl, k⟩ := h
    rfl
  · obtain ⟨a, xs, c, rfl, hL, hC, hxl, k⟩ := h
    refine ⟨_, (pss_cons (ps_set (i := 2) nd_L_next (by rfl) (by first | exact Or.inl rfl | exact Or.inr rfl) (PEw.h (pe_ixTw (K := K) (paw_ints (ns := [0, 1, 1, 2, 1, 2, 3, 2]) (by kernel_rfl)) (pe_op op_mod (pv 1) pe_int) (fun _ _ => rfl))))
      (pss_cons (ps_set (i := 3) nd_L_next (by rfl) (by first | exact Or.inl rfl | exact Or.inr rfl) (pe_tup pa_nil))
      (pss_cons (ps_if (pt_cmpR op_eq (pv 2) pe_int (nomark _)) (pss_one (ps_ret (pe_tup pa_nil))) pss_nil)
      (pss_cons (ps_for PassesOwn.never rfl (pi_range1 (by rfl) T.n_range (pa_cons (pe_op op_add (pv 2) pe_int) pa_nil)) (pg_name (i := 4) nd_L_next (by rfl) (by first | exact Or.inl rfl | exact Or.inr rfl)) (pss_cons (ps_setC (N' := ["_law_face", "_law_pieces", "_law_level_here"]) (cap := [none, some 0, some 2]) (i := 5) nd_L_next (by rfl) (by first | exact Or.inl rfl | exact Or.inr rfl) (by rfl) (by kernel_rfl) (pi_range1 (by rfl) T.n_range (pa_cons (pe_callB (kcall_len_seq (K := K)) (by rfl) T.n_len PySem.boot_len (pa_cons (pv 0) pa_nil)) pa_nil)) (fun _ _ _ _ => (pg_name (i := 0) ndc_7 (by rfl) (by first | exact Or.inl rfl | exact Or.inr rfl))) (fun _ _ _ _ => (pts_one (pt_cmpR op_eq (pe_op op_add (pe_callH h_L_level hr (by rfl) (pa_cons (pe_ix (kix_list (K := K)) (pv 1) (pv 0) (fun _ _ => rfl)) pa_nil)) pe_int) (pv 2) (nomark _)))) (fun _ _ _ _ => (pv 0)))
      (pss_cons (ps_setC (N' := ["_law_face", "_law_pieces", "_law_faces"]) (cap := [none, some 0, some 3]) (i := 5) nd_L_next (by rfl) (by first | exact Or.inl rfl | exact Or.inr rfl) (by rfl) (by kernel_rfl) (kpi_list (K := K) (pv 5)) (fun _ _ _ _ => (pg_name (i := 0) ndc_6 (by rfl) (by first | exact Or.inl rfl | exact Or.inr rfl))) (fun _ _ _ _ => (pts_one (pt_val (pe_callH h_L_meets hr (by rfl) (pa_cons (pv 1) (pa_cons (pv 2) (pa_cons (pv 0) pa_nil))))))) (fun _ _ _ _ => (pv 0)))
      (pss_cons (ps_if (pt_cmpR op_eq (pe_callB (kcall_len_seq (K := K)) (by rfl) T.n_len PySem.boot_len (pa_cons (pv 5) pa_nil)) pe_int (nomark _)) (pss_cons (ps_if (PW.pt (pw_and (pt_cmpR op_gt (pv 2) pe_int (nomark _)) (pw_and1 (pt_cmpR op_eq (pv 4) (pv 2) (nomark _))))) (pss_one (ps_ret (pe_callTy (kcall_tuple_of (K := K)) (by rfl) T.n_tuple boot_tupleT (pa_cons (pe_comp (N' := ["_law_face", "_law_pieces", "_law_j"]) (cap := [none, some 0, some 4]) (by rfl) (by kernel_rfl) (kpi_tup (K := K) (pv 3)) (fun _ _ _ _ => (pg_name (i := 0) ndc_5 (by rfl) (by first | exact Or.inl rfl | exact Or.inr rfl))) (fun _ _ _ _ => pts_nil) (fun _ _ _ _ => (pe_ix (kix_tup (K := K)) (pe_ix (kix_list (K := K)) (pv 1) (pv 0) (fun _ _ => rfl)) (pe_op op_sub (pv 2) pe_int) (fun _ _ => rfl)))) pa_nil)))) pss_nil)
      (pss_one (ps_ret (pe_callH h_L_side hr (by rfl) (pa_cons (pv 0) (pa_cons (pv 1) pa_nil)))))) pss_nil)
      (pss_one (ps_set (i := 3) nd_L_next (by rfl) (by first | exact Or.inl rfl | exact Or.inr rfl) (pe_op (kop_catW (K := K)) (pv 3) (pe_tup (pa_cons (pe_ix (kix_list (K := K)) (pv 5) (pe_callH h_L_pick hr (by rfl) (pa_cons (pv 1) (pa_cons (pv 4) (pa_cons (pe_callB (kcall_len_seq (K := K)) (by rfl) T.n_len PySem.boot_len (pa_cons (pv 5) pa_nil)) pa_nil)))) (fun _ _ => rfl)) pa_nil)))))))))
      (pss_one (ps_ret (pv 3))))))), ?_⟩
    obtain ⟨us, hq, ul⟩ := LT.len hL
    have p8 : (0 : Int) < 8 := by decide
    have c0 := Int.emod_nonneg c (show (8 : Int) ≠ 0 by decide)
    have c1 := Int.emod_lt_of_pos c p8
    refine tSeq_cut (fun σ' H' => ∃ lh : Int, σ' = [some (.ref a), some (.int c), some (.int lh), none, none, none] ∧ Same H H' ∧ 0 ≤ lh ∧ lh ≤ 3) ?_ fun key => ?_
    rotate_left
    · refine ⟨smallE (by simp), fun T1 hT1 => ?_⟩
      obtain ⟨x, hx, x0, x1⟩ : ∃ x, atI (([0, 1, 1, 2, 1, 2, 3, 2] : List Int).map V.int) (c % 8) = some (.int x) ∧ 0 ≤ x ∧ x ≤ 3 := by
        rcases (show c % 8 = 0 ∨ c % 8 = 1 ∨ c % 8 = 2 ∨ c % 8 = 3 ∨ c % 8 = 4 ∨ c % 8 = 5 ∨ c % 8 = 6 ∨ c % 8 = 7 by omega) with e | e | e | e | e | e | e | e <;> rw [e] <;> exact ⟨_, rfl, by decide, by decide⟩
      refine ⟨_, rfl, _, _, rfl, rfl, p8, T1, _, _, _, rfl, rfl, .of upd_same, hx, ?_⟩
      exact key _ _ ⟨x, rfl, Same.new hT1, x0, x1⟩
    rintro _ H1 ⟨lh, rfl, s1, l0, l3⟩
    refine tSeq_cut (fun σ' H' => ∃ F0 : Addr, σ' = [some (.ref a), some (.int c), some (.int lh), some (.ref F0), none, none] ∧ Same H H' ∧ H' F0 = some (.tup [])) ?_ fun key => ?_
    rotate_left
    · refine ⟨Nat.zero_le _, fun F0 hF0 => ?_⟩
      exact key _ _ ⟨F0, rfl, s1.trans (Same.new hF0), upd_same⟩
    rintro _ H2 ⟨F0, rfl, s2, hF0⟩
    refine tSeq_cut (fun σ' H' => σ' = [some (.ref a), some (.int c), some (.int lh), some (.ref F0), none, none] ∧ H2 = H' ∧ ¬ lh = 0) ?_ fun key => ?_
    rotate_left
    · refine ⟨_, rfl, rfl, _, rfl, ?_⟩
      refine ite2 (fun _ => ?_) (fun h => key _ _ ⟨rfl, rfl, by simpa using h⟩)
      refine ⟨Nat.zero_le _, fun T1 hT1 => ?_⟩
      exact k (.ref T1) [] _ (s2.trans (Same.new hT1)) (TI.mk (.of upd_same))
    rintro _ _ ⟨rfl, rfl, hl0⟩
    refine ⟨_, rfl, _, _, rfl, rfl, _, rfl, by omega, by omega, ?_⟩
    refine for_range (lo := 0) (n := (lh + 1).toNat) (fun j σ G => ∃ (v : V) (fs : List Int) (o4 o5 : Option V), σ = [some (.ref a), some (.int c), some (.int lh), some v, o4, o5] ∧ Same H G ∧ TI K G v fs ∧ fs.length = j ∧ (∀ x ∈ fs, 0 ≤ x ∧ x < (xs.length : Int) ∧ levI (xs.getD x.toNat []).length + 1 = lh))
      ⟨.ref F0, [], none, none, rfl, s2, TI.mk (.of hF0), rfl, fun x hx => by cases hx⟩ ?_ ?_
    · rintro j σ G hj ⟨v, fs, o4, o5, rfl, g, tv, hfl, hfs⟩
      rw [show (0 : Int) + (j : Int) = (j : Int) by omega]
      have hjl : (j : Int) ≤ lh := by omega
      refine tSeq_cut (fun σ' H' => ∃ (M : Addr) (ms : List Int), σ' = [some (.ref a), some (.int c), some (.int lh), some v, some (.int (j : Int)), some (.ref M)] ∧ Same G H' ∧ H' M = some (.lst (ms.map V.int)) ∧ ms.length ≤ 1000 ∧ ∀ x ∈ ms, 0 ≤ x ∧ x < (xs.length : Int) ∧ levI (xs.getD x.toNat []).length + 1 = lh) ?_ fun key => ?_
      rotate_left
      · refine ⟨_, rfl, a, us, rfl, .inl (g.seq hq), _, rfl, by omega, by omega, fun D hD => ?_⟩
        refine comp_range (fun i ys τ G1 => Same G G1 ∧ G1 D = some (.lst ys) ∧ (∃ ms : List Int, ys = ms.map V.int ∧ ms.length ≤ i ∧ ∀ x ∈ ms, 0 ≤ x ∧ x < (xs.length : Int) ∧ levI (xs.getD x.toNat []).length + 1 = lh) ∧ ∃ o, τ = [o, some (.ref a), some (.int lh)])
          ⟨Same.new hD, upd_same, ⟨[], rfl, Nat.le_refl _, fun x hx => (by cases hx)⟩, none, rfl⟩ ?_ ?_
        · rintro i ys τ G1 hi ⟨g1, hDG, ⟨ms, rfl, hml, hms⟩, o, rfl⟩
          rw [show (0 : Int) + (i : Int) = (i : Int) by omega]
          have hi2 : i < xs.length := by omega
          obtain ⟨u1, v1, hu1, av1, tv1⟩ := LT.get (i := (i : Int)) (Rep.same (g.trans g1) hL) (by omega) (by omega)
          refine ⟨_, rfl, _, rfl, a, u1, _, v1, rfl, rfl, hu1, av1, v1, nums _, rfl, .inr tv1, _, _, rfl, rfl, _, rfl, rfl, _, rfl, ?_⟩
          rw [show (nums (xs.getD ((i : Int)).toNat [])).length = (xs.getD ((i : Int)).toNat []).length from List.length_map ..]
          refine ite2 (fun h1 => ?_) (fun h1 => ?_)
          · have e : levI (xs.getD ((i : Int)).toNat []).length + 1 = lh := by
              by_cases z : levI (xs.getD ((i : Int)).toNat []).length + 1 = lh
              · exact z
              · exact absurd h1 (noI z)
            refine ⟨_, rfl, hDG, small (by rw [List.length_map]; omega), g1.turn hD, upd_same, ⟨ms ++ [(i : Int)], by simp, by simp; omega, fun x hx => ?_⟩, _, rfl⟩
            rcases List.mem_append.mp hx with z | z
            · exact hms x z
            · rw [List.mem_singleton] at z
              subst z
              exact ⟨by omega, by omega, e⟩
          · exact ⟨g1, hDG, ⟨ms, rfl, by omega, hms⟩, _, rfl⟩
        · rintro ys τ G1 ⟨g1, hDG, ⟨ms, rfl, hml, hms⟩, _⟩
          exact key _ _ ⟨D, ms, rfl, g1, hDG, by omega, hms⟩
      rintro _ G1 ⟨M1, ms1, rfl, g1, hM1, hml1, hms1⟩
      have tv1 := TI.same g1 tv
      have gg1 := g.trans g1
      refine tSeq_cut (fun σ' H' => ∃ (M : Addr) (ms : List Int), σ' = [some (.ref a), some (.int c), some (.int lh), some v, some (.int (j : Int)), some (.ref M)] ∧ Same G1 H' ∧ H' M = some (.lst (ms.map V.int)) ∧ ms.length ≤ 1000 ∧ ∀ x ∈ ms, 0 ≤ x ∧ x < (xs.length : Int) ∧ levI (xs.getD x.toNat []).length + 1 = lh) ?_ fun key => ?_
      rotate_left
      · refine ⟨_, rfl, M1, rfl, ⟨_, .of hM1⟩, fun D hD => ?_⟩
        refine comp_list (K := K) (a := M1) (xs := ms1.map V.int) (fun i ys τ G2 => Same G1 G2 ∧ G2 D = some (.lst ys) ∧ (∃ ms : List Int, ys = ms.map V.int ∧ ms.length ≤ i ∧ ∀ x ∈ ms, 0 ≤ x ∧ x < (xs.length : Int) ∧ levI (xs.getD x.toNat []).length + 1 = lh) ∧ ∃ o, τ = [o, some (.ref a), some v])
          ⟨Same.new hD, upd_same, ⟨[], rfl, Nat.le_refl _, fun x hx => (by cases hx)⟩, none, rfl⟩ (fun i ys τ G2 _ ⟨g2, _⟩ => .of (g2 _ _ hM1)) ?_ ?_
        · rintro i y ys τ G2 hy ⟨g2, hDG, ⟨ms, rfl, hml, hms⟩, o, rfl⟩
          have hi : i < ms1.length := by have := (List.getElem?_eq_some_iff.mp hy).1; simpa using this
          have hyv : y = .int ms1[i] := by
            rw [List.getElem?_map, List.getElem?_eq_getElem hi] at hy
            simpa using hy.symm
          subst hyv
          obtain ⟨x0, x1, x2⟩ := hms1 _ (List.getElem_mem hi)
          generalize ms1[i] = x at x0 x1 x2
          refine ⟨_, rfl, _, rfl, _, rfl, a, v, xs, fs, x, rfl, Rep.same (gg1.trans g2) hL, TI.same g2 tv1, x0, x1, fun y hy => ⟨(hfs y hy).1, (hfs y hy).2.1⟩, by omega, (by
          have hcx := hC.at x0 x1
          rw [levI_eq] at x2
          by_cases hz : (xs.getD x.toNat []).length = 0
          · exact .inl hz
          · refine .inr ⟨by omega, fun y hy => ?_⟩
            obtain ⟨y0, y1, y2⟩ := hfs y hy
            have hcy := hC.at y0 y1
            rw [levI_eq] at y2
            omega), fun b => ?_⟩
          refine ⟨_, rfl, ?_⟩
          refine ite2 (fun h1 => ?_) (fun h1 => ?_)
          · refine ⟨_, rfl, hDG, small (by rw [List.length_map]; omega), g2.turn hD, upd_same, ⟨ms ++ [x], by simp, by simp; omega, fun y hy => ?_⟩, _, rfl⟩
            rcases List.mem_append.mp hy with z | z
            · exact hms y z
            · rw [List.mem_singleton] at z
              subst z
              exact ⟨x0, x1, x2⟩
          · exact ⟨g2, hDG, ⟨ms, rfl, by omega, hms⟩, _, rfl⟩
        · rintro ys τ G2 ⟨g2, hDG, ⟨ms, rfl, hml, hms⟩, _⟩
          rw [List.length_map] at hml
          exact key _ _ ⟨D, ms, rfl, g2, hDG, by omega, hms⟩
      rintro _ G2 ⟨M, ms, rfl, g2, hM, hml, hms⟩
      have gg := gg1.trans g2
      have tv2 := TI.same g2 tv1
      have me : (ms.map V.int).length = ms.length := List.length_map ..
      obtain ⟨af, rfl, sqf⟩ := TI.sq tv2
      refine tSeq_cut (fun σ' H' => σ' = [some (.ref a), some (.int c), some (.int lh), some (.ref af), some (.int (j : Int)), some (.ref M)] ∧ G2 = H' ∧ 0 < (ms.length : Int)) ?_ fun key => ?_
      rotate_left
      · refine ⟨_, rfl, M, _, rfl, .inl (.of hM), rfl, _, rfl, ?_⟩
        rw [me]
        refine ite2 (fun h1 => ?_) (fun h1 => ?_)
        rotate_left
        · have : ¬ ms.length = 0 := fun z => h1 (by rw [z]; rfl)
          exact key _ _ ⟨rfl, rfl, by omega⟩
        refine ⟨_, rfl, _, _, rfl, rfl, _, rfl, ?_⟩
        refine ite2 (fun h2 => ?_) (fun h2 => ?_)
        rotate_left
        · refine ifN (by simp) ?_
          exact ⟨_, rfl, _, rfl, a, xs, c, rfl, Rep.same gg hL, hxl, fun w p H' s' tw => k w p H' (gg.trans s') tw⟩
        refine ⟨_, rfl, _, rfl, rfl, _, rfl, ?_⟩
        refine ite2 (fun h3 => ?_) (fun h3 => ?_)
        rotate_left
        · exact ⟨_, rfl, _, rfl, a, xs, c, rfl, Rep.same gg hL, hxl, fun w p H' s' tw => k w p H' (gg.trans s') tw⟩
        have hlh : 1 < lh := by simpa using h2
        have hje : (j : Int) = lh := by simpa using h3
        refine ⟨_, rfl, af, rfl, ⟨_, sqf⟩, fun D hD => ?_⟩
        refine comp_tup0 (K := K) (a := af) (xs := fs.map V.int) (fun i ys τ G3 => Same G2 G3 ∧ G3 D = some (.lst ys) ∧ (∃ ps : List Int, ys = ps.map V.int ∧ ps.length ≤ i) ∧ ∃ o, τ = [o, some (.ref a), some (.int (j : Int))])
          ⟨Same.new hD, upd_same, ⟨[], rfl, Nat.le_refl _⟩, none, rfl⟩ (fun i ys τ G3 _ ⟨g3, _⟩ => g3.seqT sqf) ?_ ?_
        · rintro i y ys τ G3 hy ⟨g3, hDG, ⟨ps, rfl, hpl⟩, o, rfl⟩
          have hi : i < fs.length := by have := (List.getElem?_eq_some_iff.mp hy).1; simpa using this
          have hyv : y = .int fs[i] := by
            rw [List.getElem?_map, List.getElem?_eq_getElem hi] at hy
            simpa using hy.symm
          subst hyv
          obtain ⟨x0, x1, x2⟩ := hfs _ (List.getElem_mem hi)
          generalize fs[i] = x at x0 x1 x2
          have hcx := hC.at x0 x1
          rw [levI_eq] at x2
          obtain ⟨u1, v1, hu1, av1, tv1'⟩ := LT.get (Rep.same (gg.trans g3) hL) x0 x1
          obtain ⟨b1, rfl, hb1⟩ := tv1'.sq
          refine ⟨_, rfl, _, rfl, a, u1, _, _, rfl, rfl, hu1, av1, _, rfl, _, _, rfl, rfl, b1, _, _, _, rfl, rfl, hb1, at_int (by omega) (by omega), hDG, small (by rw [List.length_map]; omega), g3.turn hD, upd_same, ⟨ps ++ [_], by rw [List.map_append]; rfl, by simp; omega⟩, _, rfl⟩
        · rintro ys τ G3 ⟨g3, hDG, ⟨ps, rfl, hpl⟩, _⟩
          refine ⟨D, _, rfl, .inl ⟨.of hDG, fun T1 hT1 => ?_⟩⟩
          exact k (.ref T1) ps _ ((gg.trans g3).trans (Same.new hT1)) (TI.mk (.of upd_same))
      rintro _ _ ⟨rfl, rfl, hpos⟩
      refine ⟨_, rfl, _, rfl, _, rfl, _, rfl, _, rfl, M, _, rfl, .inl (.of hM), _, _, _, rfl, by rw [me]; exact hpos, fun r G4 g4 r0 r1 => ?_⟩
      rw [me] at r1
      have hmm : ms.getD r.toNat 0 ∈ ms := getD_mem_of (by omega)
      have hmr := hms _ hmm
      refine ⟨M, _, _, _, rfl, rfl, .of (g4 _ _ hM), at_int r0 r1, smallE (by simp), fun pt hpt => ?_⟩
      generalize ms.getD r.toNat 0 = q at hmr
      have s3 : Same G4 (upd G4 pt (.tup [.int q])) := Same.new hpt
      refine ⟨af, pt, _, _, rfl, rfl, (g4.trans s3).seqT sqf, .of upd_same, smallE (by simp; omega), fun p3 H3 s4 q3 => ?_⟩
      refine ⟨.ref p3, fs ++ [q], _, _, rfl, ((gg.trans g4).trans s3).trans s4, TI.mk ?_, by simp [hfl], fun x hx => ?_⟩
      · rw [List.map_append]
        exact q3
      · rcases List.mem_append.mp hx with z | z
        · exact hfs x z
        · rw [List.mem_singleton] at z
          subst z
          exact hmr
    · rintro σ G ⟨v, fs, o4, o5, rfl, g, tv, hfl, hfs⟩
      exact ⟨_, rfl, k v fs G g tv⟩
abbrev s_L_shape_by : Stmt := top 41
theorem sc_L_shape_by : FnScope ["_law_kind", "_law_cells", "_law_most", "_law_family", "_law_words", "_law_cell", "_law_more"] ["_law_kind", "_law_cells", "_law_most"] (defScope s_L_shape_by) := ⟨rfl, rfl, rfl, by decide +kernel, rfl, by decide +kernel, by decide +kernel⟩
theorem nd_L_shape_by : (["_law_kind", "_law_cells", "_law_most", "_law_family", "_law_words", "_law_cell", "_law_more"] : List Str).Nodup := by decide +kernel

theorem ok_L_shape_by {f : Addr} {fd : FuncData} (F : Fun K "_law_shape_by" "_law_shape_by" s_L_shape_by f fd) (T : Txt K mg C_HoleError C_NoShape C_NoText C_NoName C_NoLevel C_NoChain C_NoTable C_NoTurn C_NoMap C_NoGlue C_NoPrime C_NoStage C_NoPair C_NoRow C_NoPiece C_NoRound) (h_L_words_with : Has P w K mg base "_law_words_with" ["_law_words", "_law_word", "_law_family"] 2 (sp_L_words_with K)) (h_L_word_by : Has P w K mg base "_law_word_by" ["_law_cell", "_law_family", "_law_letters"] 1 (sp_L_word_by K)) (h_L_faces_by : Has P w K mg base "_law_faces_by" ["_law_word", "_law_family"] 1 (sp_L_faces_by K)) : FnOk P w K mg base CX0 3 f fd ["_law_kind", "_law_cells", "_law_most"] (sp_L_shape_by K) := by
  refine F.ok sc_L_shape_by (fun vs H Q E h => ?_) (fun cdv A outer s H vs Q E hr h => ?_)
  · obtain ⟨a, ns, kind, most, rfl, hS, hl, hm0, hm1, k⟩ := h
    rfl
  · obtain ⟨a, ns, kind, most, rfl, hS, hl, hm0, hm1, k⟩ := h
    have hu8 : (A.deeper (PyProof.Rows.envOfC "_law_shape_by" (defScope s_L_shape_by) s.heap.objs.size f cdv)).units + 8 < cLine := by have := hr.units; omega
    refine ⟨_, (pss_cons (ps_set (i := 3) nd_L_shape_by (by rfl) (by first | exact Or.inl rfl | exact Or.inr rfl) pe_int)
      (pss_cons (ps_if (pt_cmpR op_eq (pe_op op_mod (pv 0) pe_int) pe_int (nomark _)) (pss_one (ps_set (i := 3) nd_L_shape_by (by rfl) (by first | exact Or.inl rfl | exact Or.inr rfl) (pe_un un_neg pe_int))) pss_nil)
      (pss_cons (ps_if (pt_cmpR op_eq (pe_op op_mod (pv 0) pe_int) pe_int (nomark _)) (pss_one (ps_set (i := 3) nd_L_shape_by (by rfl) (by first | exact Or.inl rfl | exact Or.inr rfl) (pe_op op_add pe_int (pe_op op_mod (pe_op op_fdiv (pv 0) pe_int) pe_int)))) pss_nil)
      (pss_cons (ps_set (i := 4) nd_L_shape_by (by rfl) (by first | exact Or.inl rfl | exact Or.inr rfl) (pe_lst pa_nil))
      (pss_cons (ps_for PassesOwn.never rfl (kpi_list (K := K) (pv 1)) (pg_name (i := 5) nd_L_shape_by (by rfl) (by first | exact Or.inl rfl | exact Or.inr rfl)) (pss_cons (ps_set (i := 6) nd_L_shape_by (by rfl) (by first | exact Or.inl rfl | exact Or.inr rfl) (pe_callH h_L_words_with hr (by rfl) (pa_cons (pv 4) (pa_cons (pe_callH h_L_word_by hr (by rfl) (pa_cons (pv 5) (pa_cons (pv 3) (pa_cons (pe_op op_add pe_int (pe_op op_mod (pe_op op_fdiv (pv 0) pe_int) pe_int)) pa_nil)))) (pa_cons (pv 3) pa_nil)))))
      (pss_one (ps_if (pt_cmpR op_le (pe_callB (kcall_len_seq (K := K)) (by rfl) T.n_len PySem.boot_len (pa_cons (pv 6) pa_nil)) (pv 2) (nomark _)) (pss_one (ps_set (i := 4) nd_L_shape_by (by rfl) (by first | exact Or.inl rfl | exact Or.inr rfl) (pv 6))) pss_nil))))
      (pss_one (ps_ret (pe_comp (N' := ["_law_word", "_law_family", "_law_words"]) (cap := [none, some 3, some 4]) (by rfl) (by kernel_rfl) (kpi_list (K := K) (pv 4)) (fun _ _ _ _ => (pg_name (i := 0) ndc_10 (by rfl) (by first | exact Or.inl rfl | exact Or.inr rfl))) (fun _ _ _ _ => pts_nil) (fun _ _ _ _ => (pe_callTy (kcall_tuple_of (K := K)) (by rfl) T.n_tuple boot_tupleT (pa_cons (pe_comp (N' := ["_law_face", "_law_words"]) (cap := [none, some 2]) (by rfl) (by kernel_rfl) (kpi_list (K := K) (pe_callH h_L_faces_by hr (by rfl) (pa_cons (pv 0) (pa_cons (pv 1) pa_nil)))) (fun _ _ _ _ => (pg_name (i := 0) ndc_11 (by rfl) (by first | exact Or.inl rfl | exact Or.inr rfl))) (fun _ _ _ _ => pts_nil) (fun _ _ _ _ => (kpe_bm (K := K) PySem.F.plainAttrs_list PySem.F.slot_list_index PySem.F.type_list_index (kmt_index (K := K) hu8) (pv 1) (pa_cons (pv 0) pa_nil)))) pa_nil))))))))))), ?_⟩
    refine tSeq_cut (fun σ' H' => σ' = [some (.int kind), some (.ref a), some (.int most), some (.int 0), none, none, none] ∧ H = H') ?_ fun key0 => key0 _ _ ⟨rfl, rfl⟩
    rintro _ _ ⟨rfl, rfl⟩
    refine tSeq_cut (fun σ' H' => ∃ fam : Int, σ' = [some (.int kind), some (.ref a), some (.int most), some (.int fam), none, none, none] ∧ H = H' ∧ fam < 100) ?_ fun key1 => ?_
    rotate_left
    · refine ⟨_, rfl, _, _, rfl, rfl, (by show (0 : Int) < 3; decide), rfl, _, rfl, ?_⟩
      refine ite2 (fun _ => ?_) (fun _ => ?_)
      · exact ⟨_, rfl, key1 _ _ ⟨-1, rfl, rfl, by decide⟩⟩
      · exact key1 _ _ ⟨0, rfl, rfl, by decide⟩
    rintro _ _ ⟨fam0, rfl, rfl, hf0⟩
    refine tSeq_cut (fun σ' H' => ∃ fam : Int, σ' = [some (.int kind), some (.ref a), some (.int most), some (.int fam), none, none, none] ∧ H = H' ∧ fam < 100) ?_ fun key2 => ?_
    rotate_left
    · refine ⟨_, rfl, _, _, rfl, rfl, (by show (0 : Int) < 3; decide), rfl, _, rfl, ?_⟩
      refine ite2 (fun _ => ?_) (fun _ => ?_)
      · refine ⟨_, rfl, _, _, rfl, rfl, ⟨by decide, by decide⟩, _, _, rfl, rfl, (by show (0 : Int) < 19; decide), _, _, rfl, rfl, key2 _ _ ⟨_, rfl, rfl, ?_⟩⟩
        have : kind / 18 % 19 < 19 := Int.emod_lt_of_pos _ (by decide)
        omega
      · exact key2 _ _ ⟨fam0, rfl, rfl, hf0⟩
    rintro _ _ ⟨fam, rfl, rfl, hf⟩
    have l1 : 0 ≤ kind / 3 % 6 := Int.emod_nonneg _ (by decide)
    have l2 : kind / 3 % 6 < 6 := Int.emod_lt_of_pos _ (by decide)
    refine ⟨Nat.zero_le _, fun W0 hW0 => ?_⟩
    have s0 : Same H (upd H W0 (.lst [])) := Same.new hW0
    refine ⟨_, rfl, a, rfl, ⟨_, s0.seq hS⟩, for_list (K := K) (a := a) (xs := ns.map V.int)
      (fun j σ H2 => ∃ (W : Addr) (wu : List V) (ws : List (List Int)) (o5 o6 : Option V), σ = [some (.int kind), some (.ref a), some (.int most), some (.int fam), some (.ref W), o5, o6] ∧ Same H H2 ∧ H W = none ∧ H2 W = some (.lst wu) ∧
        Reps K H2 wu (ws.map tI) ∧ Ord fam ws ∧ (ws.length : Int) ≤ most)
      ⟨W0, [], [], none, none, rfl, s0, hW0, upd_same, rfl, Ord.nil, by simpa using hm0⟩ (fun j σ H2 _ ⟨_, _, _, _, _, _, s2, _⟩ => s2.seq hS) ?_ ?_⟩
    · rintro j x σ H2 hx ⟨W, wu, ws, o5, o6, rfl, s2, hW, hW2, rW, hO, hwl⟩
      have hjn : j < ns.length := by have := (List.getElem?_eq_some_iff.mp hx).1; simpa using this
      have hxv : x = .int ns[j] := by
        rw [List.getElem?_map, List.getElem?_eq_getElem hjn] at hx
        simpa using hx.symm
      subst hxv
      refine ⟨_, rfl, _, rfl, _, rfl, _, rfl, _, _, rfl, rfl, ⟨by decide, by decide⟩, _, _, rfl, rfl, (by show (0 : Int) < 6; decide), _, _, rfl, rfl, ?_⟩
      refine ⟨_, _, _, rfl, by omega, by omega, by omega, fun v H3 w s3 tv hw => ?_⟩
      refine ⟨_, rfl, ?_⟩
      refine ⟨W, wu, v, ws, w, fam, rfl, s3 _ _ hW2, Reps.same s3 rW, tv, hw, by omega, fun M mu H4 hM s4 hM4 rM => ?_⟩
      have s24 := s3.trans s4
      have hMH : H M = none := (s2.trans s3).free hM
      have mul : mu.length = (wordsWith ws w fam).length := by have := rM.length; simpa using this
      refine ⟨_, rfl, M, _, rfl, .inl (.of hM4), _, rfl, _, _, rfl, rfl, _, rfl, ?_⟩
      refine ite2 (fun h1 => ?_) (fun h1 => ?_)
      · have h2 : (mu.length : Int) ≤ most := by simpa using h1
        exact ⟨_, rfl, M, mu, wordsWith ws w fam, _, _, rfl, s2.trans s24, hMH, hM4, rM, wordsWith_ord hO hw, by omega⟩
      · exact ⟨W, wu, ws, _, _, rfl, s2.trans s24, hW, s24 _ _ hW2, Reps.same s24 rW, hO, hwl⟩
    · rintro σ H2 ⟨W, wu, ws, o5, o6, rfl, s2, hW, hW2, rW, hO, hwl⟩
      have wul : wu.length = ws.length := by have := rW.length; simpa using this
      refine ⟨_, rfl, W, rfl, ⟨_, .of hW2⟩, fun D hD => ?_⟩
      have hDH : H D = none := s2.free hD
      refine comp_list0 (K := K) (a := W) (xs := wu) (fun i ys τ H1 => Same H2 H1 ∧ H1 D = some (.lst ys) ∧ Reps K H1 ys (((ws.take i).map fun w => (facesBy w fam).map fun f => (idx ws f : Int)).map tI) ∧ ∃ o, τ = [o, some (.int fam), some (.ref W)])
        ⟨Same.new hD, upd_same, rfl, none, rfl⟩ (fun i ys τ H1 _ ⟨s1, _⟩ => .of (s1 _ _ hW2)) ?_ ?_
      · rintro i x ys τ H1 hx ⟨s1, hD1, r1, o, rfl⟩
        have hi : i < wu.length := (List.getElem?_eq_some_iff.mp hx).1
        have hil : i < ws.length := by omega
        have hix : (ws.map tI)[i]? = some (tI ws[i]) := by rw [List.getElem?_map, List.getElem?_eq_getElem hil]; rfl
        obtain ⟨x', hx', tx⟩ := rW.get hix
        rw [hx] at hx'
        cases hx'
        obtain ⟨hwi, hfi⟩ := hO.mem (List.getElem_mem hil)
        generalize hwe : ws[i] = w at tx hwi hfi
        refine ⟨_, rfl, _, rfl, x, w, fam, rfl, TI.same s1 tx, hwi, fun p fu H3 hp s3 hp3 r3 => ?_⟩
        have ful : fu.length = (facesBy w fam).length := by have := r3.length; simpa using this
        have s13 := s1.trans s3
        refine ⟨p, rfl, ⟨_, .of hp3⟩, fun D2 hD2 => ?_⟩
        refine comp_list0 (K := K) (a := p) (xs := fu) (fun m zs τ H4 => Same H3 H4 ∧ H4 D2 = some (.lst zs) ∧ zs = ((facesBy w fam).take m).map (fun f => V.int (idx ws f : Int)) ∧ ∃ o, τ = [o, some (.ref W)])
          ⟨Same.new hD2, upd_same, rfl, none, rfl⟩ (fun m zs τ H4 _ ⟨s4, _⟩ => .of (s4 _ _ hp3)) ?_ ?_
        · rintro m y zs τ H4 hy ⟨s4, hD4, hzs, o, rfl⟩
          have hm : m < fu.length := (List.getElem?_eq_some_iff.mp hy).1
          have hmf : m < (facesBy w fam).length := by omega
          have hmy : ((facesBy w fam).map tI)[m]? = some (tI (facesBy w fam)[m]) := by rw [List.getElem?_map, List.getElem?_eq_getElem hmf]; rfl
          obtain ⟨y', hy', ty⟩ := r3.get hmy
          rw [hy] at hy'
          cases hy'
          have hfm : (facesBy w fam)[m] ∈ ws := hfi _ (List.getElem_mem _)
          have s14 := s13.trans s4
          have rw4 : Rep K H4 (.ref W) (.lst (ws.map tI)) := ⟨W, wu, rfl, .of (s14 _ _ hW2), Reps.same s14 rW⟩
          have hfl := (faces_len hwi)
          have hzl : zs.length ≤ 4 := by
            rw [hzs, List.length_map, List.length_take]
            have := hfl.2
            have := hfl.1
            split at this <;> omega
          refine ⟨_, rfl, .inl ⟨rfl, _, .of (s14 _ _ hW2)⟩, _, rfl, ws.map tI, y, tI (facesBy w fam)[m], idx ws (facesBy w fam)[m], rfl, rw4, TI.same s4 ty, (by have := deps_tIs ws; omega), findIdx_tI hfm, ?_⟩
          refine ⟨hD4, small (by omega), s4.turn hD2, upd_same, ?_, _, rfl⟩
          rw [List.take_succ, List.getElem?_eq_getElem hmf, List.map_append, hzs]
          rfl
        · rintro zs τ H4 ⟨s4, hD4, hzs, _⟩
          rw [ful, List.take_length] at hzs
          have s14 := s13.trans s4
          refine ⟨D2, _, rfl, .inl ⟨.of hD4, fun T hT => ?_⟩⟩
          have s5 : Same H4 (upd H4 T (.tup zs)) := Same.new hT
          have hD5 := (s3.trans (s4.trans s5)) _ _ hD1
          have t5 : TI K (upd H4 T (.tup zs)) (.ref T) ((facesBy w fam).map fun f => (idx ws f : Int)) := by
            refine TI.mk (.of ?_)
            rw [List.map_map, upd_same, hzs]
            rfl
          have hyl : ys.length = i := by have := r1.length; simp at this; omega
          refine ⟨hD5, small (by omega), (s14.trans s5).turn hD, upd_same, ?_, _, rfl⟩
          have e2 : (ws.take (i + 1)).map (fun w => (facesBy w fam).map fun f => (idx ws f : Int)) = (ws.take i).map (fun w => (facesBy w fam).map fun f => (idx ws f : Int)) ++ [(facesBy w fam).map fun f => (idx ws f : Int)] := by
            rw [List.take_succ, List.getElem?_eq_getElem hil, hwe, List.map_append]
            rfl
          rw [e2]
          exact push_TI hD5 (Reps.same (s3.trans (s4.trans s5)) r1) t5
      · rintro ys τ H1 ⟨s1, hD1, r1, _⟩
        rw [wul, List.take_length] at r1
        exact k D ys H1 (shapeOf ws fam) hDH (s2.trans s1) hD1 r1 (shapeOf_shape hO) (by unfold shapeOf; rw [List.length_map]; exact hwl)
abbrev s_away : Stmt := top 27
theorem sc_away : FnScope ["shape", "thing", "kept"] ["shape", "thing"] (defScope s_away) := ⟨rfl, rfl, rfl, by decide +kernel, rfl, by decide +kernel, by decide +kernel⟩
theorem nd_away : (["shape", "thing", "kept"] : List Str).Nodup := by decide +kernel

theorem ok_away {f : Addr} {fd : FuncData} (F : Fun K "away" "away" s_away f fd) (T : Txt K mg C_HoleError C_NoShape C_NoText C_NoName C_NoLevel C_NoChain C_NoTable C_NoTurn C_NoMap C_NoGlue C_NoPrime C_NoStage C_NoPair C_NoRow C_NoPiece C_NoRound) (h_is_bent : Has P w K mg base "is_bent" ["shape", "thing"] 3 (sp_is_bentD K)) (h_left_with : Has P w K mg base "left_with" ["shape", "kept"] 2 (sp_left_with K)) : FnOk P w K mg base (CX1 P w) 4 f fd ["shape", "thing"] (sp_awayX K C_NoPair) := by
  refine F.okX sc_away (fun vs H Q E h => ?_) (fun cdv A outer s H vs Q E hr h => ?_)
  · obtain ⟨a, v, ys, d, rfl, hL, hyl, h4, hrg, hd, hsz, kE, kQ⟩ := h
    rfl
  · obtain ⟨a, v, ys, d, rfl, hL, hyl, h4, hrg, hd, hsz, kE, kQ⟩ := h
    have hu8 : (A.deeper (PyProof.Rows.envOfC "away" (defScope s_away) s.heap.objs.size f cdv)).units + 8 < cLine := by have := hr.units; omega
    refine ⟨_, (pss_cons (ps_if (pt_not (pt_val (pe_callH h_is_bent hr (by rfl) (pa_cons (pv 0) (pa_cons (pv 1) pa_nil))))) (pss_one (ps_raise makes_def (by rfl) (by rfl) T.m_NoPair T.e_NoPair (pa_cons pe_str pa_nil))) pss_nil)
      (pss_cons (ps_setC (N' := ["place", "thing"]) (cap := [none, some 1]) (i := 2) nd_away (by rfl) (by first | exact Or.inl rfl | exact Or.inr rfl) (by rfl) (by kernel_rfl) (pi_range1 (by rfl) T.n_range (pa_cons (pe_callB (kcall_len_seq (K := K)) (by rfl) T.n_len PySem.boot_len (pa_cons (pv 0) pa_nil)) pa_nil)) (fun _ _ _ _ => (pg_name (i := 0) ndc_2 (by rfl) (by first | exact Or.inl rfl | exact Or.inr rfl))) (fun _ _ _ _ => (pts_one (pt_cmpR (kop_notInD (K := K) hu8) (pv 0) (pv 1) rfl))) (fun _ _ _ _ => (pv 0)))
      (pss_one (ps_ret (pe_tup (pa_cons (pe_callH h_left_with hr (by rfl) (pa_cons (pv 0) (pa_cons (pv 2) pa_nil))) (pa_cons (pv 2) pa_nil))))))), ?_⟩
    obtain ⟨yu, hyq, hyul⟩ := LT.len hL
    refine tSeq_cut (fun σ' H' => σ' = [some (.ref a), some v, none] ∧ Same H H' ∧ bentB ys d = true) ?_ fun key => ?_
    rotate_left
    · refine ⟨_, rfl, _, rfl, a, v, ys, d, rfl, hL, hyl, h4, hd, hsz, fun H' s' => ?_⟩
      cases hb : bentB ys d with
      | false =>
        refine ⟨_, rfl, ?_⟩
        refine ifP rfl ?_
        exact ⟨smallE (by simp), kE hb H' s'⟩
      | true =>
        refine ⟨_, rfl, ?_⟩
        refine ifN (by simp) ?_
        exact key _ _ ⟨rfl, s', hb⟩
    rintro _ H1 ⟨rfl, s1, hbb⟩
    obtain ⟨i, j, rfl, hbent, _⟩ := bentB_pair hbb
    have hv : TI K H v [i, j] := hd
    have hcl := clo_bent hrg hbent
    have k := kQ i j rfl hbb
    obtain ⟨av, rfl, sqv⟩ := TI.sq hv
    have rl : ∀ m : Nat, m ≤ ys.length → (restN m [i, j]).length ≤ m := fun m _ => Nat.le_trans (List.length_filter_le ..) (by rw [upN_len]; exact Nat.le_refl _)
    refine tSeq_cut (fun σ' H' => ∃ P : Addr, σ' = [some (.ref a), some (.ref av), some (.ref P)] ∧ Same H1 H' ∧ H1 P = none ∧ H' P = some (.lst ((restN ys.length [i, j]).map V.int))) ?_ fun key => ?_
    rotate_left
    · refine ⟨_, rfl, a, yu, rfl, .inl (s1.seq hyq), _, rfl, by omega, by omega, fun D hD => ?_⟩
      rw [hyul]
      refine comp_range (n := ys.length) (fun m ws τ G => Same H1 G ∧ G D = some (.lst ws) ∧ ws = (restN m [i, j]).map V.int ∧ m ≤ ys.length ∧ ∃ o, τ = [o, some (.ref av)])
        ⟨Same.new hD, upd_same, rfl, Nat.zero_le _, none, rfl⟩ ?_ ?_
      · rintro m ws τ G hm ⟨g, hDG, rfl, hml, o, rfl⟩
        rw [show (0 : Int) + (m : Int) = (m : Int) by omega]
        have sv : TI K G (.ref av) [i, j] := TI.same (s1.trans g) hv
        have e5 : restN (m + 1) [i, j] = restN m [i, j] ++ (if (decide ((m : Int) ≠ i) && decide ((m : Int) ≠ j)) = true then [(m : Int)] else []) := by
          unfold restN
          rw [upN_succ, List.filter_append]
          congr 1
          by_cases hz : (decide ((m : Int) ≠ i) && decide ((m : Int) ≠ j)) = true
          · rw [if_pos hz, List.filter_cons_of_pos (by exact hz), List.filter_nil]
          · rw [if_neg hz, List.filter_cons_of_neg (by exact hz), List.filter_nil]
        have hrl := rl m hml
        refine ⟨_, rfl, _, rfl, .int (m : Int), nums [i, j], rfl, .inr sv, (by rw [deps_nums]; decide), _, rfl, ?_⟩
        have et : (if true = true then !((nums [i, j]).any fun e => eqD e (.int (m : Int))) else (nums [i, j]).any fun e => eqD e (.int (m : Int))) = (decide ((m : Int) ≠ i) && decide ((m : Int) ≠ j)) := by
          rw [if_pos rfl]
          simp only [nums, List.map_cons, List.map_nil, List.any_cons, List.any_nil, eqD, Bool.or_false]
          rw [Bool.eq_iff_iff]
          simp
          omega
        rw [et]
        refine ite2 (fun h1 => ?_) (fun h1 => ?_)
        · refine ⟨_, rfl, hDG, small (by rw [List.length_map]; omega), g.turn hD, upd_same, ?_, by omega, _, rfl⟩
          rw [e5, if_pos h1, List.map_append]
          rfl
        · refine ⟨g, hDG, ?_, by omega, _, rfl⟩
          rw [e5, if_neg h1, List.append_nil]
      · rintro ws τ G ⟨g, hDG, rfl, _, _⟩
        exact key _ _ ⟨D, rfl, g, hD, hDG⟩
    rintro _ H2 ⟨P, rfl, s2, nP, hP⟩
    have s12 := s1.trans s2
    have rl2 := rl ys.length (Nat.le_refl _)
    refine ⟨_, rfl, _, rfl, a, P, ys, restN ys.length [i, j], rfl, Rep.same s12 hL, .of hP, rest_nodup _ _, rest_rng, hcl, by omega, h4, fun L us H3 hL3 s3 hL3' r3 => ?_⟩
    refine ⟨_, rfl, smallE (by simp), fun Rr hRr => ?_⟩
    have s4 := Same.new (o := .tup [.ref L, .ref P]) hRr
    exact k Rr L P us _ ((s12.trans s3).trans s4) (s12.free hL3) (s1.free nP) upd_same (s4 _ _ hL3') (Reps.same s4 r3) ((s3.trans s4) _ _ hP)
abbrev s_L_built : Stmt := top 42
theorem sc_L_built : FnScope ["_law_kind", "_law_cells", "_law_most", "_law_pieces", "_law_cell", "_law_piece"] ["_law_kind", "_law_cells", "_law_most"] (defScope s_L_built) := ⟨rfl, rfl, rfl, by decide +kernel, rfl, by decide +kernel, by decide +kernel⟩
theorem nd_L_built : (["_law_kind", "_law_cells", "_law_most", "_law_pieces", "_law_cell", "_law_piece"] : List Str).Nodup := by decide +kernel

theorem ok_L_built {f : Addr} {fd : FuncData} (F : Fun K "_law_built" "_law_built" s_L_built f fd) (T : Txt K mg C_HoleError C_NoShape C_NoText C_NoName C_NoLevel C_NoChain C_NoTable C_NoTurn C_NoMap C_NoGlue C_NoPrime C_NoStage C_NoPair C_NoRow C_NoPiece C_NoRound) (h_L_shape_by : Has P w K mg base "_law_shape_by" ["_law_kind", "_law_cells", "_law_most"] 3 (sp_L_shape_by K)) (h_L_fits : Has P w K mg base "_law_fits" ["_law_pieces", "_law_thing"] 2 (sp_fitsL K)) (h_L_next : Has P w K mg base "_law_next" ["_law_pieces", "_law_cell"] 3 (sp_L_next K)) : FnOk P w K mg base CX0 4 f fd ["_law_kind", "_law_cells", "_law_most"] (sp_builtL K) := by
  refine F.ok sc_L_built (fun vs H Q E h => ?_) (fun cdv A outer s H vs Q E hr h => ?_)
  · obtain ⟨cl, ns, kind, most, rfl, hS, hl, hm0, hm1, k⟩ := h
    rfl
  · obtain ⟨cl, ns, kind, most, rfl, hS, hl, hm0, hm1, k⟩ := h
    refine ⟨_, (pss_cons (ps_set (i := 3) nd_L_built (by rfl) (by first | exact Or.inl rfl | exact Or.inr rfl) (pe_lst pa_nil))
      (pss_cons (ps_if (pt_cmpR op_eq (pe_op op_mod (pv 0) pe_int) pe_int (nomark _)) (pss_cons (ps_for PassesOwn.never rfl (kpi_list (K := K) (pv 1)) (pg_name (i := 4) nd_L_built (by rfl) (by first | exact Or.inl rfl | exact Or.inr rfl)) (pss_one (ps_if (pt_cmpR op_lt (pe_callB (kcall_len_seq (K := K)) (by rfl) T.n_len PySem.boot_len (pa_cons (pv 3) pa_nil)) (pv 2) (nomark _)) (pss_cons (ps_set (i := 5) nd_L_built (by rfl) (by first | exact Or.inl rfl | exact Or.inr rfl) (pe_callH h_L_next hr (by rfl) (pa_cons (pv 3) (pa_cons (pe_op op_add (pe_op op_mod (pv 4) pe_int) (pe_op op_mulX pe_int (pe_callB (kcall_len_seq (K := K)) (by rfl) T.n_len PySem.boot_len (pa_cons (pv 3) pa_nil)))) pa_nil))))
      (pss_one (ps_if (pt_val (pe_callH h_L_fits hr (by rfl) (pa_cons (pv 3) (pa_cons (pv 5) pa_nil)))) (pss_one (ps_expr (kpe_bm (K := K) PySem.F.plainAttrs_list PySem.F.slot_list_append PySem.F.type_list_append mt_append (pv 3) (pa_cons (pv 5) pa_nil)))) pss_nil))) pss_nil)))
      (pss_one (ps_ret (pv 3)))) pss_nil)
      (pss_cons (ps_for PassesOwn.never rfl (kpi_list (K := K) (pe_callH h_L_shape_by hr (by rfl) (pa_cons (pe_op op_fdiv (pv 0) pe_int) (pa_cons (pv 1) (pa_cons (pv 2) pa_nil))))) (pg_name (i := 5) nd_L_built (by rfl) (by first | exact Or.inl rfl | exact Or.inr rfl)) (pss_one (ps_if (PW.pt (pw_and (pt_cmpR op_lt (pe_callB (kcall_len_seq (K := K)) (by rfl) T.n_len PySem.boot_len (pa_cons (pv 3) pa_nil)) (pv 2) (nomark _)) (pw_and1 (pt_val (pe_callH h_L_fits hr (by rfl) (pa_cons (pv 3) (pa_cons (pv 5) pa_nil))))))) (pss_one (ps_expr (kpe_bm (K := K) PySem.F.plainAttrs_list PySem.F.slot_list_append PySem.F.type_list_append mt_append (pv 3) (pa_cons (pv 5) pa_nil)))) pss_nil)))
      (pss_one (ps_ret (pv 3)))))), ?_⟩
    refine ⟨Nat.zero_le _, fun D hD => ?_⟩
    have s0 : Same H (upd H D (.lst [])) := Same.new hD
    have hD0 : (upd H D (.lst [])) D = some (.lst []) := upd_same
    generalize upd H D (.lst []) = H0 at s0 hD0
    refine tSeq_cut (fun σ' H' => σ' = [some (.int kind), some (.ref cl), some (.int most), some (.ref D), none, none] ∧ H0 = H') ?_ fun key0 => key0 _ _ ⟨rfl, rfl⟩
    rintro _ _ ⟨rfl, rfl⟩
    refine tSeq_cut (fun σ' H' => σ' = [some (.int kind), some (.ref cl), some (.int most), some (.ref D), none, none] ∧ H0 = H') ?_ fun key => ?_
    rotate_left
    · refine ⟨_, rfl, _, _, rfl, rfl, (by show (0 : Int) < 2; decide), rfl, _, rfl, ?_⟩
      refine ite2 (fun _ => ?_) (fun _ => key _ _ ⟨rfl, rfl⟩)
      refine ⟨_, rfl, cl, rfl, ⟨_, s0.seq hS⟩, for_list (K := K) (a := cl) (xs := ns.map V.int) (fun j σ G => ∃ (du : List V) (xs : List (List Int)) (o4 o5 : Option V), σ = [some (.int kind), some (.ref cl), some (.int most), some (.ref D), o4, o5] ∧ Same H G ∧ G D = some (.lst du) ∧ Reps K G du (xs.map tI) ∧ CntOk xs ∧ Low xs ∧ xs.length ≤ j)
        ⟨[], [], none, none, rfl, s0, hD0, rfl, CntOk.nil, Low.nil, Nat.le_refl _⟩ (fun j σ G _ ⟨_, _, _, _, _, g, _⟩ => g.seq hS) ?_ ?_⟩
      · rintro j x σ G hx ⟨du, xs, o4, o5, rfl, g, hDG, rD, hC, hLw, hxl⟩
        have hjn : j < ns.length := by have := (List.getElem?_eq_some_iff.mp hx).1; simpa using this
        have hxv : x = .int ns[j] := by
          rw [List.getElem?_map, List.getElem?_eq_getElem hjn] at hx
          simpa using hx.symm
        subst hxv
        have dul : du.length = xs.length := by have := rD.length; simpa using this
        refine ⟨_, rfl, D, _, rfl, .inl (.of hDG), _, rfl, _, _, rfl, rfl, _, rfl, ?_⟩
        refine ite2 (fun h1 => ?_) (fun h1 => ⟨du, xs, _, _, rfl, g, hDG, rD, hC, hLw, by omega⟩)
        refine ⟨_, rfl, _, rfl, _, _, rfl, rfl, (by show (0 : Int) < 1000003; decide), _, rfl, D, _, rfl, .inl (.of hDG), _, _, rfl, rfl, mulokL (by decide) (by decide), _, _, rfl, rfl, D, xs, _, rfl, ⟨D, du, rfl, .of hDG, rD⟩, hC, by omega, fun w p G1 g1 tw => ?_⟩
        have hDG1 := g1 _ _ hDG
        have rD1 := Reps.same g1 rD
        refine ⟨_, rfl, _, rfl, D, w, xs, p, rfl, ⟨D, du, rfl, .of hDG1, rD1⟩, tw, hC, by omega, fun b G2 g2 hb => ?_⟩
        have gg := g.trans (g1.trans g2)
        have hDG2 := g2 _ _ hDG1
        have rD2 := Reps.same g2 rD1
        refine ⟨_, rfl, ?_⟩
        refine ite2 (fun h2 => ?_) (fun h2 => ⟨du, xs, _, _, rfl, gg, hDG2, rD2, hC, hLw, by omega⟩)
        refine ⟨_, rfl, .inl ⟨rfl, _, .of hDG2⟩, _, rfl, D, _, _, rfl, rfl, hDG2, small (by omega), ?_⟩
        exact ⟨_, xs ++ [p], _, _, rfl, gg.turn hD, upd_same, push_TI hDG2 rD2 (TI.same g2 tw), hC.snoc (hb h2).1, hLw.snoc (hb h2).2, by simp; omega⟩
      · rintro σ G ⟨du, xs, o4, o5, rfl, g, hDG, rD, hC, hLw, hxl⟩
        rw [List.length_map] at hxl
        exact ⟨_, rfl, k D du xs G hD g hDG rD hC hLw (by omega)⟩
    rintro _ _ ⟨rfl, rfl⟩
    refine ⟨_, rfl, _, _, rfl, rfl, ⟨by decide, by decide⟩, _, rfl, _, rfl, cl, ns, _, most, rfl, s0.seq hS, hl, hm0, by omega, fun W wu G0 zs hW g0 hW0 rW hsh hzl => ?_⟩
    have g00 := s0.trans g0
    have wul : wu.length = zs.length := by have := rW.length; simpa using this
    refine ⟨W, rfl, ⟨_, .of hW0⟩, for_list (K := K) (a := W) (xs := wu) (fun j σ G => ∃ (du : List V) (xs : List (List Int)) (o5 : Option V), σ = [some (.int kind), some (.ref cl), some (.int most), some (.ref D), none, o5] ∧ SameX D G0 G ∧ G D = some (.lst du) ∧ Reps K G du (xs.map tI) ∧ CntOk xs ∧ Low xs ∧ xs.length ≤ j)
      ⟨[], [], none, rfl, SameX.refl _ _, g0 _ _ hD0, rfl, CntOk.nil, Low.nil, Nat.le_refl _⟩ (fun j σ G _ ⟨_, _, _, _, g, _⟩ => .of (g _ _ (ne_of_none hD0 hW).symm hW0)) ?_ ?_⟩
    · rintro j x σ G hx ⟨du, xs, o5, rfl, g, hDG, rD, hC, hLw, hxl⟩
      have hj : j < wu.length := (List.getElem?_eq_some_iff.mp hx).1
      have hjz : j < zs.length := by omega
      have hjx : (zs.map tI)[j]? = some (tI zs[j]) := by rw [List.getElem?_map, List.getElem?_eq_getElem hjz]; rfl
      obtain ⟨x', hx', tx⟩ := rW.get hjx
      rw [hx] at hx'
      cases hx'
      have txG : TI K G x zs[j] := TI.t (g.t (g0 _ _ hD0)) tx
      generalize zs[j] = p at txG
      have dul : du.length = xs.length := by have := rD.length; simpa using this
      refine ⟨_, rfl, D, _, rfl, .inl (.of hDG), _, rfl, _, _, rfl, rfl, _, rfl, ?_⟩
      refine ite2 (fun h1 => ?_) (fun h1 => ?_)
      rotate_left
      · refine ifN (by simp) ?_
        exact ⟨du, xs, _, rfl, g, hDG, rD, hC, hLw, by omega⟩
      refine ⟨_, rfl, _, rfl, D, x, xs, p, rfl, ⟨D, du, rfl, .of hDG, rD⟩, txG, hC, by omega, fun b G2 g2 hb => ?_⟩
      have hDG2 := g2 _ _ hDG
      have rD2 := Reps.same g2 rD
      have gx := g.trans (SameX.of g2)
      refine ⟨_, rfl, ?_⟩
      refine ite2 (fun h2 => ?_) (fun h2 => ⟨du, xs, _, rfl, gx, hDG2, rD2, hC, hLw, by omega⟩)
      refine ⟨_, rfl, .inl ⟨rfl, _, .of hDG2⟩, _, rfl, D, _, _, rfl, rfl, hDG2, small (by omega), ?_⟩
      exact ⟨_, xs ++ [p], _, rfl, gx.upd, upd_same, push_TI hDG2 rD2 (TI.same g2 txG), hC.snoc (hb h2).1, hLw.snoc (hb h2).2, by simp; omega⟩
    · rintro σ G ⟨du, xs, o5, rfl, g, hDG, rD, hC, hLw, hxl⟩
      exact ⟨_, rfl, k D du xs G hD (g.same g00 hD) hDG rD hC hLw (by omega)⟩
abbrev s_law : Stmt := top 48
theorem sc_law : FnScope ["_law_script", "_law_kind", "_law_cell", "_law_pieces", "_law_pairs", "_law_thing", "_law_handed", "_law_marks_here", "_law_found", "_law_e", "_law_good", "_law_left", "_law_again"] ["_law_script"] (defScope s_law) := ⟨rfl, rfl, rfl, by decide +kernel, rfl, by decide +kernel, by decide +kernel⟩
theorem nd_law : (["_law_script", "_law_kind", "_law_cell", "_law_pieces", "_law_pairs", "_law_thing", "_law_handed", "_law_marks_here", "_law_found", "_law_e", "_law_good", "_law_left", "_law_again"] : List Str).Nodup := by decide +kernel

theorem ok_law {f : Addr} {fd : FuncData} (F : Fun K "law" "law" s_law f fd) (T : Txt K mg C_HoleError C_NoShape C_NoText C_NoName C_NoLevel C_NoChain C_NoTable C_NoTurn C_NoMap C_NoGlue C_NoPrime C_NoStage C_NoPair C_NoRow C_NoPiece C_NoRound) (h_L_built : Has P w K mg base "_law_built" ["_law_kind", "_law_cells", "_law_most"] 4 (sp_builtL K)) (h_L_bent_of : Has P w K mg base "_law_bent_of" ["_law_pieces", "_law_left"] 1 (sp_L_bent_of K)) (h_L_thing_by : Has P w K mg base "_law_thing_by" ["_law_pieces", "_law_pairs", "_law_cell"] 2 (sp_L_thing61 K)) (hx_away : HasX P w K mg base "away" ["shape", "thing"] 4 (sp_awayX K C_NoPair)) (h_away : Has P w K mg base "away" ["shape", "thing"] 4 (sp_awayOk K)) (h_L_cell_at : Has P w K mg base "_law_cell_at" ["_law_script", "_law_k"] 1 (sp_L_cell_at K)) (h_L_whole : Has P w K mg base "_law_whole" ["_law_found"] 1 (sp_L_whole K)) (h_L_is_left : Has P w K mg base "_law_is_left" ["_law_found", "_law_kept", "_law_pieces", "_law_left"] 2 (sp_L_is_left K)) (hn_L_marks : HasN P w K mg base "_law_marks" ["_law_e"] 1 (sp_L_marks K C_NoPair)) (h_L_only : Has P w K mg base "_law_only" ["_law_at"] 1 (sp_L_only K)) : FnOk P w K mg base CX0 5 f fd ["_law_script"] (sp_law K) := by
  refine F.ok sc_law (fun vs H Q E h => ?_) (fun cdv A outer s H vs Q E hr h => ?_)
  · obtain ⟨a, ns, rfl, hS, hl, k⟩ := h
    rfl
  · obtain ⟨a, ns, rfl, hS, hl, k⟩ := h
    have hu8 : (A.deeper (PyProof.Rows.envOfC "law" (defScope s_law) s.heap.objs.size f cdv)).units + 8 < cLine := by have := hr.units; omega
    refine ⟨_, (pss_cons (ps_set (i := 1) nd_law (by rfl) (by first | exact Or.inl rfl | exact Or.inr rfl) (pe_op op_mod (pe_callH h_L_cell_at hr (by rfl) (pa_cons (pv 0) (pa_cons pe_int pa_nil))) pe_int))
      (pss_cons (ps_set (i := 2) nd_law (by rfl) (by first | exact Or.inl rfl | exact Or.inr rfl) (pe_op op_mod (pe_op op_mulX (pe_op op_mod (pe_callH h_L_cell_at hr (by rfl) (pa_cons (pv 0) (pa_cons pe_int pa_nil))) pe_int) pe_int) pe_int))
      (pss_cons (ps_set (i := 3) nd_law (by rfl) (by first | exact Or.inl rfl | exact Or.inr rfl) (pe_callH h_L_built hr (by rfl) (pa_cons (pe_op op_fdiv (pv 1) pe_int) (pa_cons (pe_slice (ksl_list (K := K)) (pv 0) (po_some pe_int) (po_some pe_int)) (pa_cons (pe_ix (kix_tup (K := K)) (pe_tup (pa_cons pe_int (pa_cons pe_int (pa_cons pe_int (pa_cons pe_int pa_nil))))) (pe_op op_mod (pv 1) pe_int) (fun _ _ => rfl)) pa_nil)))))
      (pss_cons (ps_set (i := 4) nd_law (by rfl) (by first | exact Or.inl rfl | exact Or.inr rfl) (pe_callH h_L_bent_of hr (by rfl) (pa_cons (pv 3) (pa_cons (pe_comp (N' := ["_law_piece"]) (cap := [none]) (by rfl) (by kernel_rfl) (kpi_list (K := K) (pv 3)) (fun _ _ _ _ => (pg_name (i := 0) ndc_13 (by rfl) (by first | exact Or.inl rfl | exact Or.inr rfl))) (fun _ _ _ _ => pts_nil) (fun _ _ _ _ => pe_bl)) pa_nil))))
      (pss_cons (ps_set (i := 5) nd_law (by rfl) (by first | exact Or.inl rfl | exact Or.inr rfl) (pe_callH h_L_thing_by hr (by rfl) (pa_cons (pv 3) (pa_cons (pv 4) (pa_cons (pv 2) pa_nil)))))
      (pss_cons (ps_set (i := 6) nd_law (by rfl) (by first | exact Or.inl rfl | exact Or.inr rfl) (pe_callTy (kcall_list_of (K := K)) (by rfl) T.n_list boot_listT (pa_cons (pv 3) pa_nil)))
      (pss_cons (ps_set (i := 7) nd_law (by rfl) (by first | exact Or.inl rfl | exact Or.inr rfl) (pe_lst pa_nil))
      (pss_cons (ps_set (i := 8) nd_law (by rfl) (by first | exact Or.inl rfl | exact Or.inr rfl) pe_non)
      (pss_cons (ps_try (fun _ _ => (pss_one (ps_set (i := 8) nd_law (by rfl) (by first | exact Or.inl rfl | exact Or.inr rfl) (pe_callX flies_tried hx_away hr (by rfl) (pa_cons (pv 6) (pa_cons (pv 5) pa_nil))))))
      (ph_as (i := 9) nd_law (by rfl) (by rfl) (by rfl) T.m_HoleError T.k_HoleError (fun _ => (pss_one (ps_set (i := 7) nd_law (by rfl) (by first | exact Or.inl rfl | exact Or.inr rfl) (pe_callN hn_L_marks hr.n (by rfl) (pa_cons (pv 9) pa_nil)))))
      ph_none))
      (pss_cons (ps_if (pt_cmpR (kop_neD (K := K) hu8) (pv 6) (pv 3) (nomark _)) (pss_one (ps_ret pe_bl)) pss_nil)
      (pss_cons (ps_set (i := 10) nd_law (by rfl) (by first | exact Or.inl rfl | exact Or.inr rfl) (pe_and (pe_callB (kcall_isinst (K := K)) (by rfl) T.n_isinstance boot_isinstanceB (pa_cons (pv 5) (pa_cons (pe_bltn (v := .ty "tuple") rfl T.n_tuple boot_tupleT rfl) pa_nil))) (pe_and (pe_cmpR (kop_inD (K := K) hu8) (pv 5) (pv 4) rfl) (pe_one (pe_callH h_L_whole hr (by rfl) (pa_cons (pe_ix (kix_tup (K := K)) (pv 5) pe_int (fun _ _ => rfl)) pa_nil))))))
      (pss_cons (ps_if (pt_not (pt_val (pv 10))) (pss_one (ps_ret (pe_cmpR (kop_eqD (K := K) hu8) (pv 7) (pe_callH h_L_only hr (by rfl) (pa_cons pe_int pa_nil)) (nomark _)))) pss_nil)
      (pss_cons (ps_if (PW.pt (pw_or (pt_cmpR (kop_neD (K := K) hu8) (pv 7) (pe_lst pa_nil) (nomark _)) (pw_or (pt_not (pt_val (pe_callB (kcall_isinst (K := K)) (by rfl) T.n_isinstance boot_isinstanceB (pa_cons (pv 8) (pa_cons (pe_bltn (v := .ty "tuple") rfl T.n_tuple boot_tupleT rfl) pa_nil))))) (pw_or1 (pt_cmpR op_ne (pe_callB (kcall_len_seq (K := K)) (by rfl) T.n_len PySem.boot_len (pa_cons (pv 8) pa_nil)) pe_int (nomark _)))))) (pss_one (ps_ret pe_bl)) pss_nil)
      (pss_cons (ps_setC (N' := ["_law_place", "_law_thing"]) (cap := [none, some 5]) (i := 11) nd_law (by rfl) (by first | exact Or.inl rfl | exact Or.inr rfl) (by rfl) (by kernel_rfl) (pi_range1 (by rfl) T.n_range (pa_cons (pe_callB (kcall_len_seq (K := K)) (by rfl) T.n_len PySem.boot_len (pa_cons (pv 3) pa_nil)) pa_nil)) (fun _ _ _ _ => (pg_name (i := 0) ndc_18 (by rfl) (by first | exact Or.inl rfl | exact Or.inr rfl))) (fun _ _ _ _ => pts_nil) (fun _ _ _ _ => (pe_cmpR (kop_notInD (K := K) hu8) (pv 0) (pv 1) rfl)))
      (pss_cons (ps_if (pt_not (pt_val (pe_callH h_L_is_left hr (by rfl) (pa_cons (pe_ix (kix_tup (K := K)) (pv 8) pe_int (fun _ _ => rfl)) (pa_cons (pe_ix (kix_tup (K := K)) (pv 8) pe_int (fun _ _ => rfl)) (pa_cons (pv 3) (pa_cons (pv 11) pa_nil))))))) (pss_one (ps_ret pe_bl)) pss_nil)
      (pss_cons (ps_expr (kpe_bm (K := K) PySem.F.plainAttrs_list PySem.F.slot_list_append PySem.F.type_list_append mt_append (pe_ix (kix_tup (K := K)) (pv 8) pe_int (fun _ _ => rfl)) (pa_cons (pe_tup pa_nil) pa_nil)))
      (pss_cons (ps_expr (kpe_bm (K := K) PySem.F.plainAttrs_list PySem.F.slot_list_append PySem.F.type_list_append mt_append (pe_ix (kix_tup (K := K)) (pv 8) pe_int (fun _ _ => rfl)) (pa_cons pe_int pa_nil)))
      (pss_cons (ps_set (i := 12) nd_law (by rfl) (by first | exact Or.inl rfl | exact Or.inr rfl) (pe_callH h_away hr (by rfl) (pa_cons (pv 6) (pa_cons (pv 5) pa_nil))))
      (pss_one (ps_ret (pe_and (pe_cmpR (kop_eqD (K := K) hu8) (pv 6) (pv 3) (nomark _)) (pe_one (pe_callH h_L_is_left hr (by rfl) (pa_cons (pe_ix (kix_tup (K := K)) (pv 12) pe_int (fun _ _ => rfl)) (pa_cons (pe_ix (kix_tup (K := K)) (pv 12) pe_int (fun _ _ => rfl)) (pa_cons (pv 3) (pa_cons (pv 11) pa_nil))))))))))))))))))))))))))), ?_⟩
    have p4 : (0 : Int) < 4 := by decide
    refine tSeq_cut (fun σ' H' => ∃ kind : Int, σ' = [some (.ref a), some (.int kind), none, none, none, none, none, none, none, none, none, none, none] ∧ H = H') ?_ fun key => ?_
    rotate_left
    · exact ⟨_, rfl, a, ns, 0, rfl, hS, by decide, hl, _, _, rfl, rfl, (by show (0 : Int) < 1000003; decide), key _ _ ⟨_, rfl, rfl⟩⟩
    rintro _ _ ⟨kind, rfl, rfl⟩
    refine tSeq_cut (fun σ' H' => ∃ cell : Int, σ' = [some (.ref a), some (.int kind), some (.int cell), none, none, none, none, none, none, none, none, none, none] ∧ H = H') ?_ fun key => ?_
    rotate_left
    · have c0 := Int.emod_nonneg (cellAt ns 1) (show (1000003 : Int) ≠ 0 by decide)
      have c1 := Int.emod_lt_of_pos (cellAt ns 1) (show (0 : Int) < 1000003 by decide)
      exact ⟨_, rfl, a, ns, 1, rfl, hS, by decide, hl, _, _, rfl, rfl, (by show (0 : Int) < 1000003; decide), _, _, rfl, rfl, mulokR (by decide) (by decide), _, _, rfl, rfl, (by show (0 : Int) < 100000007; decide), key _ _ ⟨_, rfl, rfl⟩⟩
    rintro _ _ ⟨cell, rfl, rfl⟩
    have k0 := Int.emod_nonneg kind (show (4 : Int) ≠ 0 by decide)
    have k1 := Int.emod_lt_of_pos kind p4
    refine tSeq_cut (fun σ' H' => ∃ (p : Addr) (us : List V) (xs : List (List Int)), σ' = [some (.ref a), some (.int kind), some (.int cell), some (.ref p), none, none, none, none, none, none, none, none, none] ∧ Same H H' ∧ H' p = some (.lst us) ∧ Reps K H' us (xs.map tI) ∧ CntOk xs ∧ Low xs ∧ xs.length ≤ 63) ?_ fun key => ?_
    rotate_left
    · refine ⟨_, rfl, _, _, rfl, rfl, ⟨by decide, by decide⟩, _, rfl, _, rfl, _, rfl, a, _, rfl, hS, fun C hC => ?_⟩
      rw [cutV_map]
      have s1 := Same.new (o := .lst ((cutS ns (some 2) (some 62)).map V.int)) hC
      have hC1 : (upd H C (.lst ((cutS ns (some 2) (some 62)).map V.int))) C = some (.lst ((cutS ns (some 2) (some 62)).map V.int)) := upd_same
      have cl1 := cutS_len ns (some 2) (some 62)
      generalize cutS ns (some 2) (some 62) = ms at s1 hC1 cl1
      generalize upd H C (.lst (ms.map V.int)) = H1 at s1 hC1
      refine ⟨smallE (by simp), fun T1 hT1 => ?_⟩
      obtain ⟨x, hx, x0, x1⟩ : ∃ x : Int, atI [V.int 8, V.int 16, V.int 24, V.int 40] (kind % 4) = some (.int x) ∧ 0 ≤ x ∧ x ≤ 40 := by
        rcases (show kind % 4 = 0 ∨ kind % 4 = 1 ∨ kind % 4 = 2 ∨ kind % 4 = 3 by omega) with e | e | e | e <;> rw [e] <;> exact ⟨_, rfl, by decide, by decide⟩
      have s2 : Same H1 (upd H1 T1 (.tup [.int 8, .int 16, .int 24, .int 40])) := Same.new hT1
      refine ⟨_, rfl, _, _, rfl, rfl, p4, T1, _, _, _, rfl, rfl, .of upd_same, hx, C, ms, _, x, rfl, .of (s2 _ _ hC1), by omega, x0, x1, fun p us xs H' hp s' hp' r' hC hLow hxl => ?_⟩
      exact key _ _ ⟨p, us, xs, rfl, (s1.trans s2).trans s', hp', r', hC, hLow, hxl⟩
    rintro _ H1 ⟨p, us, xs, rfl, s1, hp, r1, hC, hLow, hxl⟩
    have h4 := hC.le4
    have hrg := hLow.rng
    have hul : us.length = xs.length := by have := r1.length; rw [List.length_map] at this; exact this
    have LP : ∀ G, Same H1 G → LT K G (.ref p) xs := fun G g => ⟨p, us, rfl, .of (g _ _ hp), Reps.same g r1⟩
    have dx : dep (.lst (xs.map tI)) ≤ 8 := by
      have := deps_tIs xs
      show deps (xs.map tI) + 1 ≤ 8
      omega
    refine tSeq_cut (fun σ' H' => ∃ (F : Addr) (fu : List V), σ' = [some (.ref a), some (.int kind), some (.int cell), some (.ref p), some (.ref F), none, none, none, none, none, none, none, none] ∧ Same H1 H' ∧ H' F = some (.lst fu) ∧ Reps K H' fu ((bentP xs).map tI)) ?_ fun key => ?_
    rotate_left
    · refine ⟨_, rfl, _, rfl, p, rfl, ⟨_, .of hp⟩, fun D hD => ?_⟩
      refine comp_list0 (K := K) (a := p) (xs := us) (fun i ws τ G => Same H1 G ∧ G D = some (.lst ws) ∧ i ≤ us.length ∧ ws = (upN i).map (fun _ => V.bl true) ∧ ∃ o, τ = [o])
        ⟨Same.new hD, upd_same, Nat.zero_le _, rfl, none, rfl⟩ (fun i ws τ G _ ⟨g, _⟩ => .of (g _ _ hp)) ?_ ?_
      · rintro i x ws τ G hx ⟨g, hDG, hil, hws, o, rfl⟩
        have hi : i < us.length := (List.getElem?_eq_some_iff.mp hx).1
        refine ⟨hDG, small (by rw [hws, List.length_map, upN_len]; omega), g.turn hD, upd_same, by omega, ?_, _, rfl⟩
        rw [hws, upN_succ, List.map_append]
        rfl
      · rintro ws τ G ⟨g, hDG, _, hws, _⟩
        rw [hul] at hws
        refine ⟨p, D, xs, fun _ => true, rfl, LP _ g, .of (by rw [hDG, hws]; rfl), by omega, h4, hrg, fun F fu H' nF s' hF rF => ?_⟩
        rw [bentP_R hrg] at rF
        exact key _ _ ⟨F, fu, rfl, g.trans s', hF, rF⟩
    rintro _ H2 ⟨F, fu, rfl, s2, hF, rF⟩
    have ps2 : ∀ q ∈ bentP xs, q.length = 2 := fun q hq => by
      obtain ⟨i, j, rfl, _⟩ := bentP_rng hq
      rfl
    have psl : (bentP xs).length ≤ 63 := Nat.le_trans (bentN_len xs xs.length) hxl
    refine tSeq_cut (fun σ' H' => ∃ (v : V) (d : L2.D), σ' = [some (.ref a), some (.int kind), some (.int cell), some (.ref p), some (.ref F), some v, none, none, none, none, none, none, none] ∧ Same H2 H' ∧ Rep K H' v d ∧ Odd d) ?_ fun key => ?_
    rotate_left
    · exact ⟨_, rfl, _, rfl, _, rfl, p, F, xs, bentP xs, cell, rfl, LP _ s2, ⟨F, fu, rfl, .of hF, rF⟩, ps2, by omega, by omega, fun v d H' s' hv hodd => key _ _ ⟨v, d, rfl, s', hv, hodd⟩⟩
    rintro _ H3 ⟨v, d, rfl, s3, hv, hodd⟩
    refine tSeq_cut (fun σ' H' => ∃ h : Addr, σ' = [some (.ref a), some (.int kind), some (.int cell), some (.ref p), some (.ref F), some v, some (.ref h), none, none, none, none, none, none] ∧ Same H3 H' ∧ H' h = some (.lst us)) ?_ fun key => ?_
    rotate_left
    · exact ⟨_, rfl, p, us, rfl, .inl (.of ((s2.trans s3) _ _ hp)), fun h hh => key _ _ ⟨h, rfl, Same.new hh, upd_same⟩⟩
    rintro _ H4 ⟨h, rfl, s4, hh⟩
    refine tSeq_cut (fun σ' H' => ∃ m0 : Addr, σ' = [some (.ref a), some (.int kind), some (.int cell), some (.ref p), some (.ref F), some v, some (.ref h), some (.ref m0), none, none, none, none, none] ∧ Same H4 H' ∧ H' m0 = some (.lst [])) ?_ fun key => ?_
    rotate_left
    · exact ⟨Nat.zero_le _, fun m0 hm0 => key _ _ ⟨m0, rfl, Same.new hm0, upd_same⟩⟩
    rintro _ H5 ⟨m0, rfl, s5, hm0⟩
    have s35 := s4.trans s5
    have s25 := s3.trans s35
    have s15 := s2.trans s25
    have hh5 := s5 _ _ hh
    have r5 := Reps.same s15 r1
    have LH : ∀ G, Same H5 G → LT K G (.ref h) xs := fun G g => ⟨h, us, rfl, .of (g _ _ hh5), Reps.same g r5⟩
    have hv5 := Rep.same s35 hv
    clear s4 s5 hh
    refine tSeq_cut (fun σ' H' => σ' = [some (.ref a), some (.int kind), some (.int cell), some (.ref p), some (.ref F), some v, some (.ref h), some (.ref m0), some .non, none, none, none, none] ∧ H5 = H') ?_ fun key0 => key0 _ _ ⟨rfl, rfl⟩
    rintro _ _ ⟨rfl, rfl⟩
    refine tSeq_cut (fun σ' H' => Same H5 H' ∧ ((bentB xs d = false ∧ ∃ M : Addr, σ' = [some (.ref a), some (.int kind), some (.int cell), some (.ref p), some (.ref F), some v, some (.ref h), some (.ref M), some .non, none, none, none, none] ∧ H' M = some (.lst ((markB 12).map V.bl))) ∨
      ∃ (i j : Int) (R L P : Addr) (lu : List V), d = tI [i, j] ∧ bentB xs d = true ∧ σ' = [some (.ref a), some (.int kind), some (.int cell), some (.ref p), some (.ref F), some v, some (.ref h), some (.ref m0), some (.ref R), none, none, none, none] ∧ H5 L = none ∧ H5 P = none ∧ H' R = some (.tup [.ref L, .ref P]) ∧ H' L = some (.lst lu) ∧ Reps K H' lu ((sub xs (restN xs.length [i, j])).map tI) ∧ H' P = some (.lst ((restN xs.length [i, j]).map V.int)))) ?_ fun key => ?_
    rotate_left
    · refine ⟨_, rfl, _, rfl, h, v, xs, d, rfl, LH _ (Same.refl H5), by omega, h4, hrg, hv5, hodd.sz, fun hb H' s' => ?_, fun i j ed hb R L P lu H' s' nL nP hR hL rL hP => ?_⟩
      · refine ⟨C_NoPair, true, rfl, T.s_NoPair_HoleError, ?_⟩
        refine ifP rfl fun e he => ?_
        have g2 : Same H' (upd H' e (excO e (.ref C_NoPair))) := Same.new he
        exact ⟨_, rfl, e, rfl, upd_same, fun M H6 s6 hM => key _ _ ⟨(s'.trans g2).trans s6, .inl ⟨hb, M, rfl, hM⟩⟩⟩
      · exact key _ _ ⟨s', .inr ⟨i, j, R, L, P, lu, ed, hb, rfl, nL, nP, hR, hL, rL, hP⟩⟩
    rintro σ6 H6 ⟨s6, alt⟩
    obtain ⟨mv, fv, hσ, alt2⟩ : ∃ (mv fv : V), σ6 = [some (.ref a), some (.int kind), some (.int cell), some (.ref p), some (.ref F), some v, some (.ref h), some mv, some fv, none, none, none, none] ∧ ((bentB xs d = false ∧ ∃ M : Addr, mv = .ref M ∧ H6 M = some (.lst ((markB 12).map V.bl))) ∨ ∃ (i j : Int) (R L P : Addr) (lu : List V), d = tI [i, j] ∧ bentB xs d = true ∧ mv = .ref m0 ∧ fv = .ref R ∧ H5 L = none ∧ H5 P = none ∧ H6 R = some (.tup [.ref L, .ref P]) ∧ H6 L = some (.lst lu) ∧ Reps K H6 lu ((sub xs (restN xs.length [i, j])).map tI) ∧ H6 P = some (.lst ((restN xs.length [i, j]).map V.int))) := by
      rcases alt with ⟨hb, M, e, hM⟩ | ⟨i, j, R, L, P, lu, ed, hb, e, q⟩
      · exact ⟨.ref M, .non, e, .inl ⟨hb, M, rfl, hM⟩⟩
      · exact ⟨.ref m0, .ref R, e, .inr ⟨i, j, R, L, P, lu, ed, hb, rfl, rfl, q⟩⟩
    clear alt
    subst hσ
    refine tSeq_cut (fun σ' H' => σ' = [some (.ref a), some (.int kind), some (.int cell), some (.ref p), some (.ref F), some v, some (.ref h), some mv, some fv, none, none, none, none] ∧ H6 = H') ?_ fun key => ?_
    rotate_left
    · refine ⟨_, rfl, _, rfl, .lst (xs.map tI), .lst (xs.map tI), LH _ s6, LP _ (s15.trans s6), dx, _, rfl, ?_⟩
      rw [eqD_refl]
      refine ifN (by simp) ?_
      exact key _ _ ⟨rfl, rfl⟩
    rintro _ _ ⟨rfl, rfl⟩
    have hv6 := Rep.same s6 hv5
    have hF6 := (s25.trans s6) _ _ hF
    have rF6 := Reps.same (s25.trans s6) rF
    refine tSeq_cut (fun σ' H' => σ' = [some (.ref a), some (.int kind), some (.int cell), some (.ref p), some (.ref F), some v, some (.ref h), some mv, some fv, none, some (.bl (bentB xs d)), none, none] ∧ H6 = H') ?_ fun key => ?_
    rotate_left
    · refine ⟨_, rfl, _, _, d, rfl, .inr (.inr (.inr (.inl rfl))), hv6, _, rfl, ?_⟩
      cases d with
      | tup ds =>
        obtain ⟨ap, vs, rfl, sqp, rds⟩ := id hv6
        refine ifP (by simp [isD]) ?_
        refine ⟨_, rfl, _, rfl, .tup ds, (bentP xs).map tI, hv6, .inl ⟨F, fu, rfl, .of hF6, rF6⟩, (by have := deps_tIs (bentP xs); omega), ?_⟩
        rw [if_neg (by simp)]
        cases hall : ds.all wholeD with
        | true =>
          have ed : L2.D.tup ds = tI (ds.map toI) := by show L2.D.tup ds = .tup (nums (ds.map toI)); rw [← wholes_nums hall]
          rw [ed, in_bent]
          have eb : bentB xs (.tup ds) = decide (ds.map toI ∈ bentP xs) := by rw [ed, bentB_tI]
          rw [eb] at key
          by_cases hp : ds.map toI ∈ bentP xs
          · rw [decide_eq_true hp] at key ⊢
            refine ⟨_, rfl, ?_⟩
            refine ifP rfl ?_
            obtain ⟨i, j, e, _⟩ := bentP_rng hp
            have hds := wholes_nums hall
            rw [e] at hds
            subst hds
            have hvs : vs = [.int i, .int j] := reps_nums.mp rds
            subst hvs
            exact ⟨_, rfl, ap, _, _, .int i, rfl, rfl, sqp, rfl, _, .int i, rfl, rfl, key _ _ ⟨rfl, rfl⟩⟩
          · rw [decide_eq_false hp] at key ⊢
            refine ⟨_, rfl, ?_⟩
            refine ifN (by simp) ?_
            exact key _ _ ⟨rfl, rfl⟩
        | false =>
          have eb : bentB xs (.tup ds) = false := by show (ds.all wholeD && _) = false; rw [hall, Bool.false_and]
          rw [eb] at key
          obtain ⟨_, hrest⟩ := hodd.tp ds rfl
          cases ds with
          | nil => cases hall
          | cons x r =>
            obtain ⟨y, rv, rfl, hy, _⟩ := id rds
            have hx : wholeD x = false := by
              have hr2 : r.all wholeD = true := List.all_eq_true.mpr hrest
              rw [List.all_cons, hr2, Bool.and_true] at hall
              exact hall
            generalize ((bentP xs).map tI).any (fun e => eqD e (.tup (x :: r))) = bb
            cases bb with
            | false =>
              refine ⟨_, rfl, ?_⟩
              refine ifN (by simp) ?_
              exact key _ _ ⟨rfl, rfl⟩
            | true =>
              refine ⟨_, rfl, ?_⟩
              refine ifP rfl ?_
              refine ⟨_, rfl, ap, _, _, y, rfl, rfl, sqp, atI_nat (j := 0) rfl, _, x, rfl, hy, ?_⟩
              rw [hx]
              exact key _ _ ⟨rfl, rfl⟩
      | non => exact ifN (by simp [isD]) (key _ _ ⟨rfl, rfl⟩)
      | bl b => exact ifN (by simp [isD]) (key _ _ ⟨rfl, rfl⟩)
      | int b => exact ifN (by simp [isD]) (key _ _ ⟨rfl, rfl⟩)
      | str b => exact ifN (by simp [isD]) (key _ _ ⟨rfl, rfl⟩)
      | lst b => exact ifN (by simp [isD]) (key _ _ ⟨rfl, rfl⟩)
    rintro _ _ ⟨rfl, rfl⟩
    rcases alt2 with ⟨hb, M, rfl, hM⟩ | ⟨i, j, R, L, P, lu, rfl, hb, rfl, rfl, nL, nP, hR, hL, rL, hP⟩
    · refine ⟨_, rfl, _, rfl, ?_⟩
      rw [hb]
      refine ifP rfl ?_
      refine ⟨_, rfl, 12, rfl, fun N H7 s7 hN => ?_⟩
      rw [show onlyB 12 = markB 12 from only_mark 12] at hN
      refine ⟨.lst ((markB 12).map L2.D.bl), .lst ((markB 12).map L2.D.bl), rep_bls (s7 _ _ hM), rep_bls hN, by show deps _ + 1 ≤ 8; rw [deps_bls]; decide, ?_⟩
      rw [eqD_refl]
      exact k _
    rw [hb]
    have hbent : [i, j] ∈ bentP xs := by rw [bentB_tI] at hb; exact of_decide_eq_true hb
    have hcl := clo_bent hrg hbent
    refine tSeq_cut (fun σ' H' => σ' = [some (.ref a), some (.int kind), some (.int cell), some (.ref p), some (.ref F), some v, some (.ref h), some (.ref m0), some (.ref R), none, some (.bl true), none, none] ∧ H6 = H') ?_ fun key => ?_
    rotate_left
    · refine ⟨_, rfl, _, rfl, ?_⟩
      refine ifN (by simp) ?_
      exact key _ _ ⟨rfl, rfl⟩
    rintro _ _ ⟨rfl, rfl⟩
    refine tSeq_cut (fun σ' H' => σ' = [some (.ref a), some (.int kind), some (.int cell), some (.ref p), some (.ref F), some v, some (.ref h), some (.ref m0), some (.ref R), none, some (.bl true), none, none] ∧ Same H6 H') ?_ fun key => ?_
    rotate_left
    · refine ⟨_, rfl, Nat.zero_le _, fun E0 hE0 => ?_⟩
      have sG1 : Same H6 (upd H6 E0 (.lst [])) := Same.new hE0
      have eG1 : upd H6 E0 (.lst []) E0 = some (.lst []) := upd_same
      generalize upd H6 E0 (.lst []) = G1 at sG1 eG1
      refine ⟨.lst [], .lst [], ⟨m0, [], rfl, .of ((s6.trans sG1) _ _ hm0), rfl⟩, ⟨E0, [], rfl, .of eG1, rfl⟩, by decide, _, rfl, ?_⟩
      rw [eqD_refl]
      refine ifN (by simp) ?_
      refine ⟨_, rfl, _, _, .tup [.lst ((sub xs (restN xs.length [i, j])).map tI), .lst (nums (restN xs.length [i, j]))], rfl, .inr (.inr (.inr (.inl rfl))), two_of (sG1 _ _ hR) (sG1 _ _ hL) (Reps.same sG1 rL) (sG1 _ _ hP), _, rfl, ?_⟩
      refine ifN (by simp [isD]) ?_
      refine ⟨_, rfl, R, _, rfl, .inr (.of (sG1 _ _ hR)), rfl, _, rfl, ?_⟩
      refine ifN (by simp) ?_
      exact key _ _ ⟨rfl, sG1⟩
    rintro _ H7 ⟨rfl, s7⟩
    have s57 := s6.trans s7
    obtain ⟨fl, hfl⟩ : ∃ fl : Int → Bool, fl = without (fun _ => true) [i, j] := ⟨_, rfl⟩
    have hkf : keptF xs.length fl = restN xs.length [i, j] := by rw [hfl]; exact kept_rest _ _
    refine tSeq_cut (fun σ' H' => ∃ W : Addr, σ' = [some (.ref a), some (.int kind), some (.int cell), some (.ref p), some (.ref F), some v, some (.ref h), some (.ref m0), some (.ref R), none, some (.bl true), some (.ref W), none] ∧ Same H7 H' ∧ H7 W = none ∧ H' W = some (.lst (flV xs.length fl))) ?_ fun key => ?_
    rotate_left
    · refine ⟨_, rfl, p, us, rfl, .inl (.of ((s15.trans s57) _ _ hp)), _, rfl, by omega, by omega, fun D hD => ?_⟩
      rw [hul]
      refine comp_range0 (n := xs.length) (fun m ws τ G => Same H7 G ∧ G D = some (.lst ws) ∧ ws = flV m fl ∧ m ≤ xs.length ∧ ∃ o, τ = [o, some v])
        ⟨Same.new hD, upd_same, rfl, Nat.zero_le _, none, rfl⟩ ?_ ?_
      · rintro m ws τ G hm ⟨g, hDG, hws, hml, o, rfl⟩
        rw [show (0 : Int) + (m : Int) = (m : Int) by omega]
        have sv : TI K G v [i, j] := Rep.same (s57.trans g) hv5
        refine ⟨_, rfl, _, rfl, .int (m : Int), nums [i, j], rfl, .inr sv, (by rw [deps_nums]; decide), ?_⟩
        have et : (if true = true then !((nums [i, j]).any fun e => eqD e (.int (m : Int))) else (nums [i, j]).any fun e => eqD e (.int (m : Int))) = fl (m : Int) := by
          rw [if_pos rfl, hfl]
          simp only [nums, List.map_cons, List.map_nil, List.any_cons, List.any_nil, eqD, Bool.or_false, without]
          rw [Bool.eq_iff_iff]
          simp
          omega
        rw [et]
        refine ⟨hDG, small (by rw [hws]; unfold flV; rw [List.length_map, upN_len]; omega), g.turn hD, upd_same, ?_, by omega, _, rfl⟩
        rw [hws]
        unfold flV
        rw [upN_succ, List.map_append]
        rfl
      · rintro ws τ G ⟨g, hDG, rfl, _, _⟩
        exact key _ _ ⟨D, rfl, g, hD, hDG⟩
    rintro _ H8 ⟨W, rfl, s8, nW, hW⟩
    have s58 := s57.trans s8
    have s68 := s7.trans s8
    refine tSeq_cut (fun σ' H' => σ' = [some (.ref a), some (.int kind), some (.int cell), some (.ref p), some (.ref F), some v, some (.ref h), some (.ref m0), some (.ref R), none, some (.bl true), some (.ref W), none] ∧ Same H8 H') ?_ fun key => ?_
    rotate_left
    · have hR8 := s68 _ _ hR
      refine ⟨_, rfl, R, _, _, .ref L, rfl, rfl, .of hR8, rfl, _, rfl, R, _, _, .ref P, rfl, rfl, .of hR8, rfl, _, rfl, _, rfl, L, P, p, W, lu, xs, fl, rfl, s68 _ _ hL, by rw [hkf]; exact Reps.same s68 rL, by rw [hkf]; exact s68 _ _ hP, LP _ (s15.trans s58), .of hW, by omega, h4, hLow, by rw [hkf]; exact hcl, fun H' s' => ?_⟩
      refine ⟨_, rfl, ?_⟩
      refine ifN (by simp) ?_
      exact key _ _ ⟨rfl, s'⟩
    rintro _ H9 ⟨rfl, s9⟩
    have s69 := s68.trans s9
    have s59 := s58.trans s9
    have hR9 := s69 _ _ hR
    have hL9 := s69 _ _ hL
    have hP9 := s69 _ _ hP
    have hW9 := s9 _ _ hW
    have hlul : lu.length ≤ 63 := by
      have h1 := rL.length
      rw [List.length_map, sub_len] at h1
      have h2 := kept_len xs.length fl
      rw [hkf] at h2
      omega
    have hrl : (restN xs.length [i, j]).length ≤ 63 := by
      have h2 := kept_len xs.length fl
      rw [hkf] at h2
      omega
    have nWL : W ≠ L := fun z => by rw [z, s7 _ _ hL] at nW; cases nW
    have nWP : W ≠ P := fun z => by rw [z, s7 _ _ hP] at nW; cases nW
    have nRL : R ≠ L := fun z => by rw [z, hL9] at hR9; cases hR9
    have nRP : R ≠ P := fun z => by rw [z, hP9] at hR9; cases hR9
    refine tSeq_cut (fun σ' H' => ∃ pu : List V, σ' = [some (.ref a), some (.int kind), some (.int cell), some (.ref p), some (.ref F), some v, some (.ref h), some (.ref m0), some (.ref R), none, some (.bl true), some (.ref W), none] ∧ Same H5 H' ∧ H' R = some (.tup [.ref L, .ref P]) ∧ H' P = some (.lst pu) ∧ pu.length ≤ 64 ∧ H' W = some (.lst (flV xs.length fl))) ?_ fun key => ?_
    rotate_left
    · refine ⟨_, rfl, R, _, _, .ref L, rfl, rfl, .of hR9, rfl, .inl ⟨rfl, _, .of hL9⟩, Nat.zero_le _, fun T1 hT1 => ?_⟩
      have sG1 : Same H9 (upd H9 T1 (.tup [])) := Same.new hT1
      have eG1 : upd H9 T1 (.tup []) T1 = some (.tup []) := upd_same
      generalize upd H9 T1 (.tup []) = G1 at sG1 eG1
      refine ⟨L, _, _, rfl, rfl, sG1 _ _ hL9, small (by omega), ?_⟩
      have hp2 : ∃ pu : List V, (upd G1 L (.lst (lu ++ [.ref T1]))) P = some (.lst pu) ∧ pu.length ≤ 64 := by
        by_cases z : P = L
        · subst z
          exact ⟨_, upd_same, by rw [List.length_append]; simp; omega⟩
        · exact ⟨_, by rw [upd_ne z]; exact sG1 _ _ hP9, by rw [List.length_map]; omega⟩
      obtain ⟨pu, e1, e2⟩ := hp2
      exact key _ _ ⟨pu, rfl, (s59.trans sG1).turn nL, by rw [upd_ne nRL]; exact sG1 _ _ hR9, e1, e2, by rw [upd_ne nWL]; exact sG1 _ _ hW9⟩
    rintro _ H10 ⟨pu, rfl, s10, hR10, hP10, hpl, hW10⟩
    refine tSeq_cut (fun σ' H' => σ' = [some (.ref a), some (.int kind), some (.int cell), some (.ref p), some (.ref F), some v, some (.ref h), some (.ref m0), some (.ref R), none, some (.bl true), some (.ref W), none] ∧ Same H5 H' ∧ H' W = some (.lst (flV xs.length fl))) ?_ fun key => ?_
    rotate_left
    · refine ⟨_, rfl, R, _, _, .ref P, rfl, rfl, .of hR10, rfl, .inl ⟨rfl, _, .of hP10⟩, P, _, _, rfl, rfl, hP10, small (by omega), ?_⟩
      exact key _ _ ⟨rfl, s10.turn nP, by rw [upd_ne nWP]; exact hW10⟩
    rintro _ H11 ⟨rfl, s11, hW11⟩
    refine tSeq_cut (fun σ' H' => ∃ (R2 L2 P2 : Addr) (lu2 : List V), σ' = [some (.ref a), some (.int kind), some (.int cell), some (.ref p), some (.ref F), some v, some (.ref h), some (.ref m0), some (.ref R), none, some (.bl true), some (.ref W), some (.ref R2)] ∧ Same H11 H' ∧ H' R2 = some (.tup [.ref L2, .ref P2]) ∧ H' L2 = some (.lst lu2) ∧ Reps K H' lu2 ((sub xs (restN xs.length [i, j])).map tI) ∧ H' P2 = some (.lst ((restN xs.length [i, j]).map V.int))) ?_ fun key => ?_
    rotate_left
    · exact ⟨_, rfl, _, rfl, h, v, xs, i, j, rfl, LH _ s11, by omega, h4, hrg, Rep.same s11 hv5, hbent, fun R2 L2 P2 lu2 H' s' _ _ hR2 hL2 rL2 hP2 => key _ _ ⟨R2, L2, P2, lu2, rfl, s', hR2, hL2, rL2, hP2⟩⟩
    rintro _ H12 ⟨R2, L2, P2, lu2, rfl, s12, hR2, hL2, rL2, hP2⟩
    have s5c := s11.trans s12
    refine ⟨_, rfl, _, rfl, .lst (xs.map tI), .lst (xs.map tI), LH _ s5c, LP _ (s15.trans s5c), dx, ?_⟩
    rw [eqD_refl]
    refine ⟨_, rfl, ?_⟩
    refine ifP rfl ?_
    exact ⟨_, rfl, R2, _, _, .ref L2, rfl, rfl, .of hR2, rfl, _, rfl, R2, _, _, .ref P2, rfl, rfl, .of hR2, rfl, _, rfl, _, rfl, L2, P2, p, W, lu2, xs, fl, rfl, hL2, by rw [hkf]; exact rL2, by rw [hkf]; exact hP2, LP _ (s15.trans s5c), .of (s12 _ _ hW11), by omega, h4, hLow, by rw [hkf]; exact hcl, fun H' s' => k _⟩
end
end Hb
namespace Hb
open PySem L2
theorem elim1 {α : Type} {P : List α → Prop} (h : ∀ a0, P [a0]) (us : List α) (hl : us.length = 1) : P us := by
  cases us with
  | nil => exact nomatch hl
  | cons a0 u0 =>
    cases u0 with
    | nil => exact h a0
    | cons _ _ => simp at hl
theorem elim2 {α : Type} {P : List α → Prop} (h : ∀ a0 a1, P [a0, a1]) (us : List α) (hl : us.length = 2) : P us := by
  cases us with
  | nil => exact nomatch hl
  | cons a0 u0 =>
    cases u0 with
    | nil => exact nomatch hl
    | cons a1 u1 =>
      cases u1 with
      | nil => exact h a0 a1
      | cons _ _ => simp at hl
theorem elim3 {α : Type} {P : List α → Prop} (h : ∀ a0 a1 a2, P [a0, a1, a2]) (us : List α) (hl : us.length = 3) : P us := by
  cases us with
  | nil => exact nomatch hl
  | cons a0 u0 =>
    cases u0 with
    | nil => exact nomatch hl
    | cons a1 u1 =>
      cases u1 with
      | nil => exact nomatch hl
      | cons a2 u2 =>
        cases u2 with
        | nil => exact h a0 a1 a2
        | cons _ _ => simp at hl
theorem elim4 {α : Type} {P : List α → Prop} (h : ∀ a0 a1 a2 a3, P [a0, a1, a2, a3]) (us : List α) (hl : us.length = 4) : P us := by
  cases us with
  | nil => exact nomatch hl
  | cons a0 u0 =>
    cases u0 with
    | nil => exact nomatch hl
    | cons a1 u1 =>
      cases u1 with
      | nil => exact nomatch hl
      | cons a2 u2 =>
        cases u2 with
        | nil => exact nomatch hl
        | cons a3 u3 =>
          cases u3 with
          | nil => exact h a0 a1 a2 a3
          | cons _ _ => simp at hl
set_option maxHeartbeats 4000000 in
theorem all_mk {l : PySem.W.OpenLaw} {w : World} {K : PySem.W.Frag} {h : Heap} {mg : Str → Option Value} {fa : Addr} {C_HoleError : Addr}
    {C_NoShape : Addr}
    {C_NoText : Addr}
    {C_NoName : Addr}
    {C_NoLevel : Addr}
    {C_NoChain : Addr}
    {C_NoTable : Addr}
    {C_NoTurn : Addr}
    {C_NoMap : Addr}
    {C_NoGlue : Addr}
    {C_NoPrime : Addr}
    {C_NoStage : Addr}
    {C_NoPair : Addr}
    {C_NoRow : Addr}
    {C_NoPiece : Addr}
    {C_NoRound : Addr}
    {f_is_whole : Addr} {od_is_whole an_is_whole : Option Addr} {sl_is_whole : Array (Option Value)} {oc_is_whole kV_is_whole dc_is_whole pm_is_whole cd_is_whole ct_is_whole : Value}
    {f_called_by : Addr} {od_called_by an_called_by : Option Addr} {sl_called_by : Array (Option Value)} {oc_called_by kV_called_by dc_called_by pm_called_by cd_called_by ct_called_by : Value}
    {f_spots_of : Addr} {od_spots_of an_spots_of : Option Addr} {sl_spots_of : Array (Option Value)} {oc_spots_of kV_spots_of dc_spots_of pm_spots_of cd_spots_of ct_spots_of : Value}
    {f_holders_of : Addr} {od_holders_of an_holders_of : Option Addr} {sl_holders_of : Array (Option Value)} {oc_holders_of kV_holders_of dc_holders_of pm_holders_of cd_holders_of ct_holders_of : Value}
    {f_L_whole : Addr} {od_L_whole an_L_whole : Option Addr} {sl_L_whole : Array (Option Value)} {oc_L_whole kV_L_whole dc_L_whole pm_L_whole cd_L_whole ct_L_whole : Value}
    {f_L_cell_at : Addr} {od_L_cell_at an_L_cell_at : Option Addr} {sl_L_cell_at : Array (Option Value)} {oc_L_cell_at kV_L_cell_at dc_L_cell_at pm_L_cell_at cd_L_cell_at ct_L_cell_at : Value}
    {f_L_level : Addr} {od_L_level an_L_level : Option Addr} {sl_L_level : Array (Option Value)} {oc_L_level kV_L_level dc_L_level pm_L_level cd_L_level ct_L_level : Value}
    {f_L_meets : Addr} {od_L_meets an_L_meets : Option Addr} {sl_L_meets : Array (Option Value)} {oc_L_meets kV_L_meets dc_L_meets pm_L_meets cd_L_meets ct_L_meets : Value}
    {f_L_pick : Addr} {od_L_pick an_L_pick : Option Addr} {sl_L_pick : Array (Option Value)} {oc_L_pick kV_L_pick dc_L_pick pm_L_pick cd_L_pick ct_L_pick : Value}
    {f_L_faces_by : Addr} {od_L_faces_by an_L_faces_by : Option Addr} {sl_L_faces_by : Array (Option Value)} {oc_L_faces_by kV_L_faces_by dc_L_faces_by pm_L_faces_by cd_L_faces_by ct_L_faces_by : Value}
    {f_L_word_by : Addr} {od_L_word_by an_L_word_by : Option Addr} {sl_L_word_by : Array (Option Value)} {oc_L_word_by kV_L_word_by dc_L_word_by pm_L_word_by cd_L_word_by ct_L_word_by : Value}
    {f_L_marks : Addr} {od_L_marks an_L_marks : Option Addr} {sl_L_marks : Array (Option Value)} {oc_L_marks kV_L_marks dc_L_marks pm_L_marks cd_L_marks ct_L_marks : Value}
    {f_L_only : Addr} {od_L_only an_L_only : Option Addr} {sl_L_only : Array (Option Value)} {oc_L_only kV_L_only dc_L_only pm_L_only cd_L_only ct_L_only : Value}
    {f_L_bent_of : Addr} {od_L_bent_of an_L_bent_of : Option Addr} {sl_L_bent_of : Array (Option Value)} {oc_L_bent_of kV_L_bent_of dc_L_bent_of pm_L_bent_of cd_L_bent_of ct_L_bent_of : Value}
    {f_left_with : Addr} {od_left_with an_left_with : Option Addr} {sl_left_with : Array (Option Value)} {oc_left_with kV_left_with dc_left_with pm_left_with cd_left_with ct_left_with : Value}
    {f_bent : Addr} {od_bent an_bent : Option Addr} {sl_bent : Array (Option Value)} {oc_bent kV_bent dc_bent pm_bent cd_bent ct_bent : Value}
    {f_L_fits : Addr} {od_L_fits an_L_fits : Option Addr} {sl_L_fits : Array (Option Value)} {oc_L_fits kV_L_fits dc_L_fits pm_L_fits cd_L_fits ct_L_fits : Value}
    {f_L_side : Addr} {od_L_side an_L_side : Option Addr} {sl_L_side : Array (Option Value)} {oc_L_side kV_L_side dc_L_side pm_L_side cd_L_side ct_L_side : Value}
    {f_L_words_with : Addr} {od_L_words_with an_L_words_with : Option Addr} {sl_L_words_with : Array (Option Value)} {oc_L_words_with kV_L_words_with dc_L_words_with pm_L_words_with cd_L_words_with ct_L_words_with : Value}
    {f_L_is_left : Addr} {od_L_is_left an_L_is_left : Option Addr} {sl_L_is_left : Array (Option Value)} {oc_L_is_left kV_L_is_left dc_L_is_left pm_L_is_left cd_L_is_left ct_L_is_left : Value}
    {f_L_thing_by : Addr} {od_L_thing_by an_L_thing_by : Option Addr} {sl_L_thing_by : Array (Option Value)} {oc_L_thing_by kV_L_thing_by dc_L_thing_by pm_L_thing_by cd_L_thing_by ct_L_thing_by : Value}
    {f_is_bent : Addr} {od_is_bent an_is_bent : Option Addr} {sl_is_bent : Array (Option Value)} {oc_is_bent kV_is_bent dc_is_bent pm_is_bent cd_is_bent ct_is_bent : Value}
    {f_L_next : Addr} {od_L_next an_L_next : Option Addr} {sl_L_next : Array (Option Value)} {oc_L_next kV_L_next dc_L_next pm_L_next cd_L_next ct_L_next : Value}
    {f_L_shape_by : Addr} {od_L_shape_by an_L_shape_by : Option Addr} {sl_L_shape_by : Array (Option Value)} {oc_L_shape_by kV_L_shape_by dc_L_shape_by pm_L_shape_by cd_L_shape_by ct_L_shape_by : Value}
    {f_away : Addr} {od_away an_away : Option Addr} {sl_away : Array (Option Value)} {oc_away kV_away dc_away pm_away cd_away ct_away : Value}
    {f_L_built : Addr} {od_L_built an_L_built : Option Addr} {sl_L_built : Array (Option Value)} {oc_L_built kV_L_built dc_L_built pm_L_built cd_L_built ct_L_built : Value}
    {f_law : Addr} {od_law an_law : Option Addr} {sl_law : Array (Option Value)} {oc_law kV_law dc_law pm_law cd_law ct_law : Value}
    (X : K.In h) (G : h.Ns mainGlobals mg) (hfa : mg "law" = some (.ref fa))
    (ac_HoleError : PySem.W.nsIn K mainGlobals "HoleError" = some (some (.ref C_HoleError)))
    (ac_NoShape : PySem.W.nsIn K mainGlobals "NoShape" = some (some (.ref C_NoShape)))
    (ac_NoText : PySem.W.nsIn K mainGlobals "NoText" = some (some (.ref C_NoText)))
    (ac_NoName : PySem.W.nsIn K mainGlobals "NoName" = some (some (.ref C_NoName)))
    (ac_NoLevel : PySem.W.nsIn K mainGlobals "NoLevel" = some (some (.ref C_NoLevel)))
    (ac_NoChain : PySem.W.nsIn K mainGlobals "NoChain" = some (some (.ref C_NoChain)))
    (ac_NoTable : PySem.W.nsIn K mainGlobals "NoTable" = some (some (.ref C_NoTable)))
    (ac_NoTurn : PySem.W.nsIn K mainGlobals "NoTurn" = some (some (.ref C_NoTurn)))
    (ac_NoMap : PySem.W.nsIn K mainGlobals "NoMap" = some (some (.ref C_NoMap)))
    (ac_NoGlue : PySem.W.nsIn K mainGlobals "NoGlue" = some (some (.ref C_NoGlue)))
    (ac_NoPrime : PySem.W.nsIn K mainGlobals "NoPrime" = some (some (.ref C_NoPrime)))
    (ac_NoStage : PySem.W.nsIn K mainGlobals "NoStage" = some (some (.ref C_NoStage)))
    (ac_NoPair : PySem.W.nsIn K mainGlobals "NoPair" = some (some (.ref C_NoPair)))
    (ac_NoRow : PySem.W.nsIn K mainGlobals "NoRow" = some (some (.ref C_NoRow)))
    (ac_NoPiece : PySem.W.nsIn K mainGlobals "NoPiece" = some (some (.ref C_NoPiece)))
    (ac_NoRound : PySem.W.nsIn K mainGlobals "NoRound" = some (some (.ref C_NoRound)))
    (a_is_whole : PySem.W.nsIn K mainGlobals "is_whole" = some (some (.ref f_is_whole)))
    (l_is_whole : K.lookup f_is_whole = some ⟨oc_is_whole, od_is_whole, .func (PySem.W.fnOf "is_whole" "is_whole" (defArgs s_is_whole) (defBody s_is_whole) (defScope s_is_whole) .none kV_is_whole dc_is_whole pm_is_whole an_is_whole cd_is_whole ct_is_whole), sl_is_whole⟩)
    (c_is_whole : PySem.W.codeIn K cd_is_whole "is_whole" = true)
    (k_is_whole : PySem.W.keepIn K (.ref f_is_whole) = true)
    (a_called_by : PySem.W.nsIn K mainGlobals "called_by" = some (some (.ref f_called_by)))
    (l_called_by : K.lookup f_called_by = some ⟨oc_called_by, od_called_by, .func (PySem.W.fnOf "called_by" "called_by" (defArgs s_called_by) (defBody s_called_by) (defScope s_called_by) .none kV_called_by dc_called_by pm_called_by an_called_by cd_called_by ct_called_by), sl_called_by⟩)
    (c_called_by : PySem.W.codeIn K cd_called_by "called_by" = true)
    (k_called_by : PySem.W.keepIn K (.ref f_called_by) = true)
    (a_spots_of : PySem.W.nsIn K mainGlobals "spots_of" = some (some (.ref f_spots_of)))
    (l_spots_of : K.lookup f_spots_of = some ⟨oc_spots_of, od_spots_of, .func (PySem.W.fnOf "spots_of" "spots_of" (defArgs s_spots_of) (defBody s_spots_of) (defScope s_spots_of) .none kV_spots_of dc_spots_of pm_spots_of an_spots_of cd_spots_of ct_spots_of), sl_spots_of⟩)
    (c_spots_of : PySem.W.codeIn K cd_spots_of "spots_of" = true)
    (k_spots_of : PySem.W.keepIn K (.ref f_spots_of) = true)
    (a_holders_of : PySem.W.nsIn K mainGlobals "holders_of" = some (some (.ref f_holders_of)))
    (l_holders_of : K.lookup f_holders_of = some ⟨oc_holders_of, od_holders_of, .func (PySem.W.fnOf "holders_of" "holders_of" (defArgs s_holders_of) (defBody s_holders_of) (defScope s_holders_of) .none kV_holders_of dc_holders_of pm_holders_of an_holders_of cd_holders_of ct_holders_of), sl_holders_of⟩)
    (c_holders_of : PySem.W.codeIn K cd_holders_of "holders_of" = true)
    (k_holders_of : PySem.W.keepIn K (.ref f_holders_of) = true)
    (a_L_whole : PySem.W.nsIn K mainGlobals "_law_whole" = some (some (.ref f_L_whole)))
    (l_L_whole : K.lookup f_L_whole = some ⟨oc_L_whole, od_L_whole, .func (PySem.W.fnOf "_law_whole" "_law_whole" (defArgs s_L_whole) (defBody s_L_whole) (defScope s_L_whole) .none kV_L_whole dc_L_whole pm_L_whole an_L_whole cd_L_whole ct_L_whole), sl_L_whole⟩)
    (c_L_whole : PySem.W.codeIn K cd_L_whole "_law_whole" = true)
    (k_L_whole : PySem.W.keepIn K (.ref f_L_whole) = true)
    (a_L_cell_at : PySem.W.nsIn K mainGlobals "_law_cell_at" = some (some (.ref f_L_cell_at)))
    (l_L_cell_at : K.lookup f_L_cell_at = some ⟨oc_L_cell_at, od_L_cell_at, .func (PySem.W.fnOf "_law_cell_at" "_law_cell_at" (defArgs s_L_cell_at) (defBody s_L_cell_at) (defScope s_L_cell_at) .none kV_L_cell_at dc_L_cell_at pm_L_cell_at an_L_cell_at cd_L_cell_at ct_L_cell_at), sl_L_cell_at⟩)
    (c_L_cell_at : PySem.W.codeIn K cd_L_cell_at "_law_cell_at" = true)
    (k_L_cell_at : PySem.W.keepIn K (.ref f_L_cell_at) = true)
    (a_L_level : PySem.W.nsIn K mainGlobals "_law_level" = some (some (.ref f_L_level)))
    (l_L_level : K.lookup f_L_level = some ⟨oc_L_level, od_L_level, .func (PySem.W.fnOf "_law_level" "_law_level" (defArgs s_L_level) (defBody s_L_level) (defScope s_L_level) .none kV_L_level dc_L_level pm_L_level an_L_level cd_L_level ct_L_level), sl_L_level⟩)
    (c_L_level : PySem.W.codeIn K cd_L_level "_law_level" = true)
    (k_L_level : PySem.W.keepIn K (.ref f_L_level) = true)
    (a_L_meets : PySem.W.nsIn K mainGlobals "_law_meets" = some (some (.ref f_L_meets)))
    (l_L_meets : K.lookup f_L_meets = some ⟨oc_L_meets, od_L_meets, .func (PySem.W.fnOf "_law_meets" "_law_meets" (defArgs s_L_meets) (defBody s_L_meets) (defScope s_L_meets) .none kV_L_meets dc_L_meets pm_L_meets an_L_meets cd_L_meets ct_L_meets), sl_L_meets⟩)
    (c_L_meets : PySem.W.codeIn K cd_L_meets "_law_meets" = true)
    (k_L_meets : PySem.W.keepIn K (.ref f_L_meets) = true)
    (a_L_pick : PySem.W.nsIn K mainGlobals "_law_pick" = some (some (.ref f_L_pick)))
    (l_L_pick : K.lookup f_L_pick = some ⟨oc_L_pick, od_L_pick, .func (PySem.W.fnOf "_law_pick" "_law_pick" (defArgs s_L_pick) (defBody s_L_pick) (defScope s_L_pick) .none kV_L_pick dc_L_pick pm_L_pick an_L_pick cd_L_pick ct_L_pick), sl_L_pick⟩)
    (c_L_pick : PySem.W.codeIn K cd_L_pick "_law_pick" = true)
    (k_L_pick : PySem.W.keepIn K (.ref f_L_pick) = true)
    (a_L_faces_by : PySem.W.nsIn K mainGlobals "_law_faces_by" = some (some (.ref f_L_faces_by)))
    (l_L_faces_by : K.lookup f_L_faces_by = some ⟨oc_L_faces_by, od_L_faces_by, .func (PySem.W.fnOf "_law_faces_by" "_law_faces_by" (defArgs s_L_faces_by) (defBody s_L_faces_by) (defScope s_L_faces_by) .none kV_L_faces_by dc_L_faces_by pm_L_faces_by an_L_faces_by cd_L_faces_by ct_L_faces_by), sl_L_faces_by⟩)
    (c_L_faces_by : PySem.W.codeIn K cd_L_faces_by "_law_faces_by" = true)
    (k_L_faces_by : PySem.W.keepIn K (.ref f_L_faces_by) = true)
    (a_L_word_by : PySem.W.nsIn K mainGlobals "_law_word_by" = some (some (.ref f_L_word_by)))
    (l_L_word_by : K.lookup f_L_word_by = some ⟨oc_L_word_by, od_L_word_by, .func (PySem.W.fnOf "_law_word_by" "_law_word_by" (defArgs s_L_word_by) (defBody s_L_word_by) (defScope s_L_word_by) .none kV_L_word_by dc_L_word_by pm_L_word_by an_L_word_by cd_L_word_by ct_L_word_by), sl_L_word_by⟩)
    (c_L_word_by : PySem.W.codeIn K cd_L_word_by "_law_word_by" = true)
    (k_L_word_by : PySem.W.keepIn K (.ref f_L_word_by) = true)
    (a_L_marks : PySem.W.nsIn K mainGlobals "_law_marks" = some (some (.ref f_L_marks)))
    (l_L_marks : K.lookup f_L_marks = some ⟨oc_L_marks, od_L_marks, .func (PySem.W.fnOf "_law_marks" "_law_marks" (defArgs s_L_marks) (defBody s_L_marks) (defScope s_L_marks) .none kV_L_marks dc_L_marks pm_L_marks an_L_marks cd_L_marks ct_L_marks), sl_L_marks⟩)
    (c_L_marks : PySem.W.codeIn K cd_L_marks "_law_marks" = true)
    (k_L_marks : PySem.W.keepIn K (.ref f_L_marks) = true)
    (a_L_only : PySem.W.nsIn K mainGlobals "_law_only" = some (some (.ref f_L_only)))
    (l_L_only : K.lookup f_L_only = some ⟨oc_L_only, od_L_only, .func (PySem.W.fnOf "_law_only" "_law_only" (defArgs s_L_only) (defBody s_L_only) (defScope s_L_only) .none kV_L_only dc_L_only pm_L_only an_L_only cd_L_only ct_L_only), sl_L_only⟩)
    (c_L_only : PySem.W.codeIn K cd_L_only "_law_only" = true)
    (k_L_only : PySem.W.keepIn K (.ref f_L_only) = true)
    (a_L_bent_of : PySem.W.nsIn K mainGlobals "_law_bent_of" = some (some (.ref f_L_bent_of)))
    (l_L_bent_of : K.lookup f_L_bent_of = some ⟨oc_L_bent_of, od_L_bent_of, .func (PySem.W.fnOf "_law_bent_of" "_law_bent_of" (defArgs s_L_bent_of) (defBody s_L_bent_of) (defScope s_L_bent_of) .none kV_L_bent_of dc_L_bent_of pm_L_bent_of an_L_bent_of cd_L_bent_of ct_L_bent_of), sl_L_bent_of⟩)
    (c_L_bent_of : PySem.W.codeIn K cd_L_bent_of "_law_bent_of" = true)
    (k_L_bent_of : PySem.W.keepIn K (.ref f_L_bent_of) = true)
    (a_left_with : PySem.W.nsIn K mainGlobals "left_with" = some (some (.ref f_left_with)))
    (l_left_with : K.lookup f_left_with = some ⟨oc_left_with, od_left_with, .func (PySem.W.fnOf "left_with" "left_with" (defArgs s_left_with) (defBody s_left_with) (defScope s_left_with) .none kV_left_with dc_left_with pm_left_with an_left_with cd_left_with ct_left_with), sl_left_with⟩)
    (c_left_with : PySem.W.codeIn K cd_left_with "left_with" = true)
    (k_left_with : PySem.W.keepIn K (.ref f_left_with) = true)
    (a_bent : PySem.W.nsIn K mainGlobals "bent" = some (some (.ref f_bent)))
    (l_bent : K.lookup f_bent = some ⟨oc_bent, od_bent, .func (PySem.W.fnOf "bent" "bent" (defArgs s_bent) (defBody s_bent) (defScope s_bent) .none kV_bent dc_bent pm_bent an_bent cd_bent ct_bent), sl_bent⟩)
    (c_bent : PySem.W.codeIn K cd_bent "bent" = true)
    (k_bent : PySem.W.keepIn K (.ref f_bent) = true)
    (a_L_fits : PySem.W.nsIn K mainGlobals "_law_fits" = some (some (.ref f_L_fits)))
    (l_L_fits : K.lookup f_L_fits = some ⟨oc_L_fits, od_L_fits, .func (PySem.W.fnOf "_law_fits" "_law_fits" (defArgs s_L_fits) (defBody s_L_fits) (defScope s_L_fits) .none kV_L_fits dc_L_fits pm_L_fits an_L_fits cd_L_fits ct_L_fits), sl_L_fits⟩)
    (c_L_fits : PySem.W.codeIn K cd_L_fits "_law_fits" = true)
    (k_L_fits : PySem.W.keepIn K (.ref f_L_fits) = true)
    (a_L_side : PySem.W.nsIn K mainGlobals "_law_side" = some (some (.ref f_L_side)))
    (l_L_side : K.lookup f_L_side = some ⟨oc_L_side, od_L_side, .func (PySem.W.fnOf "_law_side" "_law_side" (defArgs s_L_side) (defBody s_L_side) (defScope s_L_side) .none kV_L_side dc_L_side pm_L_side an_L_side cd_L_side ct_L_side), sl_L_side⟩)
    (c_L_side : PySem.W.codeIn K cd_L_side "_law_side" = true)
    (k_L_side : PySem.W.keepIn K (.ref f_L_side) = true)
    (a_L_words_with : PySem.W.nsIn K mainGlobals "_law_words_with" = some (some (.ref f_L_words_with)))
    (l_L_words_with : K.lookup f_L_words_with = some ⟨oc_L_words_with, od_L_words_with, .func (PySem.W.fnOf "_law_words_with" "_law_words_with" (defArgs s_L_words_with) (defBody s_L_words_with) (defScope s_L_words_with) .none kV_L_words_with dc_L_words_with pm_L_words_with an_L_words_with cd_L_words_with ct_L_words_with), sl_L_words_with⟩)
    (c_L_words_with : PySem.W.codeIn K cd_L_words_with "_law_words_with" = true)
    (k_L_words_with : PySem.W.keepIn K (.ref f_L_words_with) = true)
    (a_L_is_left : PySem.W.nsIn K mainGlobals "_law_is_left" = some (some (.ref f_L_is_left)))
    (l_L_is_left : K.lookup f_L_is_left = some ⟨oc_L_is_left, od_L_is_left, .func (PySem.W.fnOf "_law_is_left" "_law_is_left" (defArgs s_L_is_left) (defBody s_L_is_left) (defScope s_L_is_left) .none kV_L_is_left dc_L_is_left pm_L_is_left an_L_is_left cd_L_is_left ct_L_is_left), sl_L_is_left⟩)
    (c_L_is_left : PySem.W.codeIn K cd_L_is_left "_law_is_left" = true)
    (k_L_is_left : PySem.W.keepIn K (.ref f_L_is_left) = true)
    (a_L_thing_by : PySem.W.nsIn K mainGlobals "_law_thing_by" = some (some (.ref f_L_thing_by)))
    (l_L_thing_by : K.lookup f_L_thing_by = some ⟨oc_L_thing_by, od_L_thing_by, .func (PySem.W.fnOf "_law_thing_by" "_law_thing_by" (defArgs s_L_thing_by) (defBody s_L_thing_by) (defScope s_L_thing_by) .none kV_L_thing_by dc_L_thing_by pm_L_thing_by an_L_thing_by cd_L_thing_by ct_L_thing_by), sl_L_thing_by⟩)
    (c_L_thing_by : PySem.W.codeIn K cd_L_thing_by "_law_thing_by" = true)
    (k_L_thing_by : PySem.W.keepIn K (.ref f_L_thing_by) = true)
    (a_is_bent : PySem.W.nsIn K mainGlobals "is_bent" = some (some (.ref f_is_bent)))
    (l_is_bent : K.lookup f_is_bent = some ⟨oc_is_bent, od_is_bent, .func (PySem.W.fnOf "is_bent" "is_bent" (defArgs s_is_bent) (defBody s_is_bent) (defScope s_is_bent) .none kV_is_bent dc_is_bent pm_is_bent an_is_bent cd_is_bent ct_is_bent), sl_is_bent⟩)
    (c_is_bent : PySem.W.codeIn K cd_is_bent "is_bent" = true)
    (k_is_bent : PySem.W.keepIn K (.ref f_is_bent) = true)
    (a_L_next : PySem.W.nsIn K mainGlobals "_law_next" = some (some (.ref f_L_next)))
    (l_L_next : K.lookup f_L_next = some ⟨oc_L_next, od_L_next, .func (PySem.W.fnOf "_law_next" "_law_next" (defArgs s_L_next) (defBody s_L_next) (defScope s_L_next) .none kV_L_next dc_L_next pm_L_next an_L_next cd_L_next ct_L_next), sl_L_next⟩)
    (c_L_next : PySem.W.codeIn K cd_L_next "_law_next" = true)
    (k_L_next : PySem.W.keepIn K (.ref f_L_next) = true)
    (a_L_shape_by : PySem.W.nsIn K mainGlobals "_law_shape_by" = some (some (.ref f_L_shape_by)))
    (l_L_shape_by : K.lookup f_L_shape_by = some ⟨oc_L_shape_by, od_L_shape_by, .func (PySem.W.fnOf "_law_shape_by" "_law_shape_by" (defArgs s_L_shape_by) (defBody s_L_shape_by) (defScope s_L_shape_by) .none kV_L_shape_by dc_L_shape_by pm_L_shape_by an_L_shape_by cd_L_shape_by ct_L_shape_by), sl_L_shape_by⟩)
    (c_L_shape_by : PySem.W.codeIn K cd_L_shape_by "_law_shape_by" = true)
    (k_L_shape_by : PySem.W.keepIn K (.ref f_L_shape_by) = true)
    (a_away : PySem.W.nsIn K mainGlobals "away" = some (some (.ref f_away)))
    (l_away : K.lookup f_away = some ⟨oc_away, od_away, .func (PySem.W.fnOf "away" "away" (defArgs s_away) (defBody s_away) (defScope s_away) .none kV_away dc_away pm_away an_away cd_away ct_away), sl_away⟩)
    (c_away : PySem.W.codeIn K cd_away "away" = true)
    (k_away : PySem.W.keepIn K (.ref f_away) = true)
    (a_L_built : PySem.W.nsIn K mainGlobals "_law_built" = some (some (.ref f_L_built)))
    (l_L_built : K.lookup f_L_built = some ⟨oc_L_built, od_L_built, .func (PySem.W.fnOf "_law_built" "_law_built" (defArgs s_L_built) (defBody s_L_built) (defScope s_L_built) .none kV_L_built dc_L_built pm_L_built an_L_built cd_L_built ct_L_built), sl_L_built⟩)
    (c_L_built : PySem.W.codeIn K cd_L_built "_law_built" = true)
    (k_L_built : PySem.W.keepIn K (.ref f_L_built) = true)
    (a_law : PySem.W.nsIn K mainGlobals "law" = some (some (.ref f_law)))
    (l_law : K.lookup f_law = some ⟨oc_law, od_law, .func (PySem.W.fnOf "law" "law" (defArgs s_law) (defBody s_law) (defScope s_law) .none kV_law dc_law pm_law an_law cd_law ct_law), sl_law⟩)
    (c_law : PySem.W.codeIn K cd_law "law" = true)
    (k_law : PySem.W.keepIn K (.ref f_law) = true)
    (ak_HoleError : PySem.W.ktsIn K C_HoleError "BaseException" = true)
    (ae_NoPair : PySem.W.excIn K C_NoPair bmV "ValueError.__new__" = true)
    (ak_NoPair : PySem.W.ktsIn K C_NoPair "BaseException" = true)
    (a1_NoPair : PySem.W.findIn K (.ref C_NoPair) "__getattribute__" = some (some (.builtin "BaseException.__getattribute__")))
    (a2_NoPair : PySem.W.findIn K (.ref C_NoPair) "__getattr__" = some none)
    (a3_NoPair : PySem.W.findIn K (.ref C_NoPair) "__class__" = some (some (.builtin "object.__class__")))
    (a4_NoPair : PySem.W.subIn K (.ref C_NoPair) (.type "object") = some true)
    (a5_NoPair : PySem.W.subIn K (.ref C_NoPair) (.type "BaseException") = some true)
    (av_NoPair : PySem.W.kitOne K (.ref C_NoPair) (.type "ValueError") = some true)
    (as_NoPair_HoleError : PySem.W.subIn K (.ref C_NoPair) (.ref C_HoleError) = some true)
    (ai_NoPair_NoShape : PySem.W.kitOne K (.ref C_NoPair) (.ref C_NoShape) = some false)
    (ai_NoPair_NoText : PySem.W.kitOne K (.ref C_NoPair) (.ref C_NoText) = some false)
    (ai_NoPair_NoName : PySem.W.kitOne K (.ref C_NoPair) (.ref C_NoName) = some false)
    (ai_NoPair_NoLevel : PySem.W.kitOne K (.ref C_NoPair) (.ref C_NoLevel) = some false)
    (ai_NoPair_NoChain : PySem.W.kitOne K (.ref C_NoPair) (.ref C_NoChain) = some false)
    (ai_NoPair_NoTable : PySem.W.kitOne K (.ref C_NoPair) (.ref C_NoTable) = some false)
    (ai_NoPair_NoTurn : PySem.W.kitOne K (.ref C_NoPair) (.ref C_NoTurn) = some false)
    (ai_NoPair_NoMap : PySem.W.kitOne K (.ref C_NoPair) (.ref C_NoMap) = some false)
    (ai_NoPair_NoGlue : PySem.W.kitOne K (.ref C_NoPair) (.ref C_NoGlue) = some false)
    (ai_NoPair_NoPrime : PySem.W.kitOne K (.ref C_NoPair) (.ref C_NoPrime) = some false)
    (ai_NoPair_NoStage : PySem.W.kitOne K (.ref C_NoPair) (.ref C_NoStage) = some false)
    (ai_NoPair_NoPair : PySem.W.kitOne K (.ref C_NoPair) (.ref C_NoPair) = some true)
    (ai_NoPair_NoRow : PySem.W.kitOne K (.ref C_NoPair) (.ref C_NoRow) = some false)
    (ai_NoPair_NoPiece : PySem.W.kitOne K (.ref C_NoPair) (.ref C_NoPiece) = some false)
    (ai_NoPair_NoRound : PySem.W.kitOne K (.ref C_NoPair) (.ref C_NoRound) = some false)
    (z_isinstance : PySem.W.nsIn K mainGlobals "isinstance" = some none)
    (z_int : PySem.W.nsIn K mainGlobals "int" = some none)
    (z_bool : PySem.W.nsIn K mainGlobals "bool" = some none)
    (z_tuple : PySem.W.nsIn K mainGlobals "tuple" = some none)
    (z_dict : PySem.W.nsIn K mainGlobals "dict" = some none)
    (z_enumerate : PySem.W.nsIn K mainGlobals "enumerate" = some none)
    (z_range : PySem.W.nsIn K mainGlobals "range" = some none)
    (z_len : PySem.W.nsIn K mainGlobals "len" = some none)
    (z_all : PySem.W.nsIn K mainGlobals "all" = some none)
    (z_max : PySem.W.nsIn K mainGlobals "max" = some none)
    (z_list : PySem.W.nsIn K mainGlobals "list" = some none)
    (z_ValueError : PySem.W.nsIn K mainGlobals "ValueError" = some none) :
    ∃ fd : FuncData, (∀ (s : Shared) (v : Value), BindsTo s fd ⟨[v], []⟩ [("_law_script", v)]) ∧ ∀ base : Heap, K.In base → base.Ns mainGlobals mg → FnOk l.prog w K mg base CX0 5 fa fd ["_law_script"] (sp_law K) := by
  have e := hfa.symm.trans (PySem.W.mg_of X G a_law)
  cases e
  have T : Txt K mg C_HoleError C_NoShape C_NoText C_NoName C_NoLevel C_NoChain C_NoTable C_NoTurn C_NoMap C_NoGlue C_NoPrime C_NoStage C_NoPair C_NoRow C_NoPiece C_NoRound := ⟨PySem.W.mg_of X G ac_HoleError, ak_HoleError, PySem.W.mg_of X G ac_NoShape, PySem.W.mg_of X G ac_NoText, PySem.W.mg_of X G ac_NoName, PySem.W.mg_of X G ac_NoLevel, PySem.W.mg_of X G ac_NoChain, PySem.W.mg_of X G ac_NoTable, PySem.W.mg_of X G ac_NoTurn, PySem.W.mg_of X G ac_NoMap, PySem.W.mg_of X G ac_NoGlue, PySem.W.mg_of X G ac_NoPrime, PySem.W.mg_of X G ac_NoStage, PySem.W.mg_of X G ac_NoPair, ae_NoPair, ⟨ak_NoPair, a1_NoPair, a2_NoPair, a3_NoPair, a4_NoPair, a5_NoPair⟩, av_NoPair, PySem.W.mg_of X G ac_NoRow, PySem.W.mg_of X G ac_NoPiece, PySem.W.mg_of X G ac_NoRound, as_NoPair_HoleError, ai_NoPair_NoShape, ai_NoPair_NoText, ai_NoPair_NoName, ai_NoPair_NoLevel, ai_NoPair_NoChain, ai_NoPair_NoTable, ai_NoPair_NoTurn, ai_NoPair_NoMap, ai_NoPair_NoGlue, ai_NoPair_NoPrime, ai_NoPair_NoStage, ai_NoPair_NoPair, ai_NoPair_NoRow, ai_NoPair_NoPiece, ai_NoPair_NoRound, PySem.W.mg_none_of X G z_isinstance, PySem.W.mg_none_of X G z_int, PySem.W.mg_none_of X G z_bool, PySem.W.mg_none_of X G z_tuple, PySem.W.mg_none_of X G z_dict, PySem.W.mg_none_of X G z_enumerate, PySem.W.mg_none_of X G z_range, PySem.W.mg_none_of X G z_len, PySem.W.mg_none_of X G z_all, PySem.W.mg_none_of X G z_max, PySem.W.mg_none_of X G z_list, PySem.W.mg_none_of X G z_ValueError⟩
  have F_is_whole := fun_mk (st := s_is_whole) l_is_whole c_is_whole k_is_whole
  have F_called_by := fun_mk (st := s_called_by) l_called_by c_called_by k_called_by
  have F_spots_of := fun_mk (st := s_spots_of) l_spots_of c_spots_of k_spots_of
  have F_holders_of := fun_mk (st := s_holders_of) l_holders_of c_holders_of k_holders_of
  have F_L_whole := fun_mk (st := s_L_whole) l_L_whole c_L_whole k_L_whole
  have F_L_cell_at := fun_mk (st := s_L_cell_at) l_L_cell_at c_L_cell_at k_L_cell_at
  have F_L_level := fun_mk (st := s_L_level) l_L_level c_L_level k_L_level
  have F_L_meets := fun_mk (st := s_L_meets) l_L_meets c_L_meets k_L_meets
  have F_L_pick := fun_mk (st := s_L_pick) l_L_pick c_L_pick k_L_pick
  have F_L_faces_by := fun_mk (st := s_L_faces_by) l_L_faces_by c_L_faces_by k_L_faces_by
  have F_L_word_by := fun_mk (st := s_L_word_by) l_L_word_by c_L_word_by k_L_word_by
  have F_L_marks := fun_mk (st := s_L_marks) l_L_marks c_L_marks k_L_marks
  have F_L_only := fun_mk (st := s_L_only) l_L_only c_L_only k_L_only
  have F_L_bent_of := fun_mk (st := s_L_bent_of) l_L_bent_of c_L_bent_of k_L_bent_of
  have F_left_with := fun_mk (st := s_left_with) l_left_with c_left_with k_left_with
  have F_bent := fun_mk (st := s_bent) l_bent c_bent k_bent
  have F_L_fits := fun_mk (st := s_L_fits) l_L_fits c_L_fits k_L_fits
  have F_L_side := fun_mk (st := s_L_side) l_L_side c_L_side k_L_side
  have F_L_words_with := fun_mk (st := s_L_words_with) l_L_words_with c_L_words_with k_L_words_with
  have F_L_is_left := fun_mk (st := s_L_is_left) l_L_is_left c_L_is_left k_L_is_left
  have F_L_thing_by := fun_mk (st := s_L_thing_by) l_L_thing_by c_L_thing_by k_L_thing_by
  have F_is_bent := fun_mk (st := s_is_bent) l_is_bent c_is_bent k_is_bent
  have F_L_next := fun_mk (st := s_L_next) l_L_next c_L_next k_L_next
  have F_L_shape_by := fun_mk (st := s_L_shape_by) l_L_shape_by c_L_shape_by k_L_shape_by
  have F_away := fun_mk (st := s_away) l_away c_away k_away
  have F_L_built := fun_mk (st := s_L_built) l_L_built c_L_built k_L_built
  have F_law := fun_mk (st := s_law) l_law c_law k_law
  refine ⟨PySem.W.fnOf "law" "law" (defArgs s_law) (defBody s_law) (defScope s_law) .none kV_law dc_law pm_law an_law cd_law ct_law, fun s v => .of_eq rfl, fun base _ _ => ?_⟩
  have h_is_whole : Has l.prog w K mg base "is_whole" ["thing"] 1 (sp_is_whole K) := ⟨_, _, PySem.W.mg_of X G a_is_whole, k_is_whole, F_is_whole.binds (ps := ["thing"]) (fun _ _ _ _ _ _ => elim1 (fun _ => rfl)), ok_is_whole F_is_whole T ⟩
  have h_called_by : Has l.prog w K mg base "called_by" ["spots", "piece"] 1 (sp_calledD K) := ⟨_, _, PySem.W.mg_of X G a_called_by, k_called_by, F_called_by.binds (ps := ["spots", "piece"]) (fun _ _ _ _ _ _ => elim2 (fun _ _ => rfl)), ok_called_by F_called_by T ⟩
  have h_spots_of : Has l.prog w K mg base "spots_of" ["things"] 1 (sp_spots_of K) := ⟨_, _, PySem.W.mg_of X G a_spots_of, k_spots_of, F_spots_of.binds (ps := ["things"]) (fun _ _ _ _ _ _ => elim1 (fun _ => rfl)), ok_spots_of F_spots_of T ⟩
  have h_holders_of : Has l.prog w K mg base "holders_of" ["shape", "face"] 1 (sp_holders_of K) := ⟨_, _, PySem.W.mg_of X G a_holders_of, k_holders_of, F_holders_of.binds (ps := ["shape", "face"]) (fun _ _ _ _ _ _ => elim2 (fun _ _ => rfl)), ok_holders_of F_holders_of T ⟩
  have h_L_whole : Has l.prog w K mg base "_law_whole" ["_law_found"] 1 (sp_L_whole K) := ⟨_, _, PySem.W.mg_of X G a_L_whole, k_L_whole, F_L_whole.binds (ps := ["_law_found"]) (fun _ _ _ _ _ _ => elim1 (fun _ => rfl)), ok_L_whole F_L_whole T ⟩
  have h_L_cell_at : Has l.prog w K mg base "_law_cell_at" ["_law_script", "_law_k"] 1 (sp_L_cell_at K) := ⟨_, _, PySem.W.mg_of X G a_L_cell_at, k_L_cell_at, F_L_cell_at.binds (ps := ["_law_script", "_law_k"]) (fun _ _ _ _ _ _ => elim2 (fun _ _ => rfl)), ok_L_cell_at F_L_cell_at T ⟩
  have h_L_level : Has l.prog w K mg base "_law_level" ["_law_piece"] 1 (sp_level_of K) := ⟨_, _, PySem.W.mg_of X G a_L_level, k_L_level, F_L_level.binds (ps := ["_law_piece"]) (fun _ _ _ _ _ _ => elim1 (fun _ => rfl)), ok_L_level F_L_level T ⟩
  have h_L_meets : Has l.prog w K mg base "_law_meets" ["_law_pieces", "_law_faces", "_law_face"] 1 (sp_L_meets K) := ⟨_, _, PySem.W.mg_of X G a_L_meets, k_L_meets, F_L_meets.binds (ps := ["_law_pieces", "_law_faces", "_law_face"]) (fun _ _ _ _ _ _ => elim3 (fun _ _ _ => rfl)), ok_L_meets F_L_meets T ⟩
  have h_L_pick : Has l.prog w K mg base "_law_pick" ["_law_cell", "_law_j", "_law_many"] 1 (sp_L_pick K) := ⟨_, _, PySem.W.mg_of X G a_L_pick, k_L_pick, F_L_pick.binds (ps := ["_law_cell", "_law_j", "_law_many"]) (fun _ _ _ _ _ _ => elim3 (fun _ _ _ => rfl)), ok_L_pick F_L_pick T ⟩
  have h_L_faces_by : Has l.prog w K mg base "_law_faces_by" ["_law_word", "_law_family"] 1 (sp_L_faces_by K) := ⟨_, _, PySem.W.mg_of X G a_L_faces_by, k_L_faces_by, F_L_faces_by.binds (ps := ["_law_word", "_law_family"]) (fun _ _ _ _ _ _ => elim2 (fun _ _ => rfl)), ok_L_faces_by F_L_faces_by T ⟩
  have h_L_word_by : Has l.prog w K mg base "_law_word_by" ["_law_cell", "_law_family", "_law_letters"] 1 (sp_L_word_by K) := ⟨_, _, PySem.W.mg_of X G a_L_word_by, k_L_word_by, F_L_word_by.binds (ps := ["_law_cell", "_law_family", "_law_letters"]) (fun _ _ _ _ _ _ => elim3 (fun _ _ _ => rfl)), ok_L_word_by F_L_word_by T ⟩
  have hn_L_marks : HasN l.prog w K mg base "_law_marks" ["_law_e"] 1 (sp_L_marks K C_NoPair) := ⟨_, _, PySem.W.mg_of X G a_L_marks, k_L_marks, F_L_marks.binds (ps := ["_law_e"]) (fun _ _ _ _ _ _ => elim1 (fun _ => rfl)), ok_L_marks F_L_marks T ⟩
  have h_L_only : Has l.prog w K mg base "_law_only" ["_law_at"] 1 (sp_L_only K) := ⟨_, _, PySem.W.mg_of X G a_L_only, k_L_only, F_L_only.binds (ps := ["_law_at"]) (fun _ _ _ _ _ _ => elim1 (fun _ => rfl)), ok_L_only F_L_only T ⟩
  have h_L_bent_of : Has l.prog w K mg base "_law_bent_of" ["_law_pieces", "_law_left"] 1 (sp_L_bent_of K) := ⟨_, _, PySem.W.mg_of X G a_L_bent_of, k_L_bent_of, F_L_bent_of.binds (ps := ["_law_pieces", "_law_left"]) (fun _ _ _ _ _ _ => elim2 (fun _ _ => rfl)), ok_L_bent_of F_L_bent_of T ⟩
  have h_left_with : Has l.prog w K mg base "left_with" ["shape", "kept"] 2 (sp_left_with K) := ⟨_, _, PySem.W.mg_of X G a_left_with, k_left_with, F_left_with.binds (ps := ["shape", "kept"]) (fun _ _ _ _ _ _ => elim2 (fun _ _ => rfl)), ok_left_with F_left_with T h_spots_of h_called_by⟩
  have h_bent : Has l.prog w K mg base "bent" ["shape"] 2 (sp_bent K) := ⟨_, _, PySem.W.mg_of X G a_bent, k_bent, F_bent.binds (ps := ["shape"]) (fun _ _ _ _ _ _ => elim1 (fun _ => rfl)), ok_bent F_bent T h_holders_of⟩
  have h_L_fits : Has l.prog w K mg base "_law_fits" ["_law_pieces", "_law_thing"] 2 (sp_fitsL K) := ⟨_, _, PySem.W.mg_of X G a_L_fits, k_L_fits, F_L_fits.binds (ps := ["_law_pieces", "_law_thing"]) (fun _ _ _ _ _ _ => elim2 (fun _ _ => rfl)), ok_L_fits F_L_fits T h_L_level h_L_meets h_L_whole⟩
  have h_L_side : Has l.prog w K mg base "_law_side" ["_law_pieces", "_law_cell"] 2 (sp_L_side K) := ⟨_, _, PySem.W.mg_of X G a_L_side, k_L_side, F_L_side.binds (ps := ["_law_pieces", "_law_cell"]) (fun _ _ _ _ _ _ => elim2 (fun _ _ => rfl)), ok_L_side F_L_side T h_L_pick⟩
  have h_L_words_with : Has l.prog w K mg base "_law_words_with" ["_law_words", "_law_word", "_law_family"] 2 (sp_L_words_with K) := ⟨_, _, PySem.W.mg_of X G a_L_words_with, k_L_words_with, F_L_words_with.binds (ps := ["_law_words", "_law_word", "_law_family"]) (fun _ _ _ _ _ _ => elim3 (fun _ _ _ => rfl)), ok_L_words_with F_L_words_with T h_L_faces_by⟩
  have h_L_is_left : Has l.prog w K mg base "_law_is_left" ["_law_found", "_law_kept", "_law_pieces", "_law_left"] 2 (sp_L_is_left K) := ⟨_, _, PySem.W.mg_of X G a_L_is_left, k_L_is_left, F_L_is_left.binds (ps := ["_law_found", "_law_kept", "_law_pieces", "_law_left"]) (fun _ _ _ _ _ _ => elim4 (fun _ _ _ _ => rfl)), ok_L_is_left F_L_is_left T h_L_whole⟩
  have h_L_thing_by : Has l.prog w K mg base "_law_thing_by" ["_law_pieces", "_law_pairs", "_law_cell"] 2 (sp_L_thing61 K) := ⟨_, _, PySem.W.mg_of X G a_L_thing_by, k_L_thing_by, F_L_thing_by.binds (ps := ["_law_pieces", "_law_pairs", "_law_cell"]) (fun _ _ _ _ _ _ => elim3 (fun _ _ _ => rfl)), ok_L_thing_by F_L_thing_by T h_L_pick⟩
  have h_is_bent : Has l.prog w K mg base "is_bent" ["shape", "thing"] 3 (sp_is_bentD K) := ⟨_, _, PySem.W.mg_of X G a_is_bent, k_is_bent, F_is_bent.binds (ps := ["shape", "thing"]) (fun _ _ _ _ _ _ => elim2 (fun _ _ => rfl)), ok_is_bent F_is_bent T h_bent h_is_whole⟩
  have h_L_next : Has l.prog w K mg base "_law_next" ["_law_pieces", "_law_cell"] 3 (sp_L_next K) := ⟨_, _, PySem.W.mg_of X G a_L_next, k_L_next, F_L_next.binds (ps := ["_law_pieces", "_law_cell"]) (fun _ _ _ _ _ _ => elim2 (fun _ _ => rfl)), ok_L_next F_L_next T h_L_side h_L_meets h_L_pick h_L_level⟩
  have h_L_shape_by : Has l.prog w K mg base "_law_shape_by" ["_law_kind", "_law_cells", "_law_most"] 3 (sp_L_shape_by K) := ⟨_, _, PySem.W.mg_of X G a_L_shape_by, k_L_shape_by, F_L_shape_by.binds (ps := ["_law_kind", "_law_cells", "_law_most"]) (fun _ _ _ _ _ _ => elim3 (fun _ _ _ => rfl)), ok_L_shape_by F_L_shape_by T h_L_words_with h_L_word_by h_L_faces_by⟩
  have hx_away : HasX l.prog w K mg base "away" ["shape", "thing"] 4 (sp_awayX K C_NoPair) := ⟨_, _, PySem.W.mg_of X G a_away, k_away, F_away.binds (ps := ["shape", "thing"]) (fun _ _ _ _ _ _ => elim2 (fun _ _ => rfl)), ok_away F_away T h_is_bent h_left_with⟩
  have h_away : Has l.prog w K mg base "away" ["shape", "thing"] 4 (sp_awayOk K) := hx_away.down (fun _ _ _ _ z => away_down z)
  have h_L_built : Has l.prog w K mg base "_law_built" ["_law_kind", "_law_cells", "_law_most"] 4 (sp_builtL K) := ⟨_, _, PySem.W.mg_of X G a_L_built, k_L_built, F_L_built.binds (ps := ["_law_kind", "_law_cells", "_law_most"]) (fun _ _ _ _ _ _ => elim3 (fun _ _ _ => rfl)), ok_L_built F_L_built T h_L_shape_by h_L_fits h_L_next⟩
  exact ok_law F_law T h_L_built h_L_bent_of h_L_thing_by hx_away h_away h_L_cell_at h_L_whole h_L_is_left hn_L_marks h_L_only
theorem walk {l : PySem.W.OpenLaw} {q : Program} {loose : List Str} {XP : (Str → Option Value) → Heap → Prop} {YP : World → Heap → Prop} {d : DefRec} {K : Params → PySem.W.Frag} (hn : l.most = some 63) (hdf : d.params.defaults = [])
    (hY : ∀ (w : World) (h : Heap), YP w h → (K w.params).In h)
    (F : ∀ (w : World) (mg : Str → Option Value) (fa : Addr) (h : Heap), (K w.params).In h → h.Ns mainGlobals mg → mg d.name = some (.ref fa) →
      ∃ fd : FuncData, (∀ (s : Shared) (u : Value), BindsTo s fd ⟨[u], []⟩ [("_law_script", u)]) ∧ ∀ base : Heap, (K w.params).In base → base.Ns mainGlobals mg → FnOk l.prog w (K w.params) mg base CX0 5 fa fd ["_law_script"] (sp_law (K w.params))) :
    PySem.W.WalkO q loose XP YP l.row.toRowW d [] (fun f vs => PySem.call f vs) :=
  L2.walk_of (n := 63) (k := 5) (x := "_law_script") (CX := fun _ => CX0) (sp := fun w => sp_law (K w.params)) hn (by decide) hdf ⟨rfl, by decide, by decide, rfl⟩ hY F (fun _ _ a ns hl _ hS => ⟨a, ns, rfl, hS, hl, fun _ => rfl⟩) fun _ _ _ _ _ z => z
end Hb
def PySem.W.Fast.tw17015783883313841924 : Nat := 0
def PySem.W.Fast.tw10193427391856143691 : Nat := 0
def PySem.W.Fast.tw10015580059969075581 : Nat := 0
def PySem.W.Fast.tw8047238815113098996 : Nat := 0
def PySem.W.Fast.tw14011547128811452454 : Nat := 0
def PySem.W.Fast.tw2473294877952350841 : Nat := 0
def PySem.W.Fast.tw3511558321344324278 : Nat := 0
def PySem.W.Fast.tw4894601541870551619 : Nat := 0
def PySem.W.Fast.tw10226599236780043620 : Nat := 0
def PySem.W.Fast.tw2479643011564666030 : Nat := 0
def PySem.W.Fast.tw11840918895049067812 : Nat := 0
def PySem.W.Fast.tw16421915081011674149 : Nat := 0
def PySem.W.Fast.tw14340408173056417290 : Nat := 0
def PySem.W.Fast.tw12491008909121953648 : Nat := 0
def PySem.W.Fast.tw225123693449298301 : Nat := 0
def PySem.W.Fast.tw9990383627999808027 : Nat := 0
def PySem.W.Fast.tw2744956251813336597 : Nat := 0
def PySem.W.Fast.tw9923448670234743060 : Nat := 0
def PySem.W.Fast.tw8627448901881494123 : Nat := 0
def PySem.W.Fast.tw11628776021865511182 : Nat := 0
def PySem.W.Fast.tw10799948544629954638 : Nat := 0
def PySem.W.Fast.tw5707784899085815164 : Nat := 0
def PySem.W.Fast.tw5158832255802397021 : Nat := 0
def PySem.W.Fast.tw16735317503259310163 : Nat := 0
def PySem.W.Fast.tw7531601029666591940 : Nat := 0
def PySem.W.Fast.tw3078893851580010900 : Nat := 0
def PySem.W.Fast.tw900604075411628108 : Nat := 0
def PySem.W.Fast.tw2045650720744310119 : Nat := 0
def PySem.W.Fast.tw15376284288768386695 : Nat := 0
def PySem.W.Fast.tw9365007564144923268 : Nat := 0
def PySem.W.Fast.tw8364563871641604729 : Nat := 0
def PySem.W.Fast.tw15102668150940694789 : Nat := 0
def PySem.W.Fast.tw5802623439427612932 : Nat := 0
def PySem.W.Fast.tw11592997628443927656 : Nat := 0
def PySem.W.Fast.tw12783602486231626173 : Nat := 0
def PySem.W.Fast.tw5132966019756506478 : Nat := 0
def PySem.W.Fast.tw17347465721939421821 : Nat := 0
def PySem.W.Fast.tw13169133325317547616 : Nat := 0
def PySem.W.Fast.tw5466174008702929363 : Nat := 0
def PySem.W.Fast.tw7424939782772307937 : Nat := 0
def PySem.W.Fast.tw12673480137038723756 : Nat := 0
def PySem.W.Fast.tw6171109107503505849 : Nat := 0
def PySem.W.Fast.tw10803941782808817698 : Nat := 0
def PySem.W.Fast.tw9299022415315298376 : Nat := 0
def PySem.W.Fast.tw4945496550398347052 : Nat := 0
def PySem.W.Fast.tw1686980136101402578 : Nat := 0
def PySem.W.Fast.tw16668625570727671808 : Nat := 0
def PySem.W.Fast.tw13935497007586378951 : Nat := 0
def PySem.W.Fast.tw322233748886806748 : Nat := 0
def PySem.W.Fast.tw1814934874150706849 : Nat := 0
def PySem.W.Fast.tw11377080330550433288 : Nat := 0
def PySem.W.Fast.tw16896062882715241875 : Nat := 0
def PySem.W.Fast.tw13569958465866099929 : Nat := 0
def PySem.W.Fast.tw3211383866009586386 : Nat := 0
def PySem.W.Fast.tw12333753773326260327 : Nat := 0
def PySem.W.Fast.tw13043515269380926971 : Nat := 0
def PySem.W.Fast.tw1383338183175748848 : Nat := 0
def PySem.W.Fast.tw12414989911463551795 : Nat := 0
def PySem.W.Fast.tw10538382546483918145 : Nat := 0
def PySem.W.Fast.tw18061024695410495587 : Nat := 0
def PySem.W.Fast.tw16341767730192701692 : Nat := 0
def PySem.W.Fast.tw18053210625961799418 : Nat := 0
def PySem.W.Fast.tw13839252370163930229 : Nat := 0
def PySem.W.Fast.tw2443482511899058500 : Nat := 0
def PySem.W.Fast.tw7758456810520364589 : Nat := 0
def PySem.W.Fast.tw13067818523675152624 : Nat := 0
def PySem.W.Fast.tw3899251267063727309 : Nat := 0
def PySem.W.Fast.tw10779545708885990004 : Nat := 0
def PySem.W.Fast.tw15215093964019273347 : Nat := 0
def PySem.W.Fast.tw14741618088495122960 : Nat := 0
def PySem.W.Fast.tw18402010968409920652 : Nat := 0
def PySem.W.Fast.tw11765777960021086661 : Nat := 0
def PySem.W.Fast.tw12540243941885868845 : Nat := 0
def PySem.W.Fast.tw5214289825698863446 : Nat := 0
def PySem.W.Fast.tw17509743526706564398 : Nat := 0
def PySem.W.Fast.tw12524247472773914204 : Nat := 0
def PySem.W.Fast.tw12989425299017707014 : Nat := 0
def PySem.W.Fast.tw6710261377999962531 : Nat := 0
def PySem.W.Fast.tw9794133457032829868 : Nat := 0
def PySem.W.Fast.tw6767643235418636212 : Nat := 0
def PySem.W.Fast.tw12156987143559906535 : Nat := 0
def PySem.W.Fast.tw13210312129543253081 : Nat := 0
def PySem.W.Fast.tw9168245466743437173 : Nat := 0
def PySem.W.Fast.tw16827164440775619054 : Nat := 0
def PySem.W.Fast.tw5421582936588358119 : Nat := 0
def PySem.W.Fast.tw14911918595581112873 : Nat := 0
def PySem.W.Fast.tw10239960867537823902 : Nat := 0
def PySem.W.Fast.tw17343751421764680406 : Nat := 0
def PySem.W.Fast.tw5536013865450920262 : Nat := 0
def PySem.W.Fast.tw12627669307405942338 : Nat := 0
def PySem.W.Fast.tw4191046470286445620 : Nat := 0
def PySem.W.Fast.tw6199752705351071419 : Nat := 0
def PySem.W.Fast.tw11080753198120017312 : Nat := 0
def PySem.W.Fast.tw5041327931729637177 : Nat := 0
def PySem.W.Fast.tw10122061195448713047 : Nat := 0
def PySem.W.Fast.tw4391817207796637776 : Nat := 0
def PySem.W.Fast.tw7368294887789909130 : Nat := 0
def PySem.W.Fast.tw8541140224973173533 : Nat := 0
def PySem.W.Fast.tw1045415463089211973 : Nat := 0
def PySem.W.Fast.tw14996903735862619258 : Nat := 0
def PySem.W.Fast.tw4734614700369373279 : Nat := 0
def PySem.W.Fast.tw4649871951489394001 : Nat := 0
def PySem.W.Fast.tw8970745864588410980 : Nat := 0
def PySem.W.Fast.tw7461531194414984183 : Nat := 0
def PySem.W.Fast.tw11795859340914765821 : Nat := 0
def PySem.W.Fast.tw13367457548977878245 : Nat := 0
def PySem.W.Fast.tw11408748847943824667 : Nat := 0
def PySem.W.Fast.tw7362796595663884367 : Nat := 0
def PySem.W.Fast.tw8053526853543057884 : Nat := 0
def PySem.W.Fast.tw11743863677404800339 : Nat := 0
def PySem.W.Fast.tw7719370974840473437 : Nat := 0
def PySem.W.Fast.tw17921564658524736624 : Nat := 0
def PySem.W.Fast.tw1087296140809952532 : Nat := 0
def PySem.W.Fast.tw3224575233147734373 : Nat := 0
def PySem.W.Fast.tw3682079282306478820 : Nat := 0
def PySem.W.Fast.tw18028339223743157003 : Nat := 0
def PySem.W.Fast.tw12934519493643780458 : Nat := 0
def PySem.W.Fast.tw15298206342654762923 : Nat := 0
def PySem.W.Fast.tw9818380290377656292 : Nat := 0
def PySem.W.Fast.tw7176830527637129238 : Nat := 0
def PySem.W.Fast.tw14042385683405164348 : Nat := 0
def PySem.W.Fast.tw8055492177646193814 : Nat := 0
def PySem.W.Fast.tw10804040114019686215 : Nat := 0
def PySem.W.Fast.tw3475297772991144792 : Nat := 0
def PySem.W.Fast.tw14576684705397898492 : Nat := 0
def PySem.W.Fast.tw1945320577510746564 : Nat := 0
def PySem.W.Fast.tw3222854592164327183 : Nat := 0
def PySem.W.Fast.tw7642626037787371702 : Nat := 0
def PySem.W.Fast.tw7353138034478077874 : Nat := 0
def PySem.W.Fast.tw2272045605407889412 : Nat := 0
def PySem.W.Fast.tw14543339078253187058 : Nat := 0
def PySem.W.Fast.tw1104539171453026424 : Nat := 0
def PySem.W.Fast.tw15221520169594220653 : Nat := 0
def PySem.W.Fast.tw11746011601691962698 : Nat := 0
def PySem.W.Fast.tw11211051949851461071 : Nat := 0
def PySem.W.Fast.tw17992047651649452942 : Nat := 0
def PySem.W.Fast.tw10347902111878675977 : Nat := 0
def PySem.W.Fast.tw8997830590989709765 : Nat := 0
def PySem.W.Fast.tw17949601198874938580 : Nat := 0
def PySem.W.Fast.tw15243631454545196904 : Nat := 0
def PySem.W.Fast.tw5019664433863502226 : Nat := 0
def PySem.W.Fast.tw7731227610036997805 : Nat := 0
def PySem.W.Fast.tw15634562135537756159 : Nat := 0
def PySem.W.Fast.tw1838167778941326617 : Nat := 0
def PySem.W.Fast.tw4882548523049257837 : Nat := 0
def PySem.W.Fast.tw13694842065458123421 : Nat := 0
def PySem.W.Fast.tw5141916973555255184 : Nat := 0
def PySem.W.Fast.tw14306845206074372652 : Nat := 0
def PySem.W.Fast.tw1776840996087490729 : Nat := 0
def PySem.W.Fast.tw152292974908110889 : Nat := 0
def PySem.W.Fast.tw493169041302383313 : Nat := 0
def PySem.W.Fast.tw14036728746532490881 : Nat := 0
def PySem.W.Fast.tw17374716965356894582 : Nat := 0
def PySem.W.Fast.tw15844899459557902050 : Nat := 0
def PySem.W.Fast.tw13917084433116612449 : Nat := 0
def PySem.W.Fast.tw14495170559509265822 : Nat := 0
def PySem.W.Fast.tw12991504259399045748 : Nat := 0
def PySem.W.Fast.tw7490213970459780931 : Nat := 0
def PySem.W.Fast.tw13490363319737141961 : Nat := 0
def PySem.W.Fast.tw15935337130100834352 : Nat := 0
def PySem.W.Fast.tw18203285232067756294 : Nat := 0
def PySem.W.Fast.tw6868185152574763540 : Nat := 0
def PySem.W.Fast.tw13540543081951902527 : Nat := 0
def PySem.W.Fast.tw12176479691903507216 : Nat := 0
def PySem.W.Fast.tw8166676298435074117 : Nat := 0
def PySem.W.Fast.tw3612076693113035455 : Nat := 0
def PySem.W.Fast.tw4181241784609588045 : Nat := 0
def PySem.W.Fast.tw3683223862408778339 : Nat := 0
def PySem.W.Fast.tw549392228166403361 : Nat := 0
def PySem.W.Fast.tw13616172817778898277 : Nat := 0
def PySem.W.Fast.tw13102285436406903223 : Nat := 0
def PySem.W.Fast.tw9480493073493152629 : Nat := 0
def PySem.W.Fast.tw11592456778882790904 : Nat := 0
def PySem.W.Fast.tw3928582826575059377 : Nat := 0
def PySem.W.Fast.tw12161973876314667514 : Nat := 0
def PySem.W.Fast.tw6441195453861428588 : Nat := 0
def PySem.W.Fast.tw10939235921304105538 : Nat := 0
def PySem.W.Fast.tw1162356939970962532 : Nat := 0
def PySem.W.Fast.tw12264619991890195815 : Nat := 0
def PySem.W.Fast.tw960239205894403389 : Nat := 0
def PySem.W.Fast.tw3293961260611193536 : Nat := 0
def PySem.W.Fast.tw9289917729056133328 : Nat := 0
def PySem.W.Fast.tw16141972130102634509 : Nat := 0
def PySem.W.Fast.tw15249644268164028138 : Nat := 0
def PySem.W.Fast.tw10370156932302756435 : Nat := 0
def PySem.W.Fast.tw18094197314232669564 : Nat := 0
def PySem.W.Fast.tw15817749018583782742 : Nat := 0
def PySem.W.Fast.tw12472378321426994187 : Nat := 0
def PySem.W.Fast.tw11373317233181921472 : Nat := 0
def PySem.W.Fast.tw17742437166813209733 : Nat := 0
def PySem.W.Fast.tw5266914039064694696 : Nat := 0
def PySem.W.Fast.tw13667049730106751495 : Nat := 0
def PySem.W.Fast.tw15467303846154762387 : Nat := 0
def PySem.W.Fast.tw12791718455109407428 : Nat := 0
def PySem.W.Fast.tw4603803075010137522 : Nat := 0
def PySem.W.Fast.tw11204804369094333378 : Nat := 0
def PySem.W.Fast.tw6980425043454899246 : Nat := 0
def PySem.W.Fast.tw17572323718217782407 : Nat := 0
def PySem.W.Fast.tw8862072502518960148 : Nat := 0
def PySem.W.Fast.tw8102310184840903793 : Nat := 0
def PySem.W.Fast.tw7229914338152939397 : Nat := 0
def PySem.W.Fast.tw5563380125072660209 : Nat := 0
def PySem.W.Fast.tw8222689119527651084 : Nat := 0
def PySem.W.Fast.tw1155855016858179778 : Nat := 0
def PySem.W.Fast.tw4321060024185209382 : Nat := 0
def PySem.W.Fast.tw13602321322689401726 : Nat := 0
def PySem.W.Fast.tw15354614474932986624 : Nat := 0
def PySem.W.Fast.tw5004593806208157448 : Nat := 0
def PySem.W.Fast.tw13028184816652883036 : Nat := 0
def PySem.W.Fast.tw10917671174454623964 : Nat := 0
def PySem.W.Fast.tw15243128393975151690 : Nat := 0
def PySem.W.Fast.tw14852676940926896366 : Nat := 0
def PySem.W.Fast.tw9277490094741157309 : Nat := 0
def PySem.W.Fast.tw10974756399669955466 : Nat := 0
def PySem.W.Fast.tw5964289927227410253 : Nat := 0
def PySem.W.Fast.tw1327262554449162281 : Nat := 0
def PySem.W.Fast.tw4967241758963893689 : Nat := 0
def PySem.W.Fast.tw18360282412257674708 : Nat := 0
def PySem.W.Fast.tw11304250809907113043 : Nat := 0
def PySem.W.Fast.tw13021464714411562604 : Nat := 0
def PySem.W.Fast.tw16685319786418703804 : Nat := 0
def PySem.W.Fast.tw10309638862123099294 : Nat := 0
def PySem.W.Fast.tw9456477823460031511 : Nat := 0
def PySem.W.Fast.tw2283628260512996234 : Nat := 0
def PySem.W.Fast.tw1689063887937188027 : Nat := 0
def PySem.W.Fast.tw13845985055340310545 : Nat := 0
def PySem.W.Fast.tw12715387093174505996 : Nat := 0
def PySem.W.Fast.tw10478108534733849248 : Nat := 0
def PySem.W.Fast.tw10609332273657598757 : Nat := 0
def PySem.W.Fast.tw2364967313499248258 : Nat := 0
def PySem.W.Fast.tw4962397527528204766 : Nat := 0
def PySem.W.Fast.tw8118352006023683849 : Nat := 0
def PySem.W.Fast.tw6891882555774600628 : Nat := 0
def PySem.W.Fast.tw3338332062900894529 : Nat := 0
def PySem.W.Fast.tw11896008510130226448 : Nat := 0
def PySem.W.Fast.tw12639623363708648373 : Nat := 0
def PySem.W.Fast.tw8643417863889389507 : Nat := 0
def PySem.W.Fast.tw3685007013245433848 : Nat := 0
def PySem.W.Fast.tw7840074149232088548 : Nat := 0
def PySem.W.Fast.tw5839972021996301118 : Nat := 0
def PySem.W.Fast.tw8801395309774874201 : Nat := 0
def PySem.W.Fast.tw829959396602682034 : Nat := 0
def PySem.W.Fast.tw6088166409050945474 : Nat := 0
def PySem.W.Fast.tw7979891608101673924 : Nat := 0
def PySem.W.Fast.tw253461133548238978 : Nat := 0
def PySem.W.Fast.tw516504145613190142 : Nat := 0
def PySem.W.Fast.tw6189716700861388376 : Nat := 0
def PySem.W.Fast.tw340228359071158825 : Nat := 0
def PySem.W.Fast.tw3803942805353632671 : Nat := 0
def PySem.W.Fast.tw10912261961539965006 : Nat := 0
def PySem.W.Fast.tw5548105386655153069 : Nat := 0
def PySem.W.Fast.tw16925953660761988753 : Nat := 0
def PySem.W.Fast.tw2470706593622105896 : Nat := 0
def PySem.W.Fast.tw12430657812373256981 : Nat := 0
def PySem.W.Fast.tw17281452425975629016 : Nat := 0
def PySem.W.Fast.tw932420626218916956 : Nat := 0
def PySem.W.Fast.tw17575596359293442188 : Nat := 0
def PySem.W.Fast.tw9545891792171564076 : Nat := 0
def PySem.W.Fast.tw14115325804290477396 : Nat := 0
def PySem.W.Fast.tw15270727223001514809 : Nat := 0
def PySem.W.Fast.tw2322233562593343660 : Nat := 0
def PySem.W.Fast.tw8285659175463860064 : Nat := 0
def PySem.W.Fast.tw10955010877131693179 : Nat := 0
def PySem.W.Fast.tw12421870481942547851 : Nat := 0
def PySem.W.Fast.tw3667562229691562381 : Nat := 0
def PySem.W.Fast.tw1937217667163147523 : Nat := 0
def PySem.W.Fast.tw15503278702807586149 : Nat := 0
def PySem.W.Fast.tw11345105101343857843 : Nat := 0
def PySem.W.Fast.tw12432255123521672665 : Nat := 0
def PySem.W.Fast.tw10591887134823512132 : Nat := 0
def PySem.W.Fast.tw13231932842908869766 : Nat := 0
def PySem.W.Fast.tw18329785839609092290 : Nat := 0
def PySem.W.Fast.tw2320066663454417661 : Nat := 0
def PySem.W.Fast.tw2759622146688662703 : Nat := 0
def PySem.W.Fast.tw3737375920153816492 : Nat := 0
def PySem.W.Fast.tw12504544548290255444 : Nat := 0
def PySem.W.Fast.tw17180400202607079737 : Nat := 0
def PySem.W.Fast.tw5887336542867403612 : Nat := 0
def PySem.W.Fast.tw313764427307840706 : Nat := 0
def PySem.W.Fast.tw5455490531595859513 : Nat := 0
def PySem.W.Fast.tw11834808120620373205 : Nat := 0
def PySem.W.Fast.tw18195455499194195498 : Nat := 0
def PySem.W.Fast.tw18190659924089453260 : Nat := 0
def PySem.W.Fast.tw1968974097244764820 : Nat := 0
def PySem.W.Fast.tw15095738689822453032 : Nat := 0
def PySem.W.Fast.tw7070409888806172473 : Nat := 0
def PySem.W.Fast.tw9982848352918485637 : Nat := 0
def PySem.W.Fast.tw8547739448671722487 : Nat := 0
def PySem.W.Fast.tw4557588854766095167 : Nat := 0
def PySem.W.Fast.tw3586199857102595736 : Nat := 0
def PySem.W.Fast.tw13997134080576060923 : Nat := 0
def PySem.W.Fast.tw13500538020213691682 : Nat := 0
def PySem.W.Fast.tw8662249640772012547 : Nat := 0
def PySem.W.Fast.tw6907440055010696159 : Nat := 0
def PySem.W.Fast.tw3022868491072519717 : Nat := 0
def PySem.W.Fast.tw7527955301480593768 : Nat := 0
def PySem.W.Fast.tw9605211753720123705 : Nat := 0
def PySem.W.Fast.tw15916466192631735317 : Nat := 0
def PySem.W.Fast.tw12468902496378629755 : Nat := 0
def PySem.W.Fast.tw4815119477703158834 : Nat := 0
def PySem.W.Fast.tw5002862368661079901 : Nat := 0
def PySem.W.Fast.tw2654652497599957255 : Nat := 0
def PySem.W.Fast.tw18359097445116895001 : Nat := 0
def PySem.W.Fast.tw4877148378893986773 : Nat := 0
def PySem.W.Fast.tw4411043618909955702 : Nat := 0
def PySem.W.Fast.tw13563625983234714202 : Nat := 0
def PySem.W.Fast.tw8861305042432369200 : Nat := 0
def PySem.W.Fast.tw7298777692656393533 : Nat := 0
def PySem.W.Fast.tw1699720846438193192 : Nat := 0
def PySem.W.Fast.tw9327904546535126843 : Nat := 0
def PySem.W.Fast.tw6989860403254283019 : Nat := 0
def PySem.W.Fast.tw6991851468989870944 : Nat := 0
def PySem.W.Fast.tw15595186476493462775 : Nat := 0
def PySem.W.Fast.tw7823681241488195927 : Nat := 0
def PySem.W.Fast.tw1599087575556348444 : Nat := 0
def PySem.W.Fast.tw13387511129707824405 : Nat := 0
def PySem.W.Fast.tw15732929095064570487 : Nat := 0
def PySem.W.Fast.tw11757614168770591864 : Nat := 0
def PySem.W.Fast.tw574759690139304883 : Nat := 0
def PySem.W.Fast.tw16240338055587823171 : Nat := 0
def PySem.W.Fast.tw9284692947390476596 : Nat := 0
def PySem.W.Fast.tw9143421573215248560 : Nat := 0
def PySem.W.Fast.tw5377637560350998703 : Nat := 0
def PySem.W.Fast.tw8387945096643037695 : Nat := 0
def PySem.W.Fast.tw4700749485501281721 : Nat := 0
def PySem.W.Fast.tw10221168919237435986 : Nat := 0
def PySem.W.Fast.tw2569966220111010080 : Nat := 0
def PySem.W.Fast.tw8844446938290439950 : Nat := 0
def PySem.W.Fast.tw12661214823601860819 : Nat := 0
def PySem.W.Fast.tw13658391015782136529 : Nat := 0
def PySem.W.Fast.tw3304426146967461878 : Nat := 0
def PySem.W.Fast.tw14187432981163458662 : Nat := 0
def PySem.W.Fast.tw8281540956790571662 : Nat := 0
def PySem.W.Fast.tw4532778272442684067 : Nat := 0
def PySem.W.Fast.tw2732542492102349390 : Nat := 0
def PySem.W.Fast.tw10709104818505519896 : Nat := 0
def PySem.W.Fast.tw18103541444633558902 : Nat := 0
def PySem.W.Fast.tw737781535621757729 : Nat := 0
def PySem.W.Fast.tw179952965403072293 : Nat := 0
def PySem.W.Fast.tw6099028092100237511 : Nat := 0
def PySem.W.Fast.tw17479102199347686419 : Nat := 0
def PySem.W.Fast.tw2729130244369488805 : Nat := 0
def PySem.W.Fast.tw12423873582933978944 : Nat := 0
def PySem.W.Fast.tw9995805941166514707 : Nat := 0
def PySem.W.Fast.tw6798350127096964750 : Nat := 0
def PySem.W.Fast.tw9067607659756301012 : Nat := 0
def PySem.W.Fast.tw5442882671249292224 : Nat := 0
def PySem.W.Fast.tw1475917841055402274 : Nat := 0
def PySem.W.Fast.tw9645288596801974591 : Nat := 0
def PySem.W.Fast.tw7051242585689777699 : Nat := 0
def PySem.W.Fast.tw6836698168570695315 : Nat := 0
def PySem.W.Fast.tw7776065704642381362 : Nat := 0
def PySem.W.Fast.tw11862705717478954540 : Nat := 0
def PySem.W.Fast.tw1082637360856578218 : Nat := 0
def PySem.W.Fast.tw11887420195020168702 : Nat := 0
def PySem.W.Fast.tw14740562654435123028 : Nat := 0
def PySem.W.Fast.tw12156260587453944049 : Nat := 0
def PySem.W.Fast.tw8562942667475197654 : Nat := 0
def PySem.W.Fast.tw11365211034805446350 : Nat := 0
def PySem.W.Fast.tw15929719325440524256 : Nat := 0
def PySem.W.Fast.tw3529741323547997008 : Nat := 0
def PySem.W.Fast.tw13845638204536883109 : Nat := 0
def PySem.W.Fast.tw1340499906533938060 : Nat := 0
def PySem.W.Fast.tw5071170406121056595 : Nat := 0
def PySem.W.Fast.tw15580363503466883984 : Nat := 0
def PySem.W.Fast.tw6301224984959476057 : Nat := 0
def PySem.W.Fast.tw11494170766804932350 : Nat := 0
def PySem.W.Fast.tw14001330401798477841 : Nat := 0
def PySem.W.Fast.tw8412053276740242224 : Nat := 0
def PySem.W.Fast.tw16064810416664511527 : Nat := 0
def PySem.W.Fast.tw797468363285448166 : Nat := 0
def PySem.W.Fast.tw14230262225390092722 : Nat := 0
def PySem.W.Fast.tw3324751117862689861 : Nat := 0
def PySem.W.Fast.tw11209903554330244824 : Nat := 0
def PySem.W.Fast.tw15394684224150969095 : Nat := 0
def PySem.W.Fast.tw6110568099611548131 : Nat := 0
def PySem.W.Fast.tw540085467167376714 : Nat := 0
def PySem.W.Fast.tw12442649553783038861 : Nat := 0
def PySem.W.Fast.tw11100430779127948830 : Nat := 0
def PySem.W.Fast.tw6849176903537622379 : Nat := 0
def PySem.W.Fast.tw13699992646839669531 : Nat := 0
def PySem.W.Fast.tw835182793829467167 : Nat := 0
def PySem.W.Fast.tw2738279847491941749 : Nat := 0
def PySem.W.Fast.tw17543931668523632683 : Nat := 0
def PySem.W.Fast.tw5072583720378867423 : Nat := 0
def PySem.W.Fast.tw3325245216778131510 : Nat := 0
def PySem.W.Fast.tw1608777516569231123 : Nat := 0
def PySem.W.Fast.tw6333227359725134438 : Nat := 0
def PySem.W.Fast.tw4703368552638301139 : Nat := 0
def PySem.W.Fast.tw16047553729271828832 : Nat := 0
def PySem.W.Fast.tw291009198024976066 : Nat := 0
def PySem.W.Fast.tw8269899671011778542 : Nat := 0
def PySem.W.Fast.tw1798482423034685402 : Nat := 0
def PySem.W.Fast.tw13495213786428430540 : Nat := 0
def PySem.W.Fast.tw4702623371145541765 : Nat := 0
def PySem.W.Fast.tw428600930703331344 : Nat := 0
def PySem.W.Fast.tw9751711858603865285 : Nat := 0
def PySem.W.Fast.tw4045255127441147067 : Nat := 0
def PySem.W.Fast.tw8534781233494511269 : Nat := 0
def PySem.W.Fast.tw9188158238255977241 : Nat := 0
def PySem.W.Fast.tw12327835984955395958 : Nat := 0
def PySem.W.Fast.tw9081954357702490105 : Nat := 0
def PySem.W.Fast.tw15631402593303368741 : Nat := 0
def PySem.W.Fast.tw5022790240956694394 : Nat := 0
def PySem.W.Fast.tw3931532649283141584 : Nat := 0
def PySem.W.Fast.tw14387551223970257047 : Nat := 0
def PySem.W.Fast.tw11190360382775215395 : Nat := 0
def PySem.W.Fast.tw2119166610944755621 : Nat := 0
def PySem.W.Fast.tw10019008847685959386 : Nat := 0
def PySem.W.Fast.tw4578956994180172265 : Nat := 0
def PySem.W.Fast.tw7803175030002492257 : Nat := 0
def PySem.W.Fast.tw18146774638115128160 : Nat := 0
def PySem.W.Fast.tw15798352634540551169 : Nat := 0
def PySem.W.Fast.tw5386785281259311525 : Nat := 0
def PySem.W.Fast.tw17787562484329257523 : Nat := 0
def PySem.W.Fast.tw17201893298001111325 : Nat := 0
def PySem.W.Fast.tw7484018515004705081 : Nat := 0
def PySem.W.Fast.tw6340826128615599090 : Nat := 0
def PySem.W.Fast.tw5668521547680461674 : Nat := 0
def PySem.W.Fast.tw11244154871808369880 : Nat := 0
def PySem.W.Fast.tw8293095190624466197 : Nat := 0
def PySem.W.Fast.tw1594916793592550747 : Nat := 0
def PySem.W.Fast.tw14801870672694900749 : Nat := 0
def PySem.W.Fast.tw386288981083085819 : Nat := 0
def PySem.W.Fast.tw2582573767572142071 : Nat := 0
def PySem.W.Fast.tw16758007298215361178 : Nat := 0
def PySem.W.Fast.tw12280454168993490517 : Nat := 0
def PySem.W.Fast.tw8444737353190088482 : Nat := 0
def PySem.W.Fast.tw16355721174924495431 : Nat := 0
def PySem.W.Fast.tw1607732037951961036 : Nat := 0
def PySem.W.Fast.tw13610953892926728330 : Nat := 0
def PySem.W.Fast.tw13559232618868268955 : Nat := 0
def PySem.W.Fast.tw17738581498330733244 : Nat := 0
def PySem.W.Fast.tw6448078420420753870 : Nat := 0
def PySem.W.Fast.tw15191043302577885715 : Nat := 0
def PySem.W.Fast.tw3444948233933777774 : Nat := 0
def PySem.W.Fast.tw10964402937613765413 : Nat := 0
def PySem.W.Fast.tw2163858030323655056 : Nat := 0
def PySem.W.Fast.tw11851987760398717426 : Nat := 0
def PySem.W.Fast.tw4194375602144894679 : Nat := 0
def PySem.W.Fast.tw10744506309417917143 : Nat := 0
def PySem.W.Fast.tw9737469515021879941 : Nat := 0
def PySem.W.Fast.tw8957895670695011453 : Nat := 0
def PySem.W.Fast.tw1817515017860359335 : Nat := 0
def PySem.W.Fast.tw2591746408599536531 : Nat := 0
def PySem.W.Fast.tw8880599036966785262 : Nat := 0
def PySem.W.Fast.tw1655973396540001592 : Nat := 0
def PySem.W.Fast.tw6594673536708640520 : Nat := 0
def PySem.W.Fast.tw9095009061542640590 : Nat := 0
def PySem.W.Fast.tw9257672114727224780 : Nat := 0
def PySem.W.Fast.tw10959599664977123103 : Nat := 0
def PySem.W.Fast.tw13346601985367718581 : Nat := 0
def PySem.W.Fast.tw16304937283435091654 : Nat := 0
def PySem.W.Fast.tw2063121247885474396 : Nat := 0
def PySem.W.Fast.tw11181291841090019394 : Nat := 0
def PySem.W.Fast.tw16060463456358676701 : Nat := 0
def PySem.W.Fast.tw1649378012700619334 : Nat := 0
def PySem.W.Fast.tw4109981125737771141 : Nat := 0
def PySem.W.Fast.tw6356071526880123689 : Nat := 0
def PySem.W.Fast.tw6500534893235283832 : Nat := 0
def PySem.W.Fast.tw13127235597748656618 : Nat := 0
def PySem.W.Fast.tw14733964972046583407 : Nat := 0
def PySem.W.Fast.tw11034196054944228548 : Nat := 0
def PySem.W.Fast.tw13419609125825098375 : Nat := 0
def PySem.W.Fast.tw7873418812828828731 : Nat := 0
def PySem.W.Fast.tw13214919812946950731 : Nat := 0
def PySem.W.Fast.tw18210358649275588546 : Nat := 0
open PySem PySem.W PyProof.Rows
set_option maxRecDepth 100000 in
set_option maxHeartbeats 0 in
theorem PySem.Challenge.cw_holebook_k61_a_bent_pair_away_holds : PySem.Challenge.rw_holebook_k61_a_bent_pair_away.Holds := by
  w_on; o_law; k_head; (case hw => w_witness2)
  k_fill
  refine Hb.walk (l := PySem.Challenge.rw_holebook_k61_a_bent_pair_away) rfl rfl (fun w h Y => PySem.W.kIn_of Y) ?F
  case F =>
    intro w mg fa h KX G hmg
    refine' Hb.all_mk KX G hmg ?ac_HoleError ?ac_NoShape ?ac_NoText ?ac_NoName ?ac_NoLevel ?ac_NoChain ?ac_NoTable ?ac_NoTurn ?ac_NoMap ?ac_NoGlue ?ac_NoPrime ?ac_NoStage ?ac_NoPair ?ac_NoRow ?ac_NoPiece ?ac_NoRound ?a_is_whole ?l_is_whole ?c_is_whole ?k_is_whole ?a_called_by ?l_called_by ?c_called_by ?k_called_by ?a_spots_of ?l_spots_of ?c_spots_of ?k_spots_of ?a_holders_of ?l_holders_of ?c_holders_of ?k_holders_of ?a_L_whole ?l_L_whole ?c_L_whole ?k_L_whole ?a_L_cell_at ?l_L_cell_at ?c_L_cell_at ?k_L_cell_at ?a_L_level ?l_L_level ?c_L_level ?k_L_level ?a_L_meets ?l_L_meets ?c_L_meets ?k_L_meets ?a_L_pick ?l_L_pick ?c_L_pick ?k_L_pick ?a_L_faces_by ?l_L_faces_by ?c_L_faces_by ?k_L_faces_by ?a_L_word_by ?l_L_word_by ?c_L_word_by ?k_L_word_by ?a_L_marks ?l_L_marks ?c_L_marks ?k_L_marks ?a_L_only ?l_L_only ?c_L_only ?k_L_only ?a_L_bent_of ?l_L_bent_of ?c_L_bent_of ?k_L_bent_of ?a_left_with ?l_left_with ?c_left_with ?k_left_with ?a_bent ?l_bent ?c_bent ?k_bent ?a_L_fits ?l_L_fits ?c_L_fits ?k_L_fits ?a_L_side ?l_L_side ?c_L_side ?k_L_side ?a_L_words_with ?l_L_words_with ?c_L_words_with ?k_L_words_with ?a_L_is_left ?l_L_is_left ?c_L_is_left ?k_L_is_left ?a_L_thing_by ?l_L_thing_by ?c_L_thing_by ?k_L_thing_by ?a_is_bent ?l_is_bent ?c_is_bent ?k_is_bent ?a_L_next ?l_L_next ?c_L_next ?k_L_next ?a_L_shape_by ?l_L_shape_by ?c_L_shape_by ?k_L_shape_by ?a_away ?l_away ?c_away ?k_away ?a_L_built ?l_L_built ?c_L_built ?k_L_built ?a_law ?l_law ?c_law ?k_law ?ak_HoleError ?ae_NoPair ?ak_NoPair ?a1_NoPair ?a2_NoPair ?a3_NoPair ?a4_NoPair ?a5_NoPair ?av_NoPair ?as_NoPair_HoleError ?ai_NoPair_NoShape ?ai_NoPair_NoText ?ai_NoPair_NoName ?ai_NoPair_NoLevel ?ai_NoPair_NoChain ?ai_NoPair_NoTable ?ai_NoPair_NoTurn ?ai_NoPair_NoMap ?ai_NoPair_NoGlue ?ai_NoPair_NoPrime ?ai_NoPair_NoStage ?ai_NoPair_NoPair ?ai_NoPair_NoRow ?ai_NoPair_NoPiece ?ai_NoPair_NoRound ?z_isinstance ?z_int ?z_bool ?z_tuple ?z_dict ?z_enumerate ?z_range ?z_len ?z_all ?z_max ?z_list ?z_ValueError
    (case ac_HoleError => k_is); (case ac_NoShape => k_is); (case ac_NoText => k_is); (case ac_NoName => k_is)
    (case ac_NoLevel => k_is); (case ac_NoChain => k_is); (case ac_NoTable => k_is); (case ac_NoTurn => k_is)
    (case ac_NoMap => k_is); (case ac_NoGlue => k_is); (case ac_NoPrime => k_is); (case ac_NoStage => k_is)
    (case ac_NoPair => k_is); (case ac_NoRow => k_is); (case ac_NoPiece => k_is); (case ac_NoRound => k_is)
    (case a_is_whole => k_is); (case l_is_whole => k_is); (case c_is_whole => k_is); (case k_is_whole => k_is)
    (case a_called_by => k_is); (case l_called_by => k_is); (case c_called_by => k_is); (case k_called_by => k_is)
    (case a_spots_of => k_is); (case l_spots_of => k_is); (case c_spots_of => k_is); (case k_spots_of => k_is)
    (case a_holders_of => k_is); (case l_holders_of => k_is); (case c_holders_of => k_is); (case k_holders_of => k_is)
    (case a_L_whole => k_is); (case l_L_whole => k_is); (case c_L_whole => k_is); (case k_L_whole => k_is)
    (case a_L_cell_at => k_is); (case l_L_cell_at => k_is); (case c_L_cell_at => k_is); (case k_L_cell_at => k_is)
    (case a_L_level => k_is); (case l_L_level => k_is); (case c_L_level => k_is); (case k_L_level => k_is)
    (case a_L_meets => k_is); (case l_L_meets => k_is); (case c_L_meets => k_is); (case k_L_meets => k_is)
    (case a_L_pick => k_is); (case l_L_pick => k_is); (case c_L_pick => k_is); (case k_L_pick => k_is)
    (case a_L_faces_by => k_is); (case l_L_faces_by => k_is); (case c_L_faces_by => k_is); (case k_L_faces_by => k_is)
    (case a_L_word_by => k_is); (case l_L_word_by => k_is); (case c_L_word_by => k_is); (case k_L_word_by => k_is)
    (case a_L_marks => k_is); (case l_L_marks => k_is); (case c_L_marks => k_is); (case k_L_marks => k_is)
    (case a_L_only => k_is); (case l_L_only => k_is); (case c_L_only => k_is); (case k_L_only => k_is)
    (case a_L_bent_of => k_is); (case l_L_bent_of => k_is); (case c_L_bent_of => k_is); (case k_L_bent_of => k_is)
    (case a_left_with => k_is); (case l_left_with => k_is); (case c_left_with => k_is); (case k_left_with => k_is)
    (case a_bent => k_is); (case l_bent => k_is); (case c_bent => k_is); (case k_bent => k_is)
    (case a_L_fits => k_is); (case l_L_fits => k_is); (case c_L_fits => k_is); (case k_L_fits => k_is)
    (case a_L_side => k_is); (case l_L_side => k_is); (case c_L_side => k_is); (case k_L_side => k_is)
    (case a_L_words_with => k_is); (case l_L_words_with => k_is); (case c_L_words_with => k_is); (case k_L_words_with => k_is)
    (case a_L_is_left => k_is); (case l_L_is_left => k_is); (case c_L_is_left => k_is); (case k_L_is_left => k_is)
    (case a_L_thing_by => k_is); (case l_L_thing_by => k_is); (case c_L_thing_by => k_is); (case k_L_thing_by => k_is)
    (case a_is_bent => k_is); (case l_is_bent => k_is); (case c_is_bent => k_is); (case k_is_bent => k_is)
    (case a_L_next => k_is); (case l_L_next => k_is); (case c_L_next => k_is); (case k_L_next => k_is)
    (case a_L_shape_by => k_is); (case l_L_shape_by => k_is); (case c_L_shape_by => k_is); (case k_L_shape_by => k_is)
    (case a_away => k_is); (case l_away => k_is); (case c_away => k_is); (case k_away => k_is)
    (case a_L_built => k_is); (case l_L_built => k_is); (case c_L_built => k_is); (case k_L_built => k_is)
    (case a_law => k_is); (case l_law => k_is); (case c_law => k_is); (case k_law => k_is)
    (case ak_HoleError => kts_isx); (case ae_NoPair => k_exc); (case ak_NoPair => kts_isx); (case a1_NoPair => k_is)
    (case a2_NoPair => k_is); (case a3_NoPair => k_is); (case a4_NoPair => k_is); (case a5_NoPair => k_is)
    (case av_NoPair => kit_is); (case as_NoPair_HoleError => k_is); (case ai_NoPair_NoShape => kit_is); (case ai_NoPair_NoText => kit_is)
    (case ai_NoPair_NoName => kit_is); (case ai_NoPair_NoLevel => kit_is); (case ai_NoPair_NoChain => kit_is); (case ai_NoPair_NoTable => kit_is)
    (case ai_NoPair_NoTurn => kit_is); (case ai_NoPair_NoMap => kit_is); (case ai_NoPair_NoGlue => kit_is); (case ai_NoPair_NoPrime => kit_is)
    (case ai_NoPair_NoStage => kit_is); (case ai_NoPair_NoPair => kit_is); (case ai_NoPair_NoRow => kit_is); (case ai_NoPair_NoPiece => kit_is)
    (case ai_NoPair_NoRound => kit_is); (case z_isinstance => k_is); (case z_int => k_is); (case z_bool => k_is)
    (case z_tuple => k_is); (case z_dict => k_is); (case z_enumerate => k_is); (case z_range => k_is)
    (case z_len => k_is); (case z_all => k_is); (case z_max => k_is); (case z_list => k_is)
    (case z_ValueError => k_is)
