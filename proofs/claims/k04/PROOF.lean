import PyProof.Rows.All
import Wide.All
import OpenK.AllK
import Wide.FinOn
import Lean
import PyProof.EqAt
import PyProof.EqKinds
import PyProof.TupleCall
import PySem.Challenge.RW_holebook_k04_what_is_a_shape
set_option Elab.async false
set_option linter.all false
set_option maxRecDepth 100000

namespace L2
open PySem PySem.Spec PyProof.Rows


abbrev Key := Sum Int Str
def keyIs : Key → Value → Bool
  | .inl k, v => Value.isInt k v
  | .inr x, v => Value.isStrOf x v
def keyH (w : World) : Key → Int
  | .inl k => hashInt k
  | .inr x => hashStr w x
theorem keyIs_shape : ∀ {k : Key} {v : Value}, keyIs k v = true → (∃ i t, k = Sum.inl i ∧ v = Value.int i t) ∨ (∃ x t, k = Sum.inr x ∧ v = Value.str x t)
  | .inl i, v, h => by
    obtain ⟨t, e⟩ := Value.isInt_shape (k := i) (v := v) h
    exact .inl ⟨i, t, rfl, e⟩
  | .inr x, v, h => by
    obtain ⟨t, e⟩ := Value.isStrOf_shape (x := x) (v := v) h
    exact .inr ⟨x, t, rfl, e⟩
theorem key_ll (a b : Int) : decide ((Sum.inl a : Key) = Sum.inl b) = (a == b) := by
  by_cases e : a = b
  · subst e; simp
  · have h : ¬ (Sum.inl a : Key) = Sum.inl b := fun q => e (Sum.inl.inj q)
    rw [decide_eq_false h]
    exact (beq_eq_false_iff_ne.mpr e).symm
theorem key_rr (a b : Str) : decide ((Sum.inr a : Key) = Sum.inr b) = decide (a = b) := by
  by_cases e : a = b
  · subst e; simp
  · have h : ¬ (Sum.inr a : Key) = Sum.inr b := fun q => e (Sum.inr.inj q)
    rw [decide_eq_false h, decide_eq_false e]
theorem key_lr (a : Int) (b : Str) : decide ((Sum.inl a : Key) = Sum.inr b) = false := decide_eq_false (fun q => nomatch q)
theorem key_rl (a : Str) (b : Int) : decide ((Sum.inr a : Key) = Sum.inl b) = false := decide_eq_false (fun q => nomatch q)

def mixKind (prog : Program) (w : World) : PySem.KeyKind prog w Key where
  is := keyIs
  hash := keyH w
  inj := fun v a b ha hb => by
    rcases keyIs_shape ha with ⟨i, t, rfl, rfl⟩ | ⟨x, t, rfl, rfl⟩
    · rcases keyIs_shape hb with ⟨j, u, rfl, e⟩ | ⟨y, u, rfl, e⟩
      · injection e with e1 _; rw [e1]
      · exact nomatch e
    · rcases keyIs_shape hb with ⟨j, u, rfl, e⟩ | ⟨y, u, rfl, e⟩
      · exact nomatch e
      · injection e with e1 _; rw [e1]
  byValue := fun k v h => by
    rcases keyIs_shape h with ⟨i, t, rfl, rfl⟩ | ⟨x, t, rfl, rfl⟩ <;> rfl
  pyHash := fun hv h => by
    rcases keyIs_shape hv with ⟨i, t, rfl, rfl⟩ | ⟨x, t, rfl, rfl⟩
    · exact wpAny_pyHash_int h
    · exact wpAny_pyHash_str h
  eqBool := fun hu hv h => by
    rcases keyIs_shape hu with ⟨i, t, rfl, rfl⟩ | ⟨x, t, rfl, rfl⟩
    · rcases keyIs_shape hv with ⟨j, u, rfl, rfl⟩ | ⟨y, u, rfl, rfl⟩
      · rw [key_ll] at h; exact wpAny_eqBool_int h
      · rw [key_lr] at h; exact SeqAt.EqAt.int_str i t y u _ _ _ _ h
    · rcases keyIs_shape hv with ⟨j, u, rfl, rfl⟩ | ⟨y, u, rfl, rfl⟩
      · rw [key_rl] at h; exact SeqAt.EqAt.str_int x t j u _ _ _ _ h
      · rw [key_rr] at h; exact wpAny_eqBool_str h
  «strs» := fun k x t v h => by
    rcases keyIs_shape h with ⟨i, u, rfl, e⟩ | ⟨y, u, rfl, e⟩
    · exact nomatch e
    · injection e with e1 _
      subst e1
      cases v <;> rfl

end L2

namespace L2
open PySem PySem.Spec PyProof.Rows


inductive V where
  | non | bl (b : Bool) | int (i : Int) | str (x : Str) | byt (b : Array UInt8) | flt (b : UInt64) | ref (a : Addr) | ty (n : String)
  deriving DecidableEq

def RelV : V → Value → Prop
  | .non, u => u = Value.none
  | .bl b, u => u = Value.bool b
  | .int i, u => ∃ t, u = Value.int i t
  | .str x, u => ∃ t, u = Value.str x t
  | .byt b, u => ∃ t, u = Value.bytes b t
  | .flt b, u => ∃ t, u = Value.float b t
  | .ref a, u => u = Value.ref a
  | .ty n, u => u = Value.type n

abbrev Vals : List V → List Value → Prop := Paired RelV
theorem Vals.length {xs : List V} {us : List Value} (r : Vals xs us) : xs.length = us.length := Paired.length r
theorem Vals.get : ∀ {xs : List V} {us : List Value} {i : Nat} {x : V}, Vals xs us → xs[i]? = some x → ∃ u, us[i]? = some u ∧ RelV x u
  | _, _, _, _, .nil, e => by simp at e
  | _, _, 0, _, .cons r _, e => by simp at e; subst e; exact ⟨_, rfl, r⟩
  | _, _, i + 1, x, .cons _ t, e => by
    obtain ⟨u, h1, h2⟩ := Vals.get (i := i) (x := x) t (by simpa using e)
    exact ⟨u, by simpa using h1, h2⟩
theorem Vals.set {x : V} {u : Value} (r : RelV x u) : ∀ {xs : List V} {us : List Value} (i : Nat), Vals xs us → Vals (xs.set i x) (us.set i u)
  | _, _, _, .nil => .nil
  | _, _, 0, .cons _ t => .cons r t
  | _, _, i + 1, .cons q t => .cons q (Vals.set r i t)
theorem Vals.append : ∀ {xs ys : List V} {us ws : List Value}, Vals xs us → Vals ys ws → Vals (xs ++ ys) (us ++ ws)
  | _, _, _, _, .nil, s => s
  | _, _, _, _, .cons r t, s => .cons r (Vals.append t s)
theorem Vals.take : ∀ {xs : List V} {us : List Value} (n : Nat), Vals xs us → Vals (xs.take n) (us.take n)
  | _, _, 0, _ => .nil
  | _, _, _ + 1, .nil => .nil
  | _, _, n + 1, .cons r t => .cons r (Vals.take n t)
theorem Vals.drop : ∀ {xs : List V} {us : List Value} (n : Nat), Vals xs us → Vals (xs.drop n) (us.drop n)
  | _, _, 0, r => r
  | _, _, _ + 1, .nil => .nil
  | _, _, n + 1, .cons _ t => Vals.drop n t
theorem Vals.none_of : ∀ {xs : List V} {us : List Value} {i : Nat}, Vals xs us → xs[i]? = none → us[i]? = none := fun {xs us i} r e => by
  have h1 := r.length
  have h2 : xs.length ≤ i := List.getElem?_eq_none_iff.mp e
  exact List.getElem?_eq_none_iff.mpr (by omega)

def RelO : Option V → Option Value → Prop
  | some v, some u => RelV v u
  | none, none => True
  | _, _ => False
def KV {κ : Type} : List (κ × V) → List (κ × Value) → Prop := Paired fun (p : κ × V) (q : κ × Value) => p.1 = q.1 ∧ RelV p.2 q.2


def kV : Key → V
  | .inl i => .int i
  | .inr x => .str x


inductive HO where
  
  | lst (xs : List V)
  
  | tup (xs : List V)
  
  | dK (kvs : List (Key × V)) | dT (kvs : List (List Key × V))
  
  | set (S : Int → Bool) (n : Nat)
  
  | ins (C dx : Addr) (fs : List (Str × V))
  
  | own (x : Addr)
  
  | xd (fs : List (Str × V))
  
  | met (f x : Addr)
  
  | rng (lo hi : Int)
  
  | frz (o : Obj) (u : HO)
  
  | tbl (ps : Array Value)
  
  | ext (φ : Heap → Prop)

abbrev Hp := Addr → Option HO
def upd (H : Hp) (a : Addr) (o : HO) : Hp := fun b => if b = a then some o else H b
theorem upd_same {H : Hp} {a : Addr} {o : HO} : upd H a o a = some o := by unfold upd; rw [if_pos rfl]
theorem upd_ne {H : Hp} {a b : Addr} {o : HO} (h : b ≠ a) : upd H a o b = H b := by unfold upd; rw [if_neg h]
theorem ne_of {H : Hp} {a b : Addr} {o u : HO} (h : H a = some o) (h' : H b = some u) (d : o ≠ u) : a ≠ b := by
  intro e; subst e; rw [h] at h'; exact d (Option.some.inj h')
theorem ne_of_none {H : Hp} {a b : Addr} {o : HO} (h : H a = some o) (h' : H b = none) : a ≠ b := by
  intro e; subst e; rw [h] at h'; cases h'


def IsTupN (h : Heap) (a : Addr) (items : Array Value) : Prop := ∃ o, h.get? a = some o ∧ o.cls = .type "tuple" ∧ o.dict = none ∧ ∃ n, o.data = .seq items n
theorem IsTupN.tup {h : Heap} {a : Addr} {items : Array Value} (x : IsTupN h a items) : IsTup h a items := let ⟨o, e, c, _, d⟩ := x; ⟨o, e, c, d⟩
theorem IsTupN.lt {h : Heap} {a : Addr} {items : Array Value} (x : IsTupN h a items) : a < h.objs.size := x.tup.lt
theorem IsTupN.keep {h h' : Heap} {a : Addr} {items : Array Value} (x : IsTupN h a items) (k : ∀ o, h.get? a = some o → h'.get? a = some o) : IsTupN h' a items := let ⟨o, e, r⟩ := x; ⟨o, k o e, r⟩
theorem IsTupN.new (h : Heap) (items : Array Value) : IsTupN (h.push { cls := .type "tuple", data := .seq items }) h.objs.size items := ⟨_, Heap.get?_push_size _ rfl, rfl, rfl, _, rfl⟩
section
variable (P : Program) (w : World)
def ObjOk (H : Hp) (h : Heap) (a : Addr) : HO → Prop
  | .lst xs => xs.length ≤ sizeLine ∧ ∃ (its : List Value) (n : Nat), Vals xs its ∧ h.get? a = some { cls := .type "list", data := .seq its.toArray n }
  | .tup xs => xs.length ≤ sizeLine ∧ ∃ its : List Value, Vals xs its ∧ IsTupN h a its.toArray
  | .dK kvs => kvs.length ≤ sizeLine ∧ (a == sysModules) = false ∧ ∃ vs, KV kvs vs ∧ h.DictOf (mixKind P w) a vs
  | .dT kvs => kvs.length ≤ sizeLine ∧ (a == sysModules) = false ∧ ∃ xs : List (List Key × Addr × Value),
      Paired (fun (p : List Key × V) (q : List Key × Addr × Value) => p.1 = q.1 ∧ H q.2.1 = some (.tup (p.1.map kV)) ∧ RelV p.2 q.2.2) kvs xs ∧
      ∃ o es ep, h.get? a = some o ∧ o.ExactDict ∧ o.data = .dict es ep ∧ es.toList = xs.map (entryOfKey (tupleKind (mixKind P w))) ∧ (xs.map (·.1)).Nodup
  | .set S n => h.SetOf (intKind P w) a S n
  | .ins C dx fs => H dx = some (.own a) ∧ fs.length ≤ 1000 ∧ dx ≠ a ∧ h.get? a = some (PySem.W.instObj C dx) ∧
      ∃ mA, h.Ns1 dx mA ∧ (∀ f, RelO (fs.lookup f) (mA f)) ∧ PySem.Within mA (fs.map (·.1))
  | .own _ => ∃ o, h.get? a = some o
  | .xd fs => ∃ mA, h.Ns1 a mA ∧ ∀ f, RelO (fs.lookup f) (mA f)
  | .rng lo hi => ∃ t u v, h.get? a = some { cls := .type "range", data := .fields #[.int lo t, .int hi u, .int 1 v] }
  | .frz o u => h.get? a = some o ∧ ObjOk H h a u
  | .tbl ps => h.get? a = some { cls := .none, data := .fields ps }
  | .met f x => h.get? a = some (PySem.W.methodObj (.ref f) (.ref x))
  | .ext φ => φ h ∧ (∃ o, h.get? a = some o) ∧ ∀ h1 h2 : Heap, φ h1 → (∀ o, h1.get? a = some o → h2.get? a = some o) → φ h2

def HOk (H : Hp) (h : Heap) : Prop := ∀ a o, H a = some o → ObjOk P w H h a o
end

section
variable {P : Program} {w : World} {H H' : Hp} {h h' : Heap} {a : Addr} {o : HO}
theorem ObjOk.lt (x : ObjOk P w H h a o) : a < h.objs.size := by
  cases o with
  | lst xs => obtain ⟨_, _, _, _, e⟩ := x; exact Heap.lt_size e
  | tup xs => obtain ⟨_, _, _, p⟩ := x; exact p.lt
  | dK kvs => obtain ⟨_, _, _, _, o, _, _, e, _⟩ := x; exact Heap.lt_size e
  | dT kvs => obtain ⟨_, _, _, _, o, _, _, e, _⟩ := x; exact Heap.lt_size e
  | set S n => obtain ⟨o, _, _, _, e, _⟩ := x; exact Heap.lt_size e
  | ins C dx fs => obtain ⟨_, _, _, e, _⟩ := x; exact Heap.lt_size e
  | own y => obtain ⟨_, e⟩ := x; exact Heap.lt_size e
  | xd fs => obtain ⟨_, ⟨_, _, _, e, _⟩, _⟩ := x; exact Heap.lt_size e
  | rng lo hi => obtain ⟨_, _, _, e⟩ := x; exact Heap.lt_size e
  | frz ob u => obtain ⟨e, _⟩ := x; exact Heap.lt_size e
  | tbl ps => exact Heap.lt_size (show h.get? a = some _ from x)
  | met f y => exact Heap.lt_size (show h.get? a = some _ from x)
  | ext φ => obtain ⟨_, ⟨_, e⟩, _⟩ := x; exact Heap.lt_size e
theorem Paired.mapP {α β : Type} {F G : α → β → Prop} : ∀ {l₁ : List α} {l₂ : List β}, Paired F l₁ l₂ → (∀ a b, F a b → G a b) → Paired G l₁ l₂
  | _, _, .nil, _ => .nil
  | _, _, .cons r t, f => .cons (f _ _ r) (Paired.mapP t f)
theorem ObjOk.stay (x : ObjOk P w H h a o) (k : ∀ b u, (b = a ∨ H b = some (.own a)) → h.get? b = some u → h'.get? b = some u)
    (ho : ∀ b, H b = some (.own a) → H' b = some (.own a)) (ht : ∀ b xs, H b = some (.tup xs) → H' b = some (.tup xs)) : ObjOk P w H' h' a o := by
  induction o with
  | lst xs => obtain ⟨z, its, n, r, e⟩ := x; exact ⟨z, its, n, r, k _ _ (.inl rfl) e⟩
  | tup xs => obtain ⟨z, its, r, ob, e, c⟩ := x; exact ⟨z, its, r, ob, k _ _ (.inl rfl) e, c⟩
  | dK kvs => obtain ⟨z, y, vs, r, ob, es, ep, e, c⟩ := x; exact ⟨z, y, vs, r, ob, es, ep, k _ _ (.inl rfl) e, c⟩
  | dT kvs =>
    obtain ⟨z, y, xs, r, ob, es, ep, e, c⟩ := x
    exact ⟨z, y, xs, Paired.mapP r fun p q z => ⟨z.1, ht _ _ z.2.1, z.2.2⟩, ob, es, ep, k _ _ (.inl rfl) e, c⟩
  | set S n => obtain ⟨ob, es, ep, t, e, c⟩ := x; exact ⟨ob, es, ep, t, k _ _ (.inl rfl) e, c⟩
  | ins C dx fs =>
    obtain ⟨d, z, ne, e, mA, ⟨od, es, ep, e2, c⟩, r⟩ := x
    exact ⟨ho _ d, z, ne, k _ _ (.inl rfl) e, mA, ⟨od, es, ep, k _ _ (.inr d) e2, c⟩, r⟩
  | own y => obtain ⟨ob, e⟩ := x; exact ⟨ob, k _ _ (.inl rfl) e⟩
  | xd fs => obtain ⟨mA, ⟨od, es, ep, e, c⟩, r⟩ := x; exact ⟨mA, ⟨od, es, ep, k _ _ (.inl rfl) e, c⟩, r⟩
  | rng lo hi => obtain ⟨t, u, v, e⟩ := x; exact ⟨t, u, v, k _ _ (.inl rfl) e⟩
  | frz ob u ih => obtain ⟨e, q⟩ := x; exact ⟨k _ _ (.inl rfl) e, ih q⟩
  | tbl ps =>
    have e : h.get? a = some { cls := .none, data := .fields ps } := x
    show h'.get? a = some { cls := .none, data := .fields ps }
    exact k a _ (.inl rfl) e
  | met f y =>
    have e : h.get? a = some (PySem.W.methodObj (.ref f) (.ref y)) := x
    show h'.get? a = some (PySem.W.methodObj (.ref f) (.ref y))
    exact k a _ (.inl rfl) e
  | ext φ => obtain ⟨p, ⟨o, e⟩, st⟩ := x; exact ⟨st _ _ p fun o q => k _ _ (.inl rfl) q, ⟨o, k _ _ (.inl rfl) e⟩, st⟩
theorem HOk.lt (x : HOk P w H h) (e : H a = some o) : a < h.objs.size := (x a o e).lt
theorem HOk.fresh (x : HOk P w H h) (e : h.objs.size ≤ a) : H a = none := by
  cases q : H a with
  | none => rfl
  | some u => exact absurd (Nat.lt_of_lt_of_le (x.lt q) e) (Nat.lt_irrefl _)

theorem HOk.kept (x : HOk P w H h) (k : ∀ b u, h.get? b = some u → h'.get? b = some u) : HOk P w H h' := fun a o e =>
  (x a o e).stay (fun b u _ q => k b u q) (fun _ q => q) fun _ _ q => q

theorem HOk.laid (x : HOk P w H h) (k : ∀ b u, h.get? b = some u → h'.get? b = some u) (hp : h.objs.size ≤ a) (new : ObjOk P w (upd H a o) h' a o) : HOk P w (upd H a o) h' := fun b u e => by
  have hn := x.fresh hp
  by_cases hb : b = a
  · subst hb; rw [upd_same] at e; cases e; exact new
  · rw [upd_ne hb] at e
    exact (x b u e).stay (fun c v _ q => k c v q) (fun c q => by rw [upd_ne (ne_of_none q hn)]; exact q) fun c xs q => by rw [upd_ne (ne_of_none q hn)]; exact q
end


def Rd (H : Hp) (a : Addr) (u : HO) : Prop := H a = some u ∨ ∃ o, H a = some (.frz o u)
theorem Rd.of {H : Hp} {a : Addr} {u : HO} (h : H a = some u) : Rd H a u := .inl h
theorem Rd.ok {P : Program} {w : World} {H : Hp} {h : Heap} {a : Addr} {u : HO} (r : Rd H a u) (x : HOk P w H h) : ObjOk P w H h a u := by
  rcases r with r | ⟨o, r⟩
  · exact x a u r
  · obtain ⟨_, q⟩ := x a _ r
    exact q

def Mut : Option HO → Prop
  | some (.lst _) => True
  | some (.dK _) => True
  | some (.dT _) => True
  | some (.set _ _) => True
  | some (.ins _ _ _) => True
  | some (.ext _) => True
  | _ => False
section
variable {P : Program} {w : World} {H : Hp} {h h' : Heap} {x e : Addr} {o' : HO}

theorem HOk.write (ok : HOk P w H h) (mu : Mut (H x)) (he : e = x ∨ H e = some (.own x)) (k : ∀ b u, b ≠ e → h.get? b = some u → h'.get? b = some u) (heo : ∃ u, h'.get? e = some u)
    (new : ObjOk P w (upd H x o') h' x o') : HOk P w (upd H x o') h' := fun b u q => by
  have nown : ∀ c y, H c = some (.own y) → c ≠ x := fun c y r z => by subst z; rw [r] at mu; exact mu
  have ntup : ∀ c xs, H c = some (.tup xs) → c ≠ x := fun c xs r z => by subst z; rw [r] at mu; exact mu
  by_cases hb : b = x
  · subst hb; rw [upd_same] at q; cases q; exact new
  · rw [upd_ne hb] at q
    by_cases hbe : b = e
    · have q' : H b = some (.own x) := by
        rcases he with z | z
        · exact absurd (hbe.trans z) hb
        · rw [hbe]; exact z
      rw [q] at q'; cases q'
      obtain ⟨v, hv⟩ := heo
      exact ⟨v, by rw [hbe]; exact hv⟩
    · refine (ok b u q).stay (fun c v hc r => k c v ?_ r) (fun c r => by rw [upd_ne (nown c b r)]; exact r) fun c xs r => by rw [upd_ne (ntup c xs r)]; exact r
      rcases hc with rfl | hc
      · exact hbe
      · rintro rfl
        rcases he with z | z
        · exact nown c b hc z
        · rw [hc] at z; cases z; exact hb rfl
end


structure Un (fs ex : List Addr) (H H' : Hp) (h h' : Heap) : Prop where
  keep : ∀ b o, h.get? b = some o → H b = none → b ∉ fs → b ∉ ex → h'.get? b = some o
  slot : ∀ b o, h.get? b = some o → H b = none → b ∈ fs → b ∉ ex → ∃ sl, h'.get? b = some { o with slots := sl }
  free : ∀ b o, h.get? b = some o → H b = none → b ∉ ex → H' b = none
  there : ∀ b o, h.get? b = some o → b ∉ ex → ∃ o', h'.get? b = some o'
  tups : ∀ b xs, H b = some (.tup xs) → H' b = some (.tup xs)
  frzs : ∀ b o u, H b = some (.frz o u) → H' b = some (.frz o u)
  tbls : ∀ b ps, H b = some (.tbl ps) → ∃ more, H' b = some (.tbl (ps ++ more))
section
variable {fs fs' ex ex' : List Addr} {H H1 H2 : Hp} {h h1 h2 h' : Heap} {a x e : Addr} {o : HO}
theorem Un.any (u : Un fs ex H H1 h h1) {b : Addr} {ob : Obj} (q : h.get? b = some ob) (n : H b = none) (hx : b ∉ ex) : ∃ sl, h1.get? b = some { ob with slots := sl } := by
  by_cases hb : b ∈ fs
  · exact u.slot b ob q n hb hx
  · exact ⟨ob.slots, u.keep b ob q n hb hx⟩
theorem Un.trans (a : Un fs ex H H1 h h1) (b : Un fs ex H1 H2 h1 h2) : Un fs ex H H2 h h2 where
  keep := fun c ob q n hc hx => b.keep c ob (a.keep c ob q n hc hx) (a.free c ob q n hx) hc hx
  slot := fun c ob q n hc hx => by
    obtain ⟨sl, e1⟩ := a.slot c ob q n hc hx
    obtain ⟨sl', e2⟩ := b.slot c _ e1 (a.free c ob q n hx) hc hx
    exact ⟨sl', e2⟩
  free := fun c ob q n hx => by
    obtain ⟨o', e1⟩ := a.there c ob q hx
    exact b.free c o' e1 (a.free c ob q n hx) hx
  there := fun c ob q hx => by
    obtain ⟨o', e1⟩ := a.there c ob q hx
    exact b.there c o' e1 hx
  tups := fun c xs q => b.tups c xs (a.tups c xs q)
  frzs := fun c ob xs q => b.frzs c ob xs (a.frzs c ob xs q)
  tbls := fun c ps q => by
    obtain ⟨m1, e1⟩ := a.tbls c ps q
    obtain ⟨m2, e2⟩ := b.tbls c _ e1
    exact ⟨m1 ++ m2, by rw [e2, Array.append_assoc]⟩
theorem Un.kept (k : ∀ b u, h.get? b = some u → h'.get? b = some u) : Un fs ex H H h h' :=
  ⟨fun b ob q _ _ _ => k b ob q, fun b ob q _ _ _ => ⟨ob.slots, k b ob q⟩, fun _ _ _ n _ => n, fun b ob q _ => ⟨ob, k b ob q⟩, fun _ _ q => q, fun _ _ _ q => q, fun _ ps q => ⟨#[], by rw [q]; simp⟩⟩
theorem Un.refl : Un fs ex H H h h := Un.kept fun _ _ q => q
theorem Un.laid (k : ∀ b u, h.get? b = some u → h'.get? b = some u) (hp : h.objs.size ≤ a) (hn : H a = none) : Un fs ex H (upd H a o) h h' where
  keep := fun b u q _ _ _ => k b u q
  slot := fun b u q _ _ _ => ⟨u.slots, k b u q⟩
  free := fun b u q n _ => by rw [upd_ne (Nat.ne_of_lt (Nat.lt_of_lt_of_le (Heap.lt_size q) hp))]; exact n
  there := fun b u q _ => ⟨u, k b u q⟩
  tups := fun b xs q => by rw [upd_ne (ne_of_none q hn)]; exact q
  frzs := fun b u xs q => by rw [upd_ne (ne_of_none q hn)]; exact q
  tbls := fun b ps q => ⟨#[], by rw [upd_ne (ne_of_none q hn), q]; simp⟩
theorem Un.write (mu : Mut (H x)) (he : e = x ∨ H e = some (.own x)) (k : ∀ b u, b ≠ e → h.get? b = some u → h'.get? b = some u) (heo : ∃ u, h'.get? e = some u) : Un fs ex H (upd H x o) h h' := by
  have hx : ∀ b, H b = none → b ≠ x := fun b n z => by subst z; rw [n] at mu; exact mu
  have hb : ∀ b, H b = none → b ≠ e := fun b n z => by
    subst z
    rcases he with r | r
    · exact hx b n r
    · rw [n] at r; cases r
  have hm : ∀ b u, H b = some u → ¬ Mut (some u) → b ≠ x := fun b u q nm z => by subst z; rw [q] at mu; exact nm mu
  refine ⟨fun b u q n _ _ => k b u (hb b n) q, fun b u q n _ _ => ⟨u.slots, k b u (hb b n) q⟩, fun b u q n _ => by rw [upd_ne (hx b n)]; exact n, fun b u q _ => ?_,
    fun b xs q => by rw [upd_ne (hm b _ q fun z => z)]; exact q, fun b u xs q => by rw [upd_ne (hm b _ q fun z => z)]; exact q, fun b ps q => ⟨#[], by rw [upd_ne (hm b _ q fun z => z), q]; simp⟩⟩
  by_cases hbe : b = e
  · subst hbe; exact heo
  · exact ⟨u, k b u hbe q⟩
theorem Un.mono (u : Un fs ex H H1 h h1) (hs : ∀ b ∈ fs, b ∈ fs') (hx : ∀ b ∈ ex, b ∈ ex') : Un fs' ex' H H1 h h1 :=
  ⟨fun b ob q n hb he => u.keep b ob q n (fun z => hb (hs b z)) fun z => he (hx b z), fun _ _ q n _ he => u.any q n fun z => he (hx _ z), fun b ob q n he => u.free b ob q n fun z => he (hx b z), fun b ob q he => u.there b ob q fun z => he (hx b z), u.tups, u.frzs, u.tbls⟩
end


def trk (h : Heap) (H : Hp) : List Addr := (List.range h.objs.size).filter fun a => (H a).isSome
def hidT (h : Heap) (H : Hp) : Heap := PySem.W.hideAll h (trk h H)
theorem hidT_size (h : Heap) (H : Hp) : (hidT h H).objs.size = h.objs.size := PySem.W.hideAll_size _ _
theorem hidT_get {h : Heap} {H : Hp} {b : Addr} {o : Obj} (e : h.get? b = some o) (n : H b = none) : (hidT h H).get? b = some o :=
  PySem.W.hideAll_get _ e fun hm => by
    have q : (H b).isSome = true := (List.mem_filter.mp hm).2
    rw [n] at q; simp at q
theorem of_hidT {h : Heap} {H : Hp} {b : Addr} {o : Obj} (e : (hidT h H).get? b = some o) : h.get? b = some o ∧ H b = none := by
  have e' : h.get? b = some o := PySem.W.of_hideAll (trk h H) e
  refine ⟨e', ?_⟩
  cases q : H b with
  | none => rfl
  | some x =>
    have hm : b ∈ trk h H := List.mem_filter.mpr ⟨List.mem_range.mpr (Heap.lt_size e'), by simp [q]⟩
    have z : (hidT h H).get? b = none := PySem.W.hideAll_none (trk h H) hm
    rw [z] at e; cases e


def allNews (g h : Heap) (L : Addr) : List (Addr × Obj) := (List.range h.objs.size).filterMap fun a => if a = L ∨ (g.get? a).isSome = true then none else (h.get? a).map fun o => (a, o)
def rest (g h : Heap) (L d : Addr) : List (Addr × Obj) := (allNews g h L).filter fun p => decide (p.1 ≠ d)
end L2

namespace L2
open PySem PySem.Spec PyProof.Rows


structure Mod (K : PySem.W.Frag) (mg : Str → Option Value) (base : Heap) : Prop where
  kin : K.In base
  glob : base.Ns mainGlobals mg
  blt : ∃ mb, base.Ns builtinsNs mb ∧ ∀ x : Str, x ≠ "__name__" → mb x = bootBuiltins x
  nolimit : base.NoLimit


structure Cx where
  prog : Program
  w : World
  K : PySem.W.Frag
  mg : Str → Option Value
  base : Heap
  A : Around
  N : List Str
  s₀ : Shared
  H₀ : Hp
  env : Env
  outer : List Env
  stack : List Env
  ex : List Addr
  fn : Str → Bool
  calm : Bool
  pn : List (Addr × Obj)
  xe : Value → Shared → Prop

def frs (l : List Env) : List Addr := l.filterMap (·.frame)
abbrev Cx.fs (X : Cx) : List Addr := frs X.outer

def Vis (sc : Scope) (x : Str) : Prop := sc.names.lookup x = some .local ∨ sc.names.lookup x = some .cell ∨ sc.names.lookup x = some .free
def Loc (sc : Scope) (x : Str) : Prop := sc.names.lookup x = some .local ∨ sc.names.lookup x = some .cell
def Look (env : Env) (h : Heap) (m : Str → Option Value) (x : Str) (u : Value) : Prop :=
  (env.kindOf x = some .local ∧ m x = some u) ∨ ((env.kindOf x = some .cell ∨ env.kindOf x = some .free) ∧ ∃ c, env.cells.lookup x = some c ∧ h.IsCell c (some u))

structure Cx.Ok (X : Cx) : Prop where
  mod : Mod X.K X.mg X.base
  kind : X.env.scope.kind = .function
  glob : X.env.globals = mainGlobals
  blt : X.env.builtins = builtinsNs
  above : X.s₀.heap.objs.size ≤ X.env.locals
  inj : ∀ x y c, X.env.cells.lookup x = some c → X.env.cells.lookup y = some c → x = y
  has : ∀ x, (X.env.kindOf x = some .cell ∨ X.env.kindOf x = some .free) → ∃ c, X.env.cells.lookup x = some c
  cab : ∀ x c, X.fn x = true → X.env.cells.lookup x = some c → X.s₀.heap.objs.size ≤ c
  hd : X.calm = true → X.A.handled = none
  frames : X.A.frames = some X.stack
  stk : X.stack = X.outer ∨ (X.stack = X.env :: X.outer ∧ X.env.frame = some X.env.locals)
  exf : ∀ b ∈ X.ex, b ≠ X.env.locals ∧ ∀ x c, X.env.cells.lookup x = some c → c ≠ b
  bs : ∀ b o, X.base.get? b = some o → X.s₀.heap.get? b = some o ∧ X.H₀ b = none
  bsz : X.base.objs.size ≤ X.s₀.heap.objs.size
  noex : ∀ b o, X.base.get? b = some o → b ∉ X.ex
  exfs : ∀ b ∈ X.ex, b ∉ X.fs
  funs : X.s₀.heap.FunFrames X.base X.outer
  frf : ∀ b ∈ X.fs, X.H₀ b = none

structure Inv (X : Cx) (pins : List (Addr × Obj)) (σ : List (Option V)) (H : Hp) (s : Shared) : Prop where
  ok : X.Ok
  os : s.os = X.s₀.os
  bare : AllBare s.gens
  base : Un X.fs X.ex X.H₀ H X.s₀.heap s.heap
  loc : ∃ m, s.heap.Ns X.env.locals m ∧ ∀ (i : Nat) (x : Str) (v : V), X.N[i]? = some x → σ[i]? = some (some v) → Vis X.env.scope x → ∃ u, RelV v u ∧ Look X.env s.heap m x u
  cell : ∀ x c, X.env.cells.lookup x = some c → ∃ v, s.heap.IsCell c v
  free : H X.env.locals = none
  freeC : ∀ x c, X.env.cells.lookup x = some c → H c = none
  pin : ∀ p ∈ X.pn ++ pins, s.heap.get? p.1 = some p.2 ∧ H p.1 = none ∧ p.1 ≠ X.env.locals ∧ p.1 ∉ X.fs ∧ ∀ v, p.2.data ≠ .cell v
  hok : HOk X.prog X.w H s.heap
  len : σ.length = X.N.length

section
variable {X : Cx} {pins : List (Addr × Obj)} {σ : List (Option V)} {H H' : Hp} {s : Shared} {h' : Heap}

theorem Cx.Ok.nofr (ok : X.Ok) {b : Addr} {o : Obj} (e : X.base.get? b = some o) : b ∉ X.fs := fun hb => by
  have := (ok.funs.mem hb).1
  rw [e] at this; cases this
theorem Inv.bs (I : Inv X pins σ H s) : ∀ b o, X.base.get? b = some o → s.heap.get? b = some o ∧ H b = none := fun b o e =>
  ⟨I.base.keep b o (I.ok.bs b o e).1 (I.ok.bs b o e).2 (I.ok.nofr e) (I.ok.noex b o e), I.base.free b o (I.ok.bs b o e).1 (I.ok.bs b o e).2 (I.ok.noex b o e)⟩
theorem Inv.bk (I : Inv X pins σ H s) : ∀ b o, X.base.get? b = some o → s.heap.get? b = some o := fun b o e => (I.bs b o e).1
theorem Inv.mod (I : Inv X pins σ H s) : Mod X.K X.mg X.base := I.ok.mod
theorem Inv.kIn (I : Inv X pins σ H s) : X.K.In s.heap := I.ok.mod.kin.keeps I.bk
theorem Inv.nolimit (I : Inv X pins σ H s) : s.heap.NoLimit := I.ok.mod.nolimit.keeps I.bk

theorem Inv.fr (I : Inv X pins σ H s) : ∃ m, Fr X.base X.env.locals s.heap m :=
  let ⟨m, hn, _⟩ := I.loc
  ⟨m, hn, I.bk, Nat.le_trans I.ok.bsz I.ok.above⟩
theorem Inv.lt (I : Inv X pins σ H s) : X.env.locals < s.heap.objs.size := let ⟨_, hn, _⟩ := I.loc; hn.lt
theorem Inv.sz (I : Inv X pins σ H s) : X.s₀.heap.objs.size ≤ s.heap.objs.size := Nat.le_trans I.ok.above (Nat.le_of_lt I.lt)
theorem Inv.nofs (I : Inv X pins σ H s) {a : Addr} (h : s.heap.objs.size ≤ a) : a ∉ X.fs := fun hb => by
  obtain ⟨_, o, ho, _⟩ := I.ok.funs.mem hb
  exact absurd (Nat.lt_of_lt_of_le (Heap.lt_size ho) (Nat.le_trans I.sz h)) (Nat.lt_irrefl _)
theorem Inv.cne (I : Inv X pins σ H s) : ∀ x c, X.env.cells.lookup x = some c → c ≠ X.env.locals := fun x c e z => by
  obtain ⟨v, o, ho, hd⟩ := I.cell x c e
  obtain ⟨m, ⟨o', es, ep, ho', hd', _⟩, _⟩ := I.loc
  rw [z, ho'] at ho; cases ho; rw [hd'] at hd; cases hd
theorem Inv.funs (I : Inv X pins σ H s) : s.heap.FunFrames X.base X.outer := by
  have all : ∀ (l : List Env), (∀ b ∈ frs l, b ∈ X.fs) → X.s₀.heap.FunFrames X.base l → s.heap.FunFrames X.base l := by
    intro l
    induction l with
    | nil => intro _ _; trivial
    | cons env r ih =>
      intro hs hl
      obtain ⟨hk, ⟨L, o, hf, hn, ho, hd⟩, hr⟩ := hl
      have hL : L ∈ X.fs := hs L (by unfold frs; rw [List.filterMap_cons, hf]; exact List.mem_cons_self)
      obtain ⟨sl, e⟩ := I.base.slot L o ho (I.ok.frf L hL) hL fun z => I.ok.exfs L z hL
      exact ⟨hk, ⟨L, _, hf, hn, e, hd⟩, ih (fun b hb => hs b (by unfold frs; rw [List.filterMap_cons, hf]; exact List.mem_cons_of_mem _ hb)) hr⟩
  exact all X.outer (fun _ hb => hb) I.ok.funs


theorem Inv.stack (I : Inv X pins σ H s) : s.heap.FunFrames X.base X.stack := by
  rcases I.ok.stk with e | ⟨e, hf⟩
  · rw [e]; exact I.funs
  · rw [e]
    obtain ⟨m, hn, _⟩ := I.loc
    refine .cons (by rw [I.ok.kind]; decide) hf hn ?_ I.funs
    exact Heap.get?_none_of_le (Nat.le_trans I.ok.bsz I.ok.above)
theorem Inv.stkSub (I : Inv X pins σ H s) : ∀ b ∈ frs X.stack, b ∈ X.env.locals :: X.fs := fun b hb => by
  rcases I.ok.stk with e | ⟨e, hf⟩
  · rw [e] at hb; exact List.mem_cons_of_mem _ hb
  · rw [e] at hb
    unfold frs at hb
    rw [List.filterMap_cons, hf] at hb
    exact hb
theorem Inv.stkFree (I : Inv X pins σ H s) : ∀ b ∈ frs X.stack, H b = none := fun b hb => by
  rcases List.mem_cons.mp (I.stkSub b hb) with e | hb
  · rw [e]; exact I.free
  · obtain ⟨_, o, ho, _⟩ := I.ok.funs.mem hb
    exact I.base.free b o ho (I.ok.frf b hb) fun z => I.ok.exfs b z hb


theorem Inv.step {g' : Array GenState} {t' : Nat} {d' : Drawn} {ch : List Addr} (I : Inv X pins σ H s)
    (hch : ∀ b ∈ ch, (b ∈ X.ex ∨ X.s₀.heap.objs.size ≤ b) ∧ b ≠ X.env.locals ∧ (∀ x c, X.env.cells.lookup x = some c → c ≠ b) ∧ ∀ p ∈ X.pn ++ pins, p.1 ≠ b)
    (keep : ∀ b o, b ≠ X.env.locals → b ∉ X.fs → b ∉ ch → s.heap.get? b = some o → H b = none → h'.get? b = some o)
    (slot : ∀ b o, b ≠ X.env.locals → b ∈ X.fs → b ∉ ch → s.heap.get? b = some o → H b = none → ∃ sl, h'.get? b = some { o with slots := sl }) (free : ∀ b o, b ∉ ch → s.heap.get? b = some o → H b = none → H' b = none)
    (there : ∀ b o, b ∉ ch → s.heap.get? b = some o → ∃ o', h'.get? b = some o')
    (tups : ∀ b xs, H b = some (.tup xs) → H' b = some (.tup xs)) (frzs : ∀ b o u, H b = some (.frz o u) → H' b = some (.frz o u)) (tbls : ∀ b ps, H b = some (.tbl ps) → ∃ more, H' b = some (.tbl (ps ++ more)))
    (ns : ∀ m, s.heap.Ns X.env.locals m → h'.Ns X.env.locals m) (hok : HOk X.prog X.w H' h') (hg : AllBare g') :
    Inv X pins σ H' { s with heap := h', gens := g', drawn := d', toks := t' } := by
  have neL : ∀ b o, X.s₀.heap.get? b = some o → b ≠ X.env.locals := fun b o e => Nat.ne_of_lt (Nat.lt_of_lt_of_le (Heap.lt_size e) I.ok.above)
  have neC : ∀ b o, X.s₀.heap.get? b = some o → b ∉ X.ex → b ∉ ch := fun b o e hx hb => by
    rcases (hch b hb).1 with z | z
    · exact hx z
    · exact absurd (Nat.lt_of_lt_of_le (Heap.lt_size e) z) (Nat.lt_irrefl _)
  have cellK : ∀ x c, X.env.cells.lookup x = some c → ∀ v, s.heap.IsCell c v → h'.IsCell c v := fun x c e v ⟨o, ho, hd⟩ => by
    have nch : c ∉ ch := fun z => (hch c z).2.2.1 x c e rfl
    by_cases hc : c ∈ X.fs
    · obtain ⟨sl, q⟩ := slot c o (I.cne x c e) hc nch ho (I.freeC x c e)
      exact ⟨_, q, hd⟩
    · exact ⟨o, keep c o (I.cne x c e) hc nch ho (I.freeC x c e), hd⟩
  refine ⟨I.ok, I.os, hg, ⟨fun b o e n hb hx => ?_, fun b o e n hb hx => ?_, fun b o e n hx => ?_, fun b o e hx => ?_, fun b xs e => tups b xs (I.base.tups b xs e), fun b o xs e => frzs b o xs (I.base.frzs b o xs e), fun b ps e => ?_⟩, ?_, fun x c e => ?_, ?_, fun x c e => ?_, fun p hp => ?_, hok, I.len⟩
  · exact keep b o (neL b o e) hb (neC b o e hx) (I.base.keep b o e n hb hx) (I.base.free b o e n hx)
  · obtain ⟨sl, e1⟩ := I.base.slot b o e n hb hx
    obtain ⟨sl', e2⟩ := slot b _ (neL b o e) hb (neC b o e hx) e1 (I.base.free b o e n hx)
    exact ⟨sl', e2⟩
  · obtain ⟨o', e1⟩ := I.base.there b o e hx
    exact free b o' (neC b o e hx) e1 (I.base.free b o e n hx)
  · obtain ⟨o', e1⟩ := I.base.there b o e hx
    exact there b o' (neC b o e hx) e1
  · obtain ⟨m1, e1⟩ := I.base.tbls b ps e
    obtain ⟨m2, e2⟩ := tbls b _ e1
    exact ⟨m1 ++ m2, by rw [e2, Array.append_assoc]⟩
  · obtain ⟨m, hn, hl⟩ := I.loc
    refine ⟨m, ns m hn, fun i x v e1 e2 e3 => ?_⟩
    obtain ⟨u, r, l⟩ := hl i x v e1 e2 e3
    refine ⟨u, r, ?_⟩
    rcases l with l | ⟨k, c, e, z⟩
    · exact .inl l
    · exact .inr ⟨k, c, e, cellK x c e _ z⟩
  · obtain ⟨v, z⟩ := I.cell x c e
    exact ⟨v, cellK x c e v z⟩
  · obtain ⟨m, ⟨o, _, _, ho, _⟩, _⟩ := I.loc
    exact free _ o (fun z => (hch _ z).2.1 rfl) ho I.free
  · obtain ⟨v, o, ho, hd⟩ := I.cell x c e
    exact free c o (fun z => (hch c z).2.2.1 x c e rfl) ho (I.freeC x c e)
  · obtain ⟨e, n, ne, nf, d⟩ := I.pin p hp
    have nch : p.1 ∉ ch := fun z => (hch p.1 z).2.2.2 p hp rfl
    exact ⟨keep p.1 p.2 ne nf nch e n, free p.1 p.2 nch e n, ne, nf, d⟩

theorem Inv.un {t' : Nat} (I : Inv X pins σ H s) (u : Un X.fs [] H H' s.heap h') (hok : HOk X.prog X.w H' h') : Inv X pins σ H' { s with heap := h', toks := t' } := by
  obtain ⟨m, ⟨o, es, ep, ho, r⟩, _⟩ := id I.loc
  obtain ⟨sl, hL⟩ := u.any ho I.free (by simp)
  exact I.step (g' := s.gens) (d' := s.drawn) (ch := []) (fun _ z => nomatch z) (fun b o _ hb _ e n => u.keep b o e n hb (by simp)) (fun b o _ hb _ e n => u.slot b o e n hb (by simp)) (fun b o _ e n => u.free b o e n (by simp)) (fun b o _ e => u.there b o e (by simp)) u.tups u.frzs u.tbls (fun m' hm => by
    obtain ⟨o', es', ep', ho', r'⟩ := hm
    rw [ho] at ho'; cases ho'
    exact ⟨_, es', ep', hL, r'⟩) hok I.bare

theorem Inv.call {g' : Array GenState} {t' : Nat} {d' : Drawn} {ch : List Addr} (I : Inv X pins σ H s) (u : Un (frs X.stack) ch H H' s.heap h') (hok : HOk X.prog X.w H' h') (hg : AllBare g')
    (hch : ∀ b ∈ ch, (b ∈ X.ex ∨ X.s₀.heap.objs.size ≤ b) ∧ b ≠ X.env.locals ∧ (∀ x c, X.env.cells.lookup x = some c → c ≠ b) ∧ ∀ p ∈ X.pn ++ pins, p.1 ≠ b) :
    Inv X pins σ H' { s with heap := h', gens := g', drawn := d', toks := t' } := by
  obtain ⟨m, ⟨o, es, ep, ho, r⟩, _⟩ := id I.loc
  obtain ⟨sl, hL⟩ := u.any ho I.free fun z => (hch _ z).2.1 rfl
  exact I.step (ch := ch) hch (fun b o hL hb hc e n => u.keep b o e n (fun z => (List.mem_cons.mp (I.stkSub b z)).elim hL hb) hc) (fun b o _ _ hc e n => u.any e n hc) (fun b o hc e n => u.free b o e n hc) (fun b o hc e => u.there b o e hc) u.tups u.frzs u.tbls (fun m' hm => by
    obtain ⟨o', es', ep', ho', r'⟩ := hm
    rw [ho] at ho'; cases ho'
    exact ⟨_, es', ep', hL, r'⟩) hok hg

theorem Inv.turned {t' : Nat} {it : Addr} (I : Inv X pins σ H s) (k : ∀ b o, b ≠ it → s.heap.get? b = some o → h'.get? b = some o) (hn : H it = none) (hL : it ≠ X.env.locals)
    (h1 : it ∈ X.ex ∨ X.s₀.heap.objs.size ≤ it) (h2 : ∀ x c, X.env.cells.lookup x = some c → c ≠ it) (h3 : ∀ p ∈ X.pn ++ pins, p.1 ≠ it) : Inv X pins σ H { s with heap := h', toks := t' } := by
  have nit : ∀ b u, H b = some u → b ≠ it := fun b u e z => by rw [z, hn] at e; cases e
  refine I.step (g' := s.gens) (d' := s.drawn) (ch := [it]) (fun b hb => ?_) (fun b o _ _ hc e _ => k b o (fun z => hc (by simp [z])) e) (fun b o _ _ hc e _ => ⟨o.slots, k b o (fun z => hc (by simp [z])) e⟩) (fun _ _ _ _ n => n)
    (fun b o hc e => ⟨o, k b o (fun z => hc (by simp [z])) e⟩) (fun _ _ e => e) (fun _ _ _ e => e) (fun b ps e => ⟨#[], by rw [e]; simp⟩) (fun m hm => ?_) (fun b u e => ?_) I.bare
  · have e : b = it := by simpa using hb
    subst e
    exact ⟨h1, hL, h2, h3⟩
  · obtain ⟨o, es, ep, ho, r⟩ := hm
    exact ⟨o, es, ep, k _ o (Ne.symm hL) ho, r⟩
  · refine (I.hok b u e).stay (fun c v hc q => k c v ?_ q) (fun _ q => q) fun _ _ q => q
    rcases hc with z | z
    · rw [z]; exact nit b u e
    · exact nit c _ z
theorem Inv.tok (I : Inv X pins σ H s) (t : Nat) : Inv X pins σ H { s with toks := t } := I.un (h' := s.heap) (t' := t) Un.refl I.hok

theorem Inv.kept {t' : Nat} (I : Inv X pins σ H s) (k : ∀ b u, s.heap.get? b = some u → h'.get? b = some u) : Inv X pins σ H { s with heap := h', toks := t' } := I.un (Un.kept k) (I.hok.kept k)

theorem Inv.laid {a : Addr} {o : HO} {t' : Nat} (I : Inv X pins σ H s) (k : ∀ b u, s.heap.get? b = some u → h'.get? b = some u) (hp : s.heap.objs.size ≤ a) (new : ObjOk X.prog X.w (upd H a o) h' a o) :
    Inv X pins σ (upd H a o) { s with heap := h', toks := t' } := I.un (Un.laid k hp (I.hok.fresh hp)) (I.hok.laid k hp new)

theorem Inv.write {x e : Addr} {o : HO} {t' : Nat} (I : Inv X pins σ H s) (mu : Mut (H x)) (he : e = x ∨ H e = some (.own x)) (k : ∀ b u, b ≠ e → s.heap.get? b = some u → h'.get? b = some u) (heo : ∃ u, h'.get? e = some u)
    (new : ObjOk X.prog X.w (upd H x o) h' x o) : Inv X pins σ (upd H x o) { s with heap := h', toks := t' } := I.un (Un.write mu he k heo) (I.hok.write mu he k heo new)

theorem Inv.pins_of {pins' : List (Addr × Obj)} (I : Inv X pins σ H s) (h : ∀ p ∈ pins', s.heap.get? p.1 = some p.2 ∧ H p.1 = none ∧ p.1 ≠ X.env.locals ∧ p.1 ∉ X.fs ∧ ∀ v, p.2.data ≠ .cell v) : Inv X pins' σ H s :=
  ⟨I.ok, I.os, I.bare, I.base, I.loc, I.cell, I.free, I.freeC, fun p hp => (List.mem_append.mp hp).elim (fun z => I.pin p (List.mem_append_left _ z)) (h p), I.hok, I.len⟩

theorem nodup_ix {N : List Str} (hN : N.Nodup) {i j : Nat} {x : Str} (a : N[i]? = some x) (b : N[j]? = some x) : i = j := by
  obtain ⟨h1, e1⟩ := List.getElem?_eq_some_iff.mp a
  obtain ⟨h2, e2⟩ := List.getElem?_eq_some_iff.mp b
  exact (List.getElem_inj hN).mp (e1.trans e2.symm)


theorem store_ok2 {M : Model} {A : Around} {E : Value → Shared → Prop} {i : Nat} {x : Str} {v : V} {u : Value} {Q : Unit → Shared → Prop} (I : Inv X pins σ H s) (hN : X.N.Nodup) (hi : X.N[i]? = some x) (hx : Loc X.env.scope x) (r : RelV v u)
    (h : ∀ s', Inv X pins (σ.set i (some v)) H s' → (∃ a, Heap.SameBut a s.heap s'.heap ∧ (a = X.env.locals ∨ X.env.cells.lookup x = some a)) → Q () s') (hf : X.fn x = true ∨ X.env.scope.names.lookup x = some .local := by first | exact .inl rfl | exact .inr rfl | assumption) : wpAny M A (storeName X.env x u) Q E s := by
  obtain ⟨m, hn, hl⟩ := id I.loc
  have hcls : (X.env.scope.kind == .class || (X.env.scope.kind == .module && X.env.locals != X.env.globals)) = false := by rw [I.ok.kind]; rfl
  have hiσ : i < σ.length := by rw [I.len]; exact (List.getElem?_eq_some_iff.mp hi).1
  have cne := I.cne
  have tracked : ∀ {a : Addr} {h' : Heap}, (∃ o, s.heap.get? a = some o ∧ H a = none) → Heap.SameBut a s.heap h' → HOk X.prog X.w H h' := fun {a h'} ha hs b ob e => by
    obtain ⟨_, _, hfree⟩ := ha
    refine (I.hok b ob e).stay (fun c w' hc q => (hs.2 c ?_).trans q) (fun _ q => q) fun _ _ q => q
    rintro rfl
    rcases hc with rfl | hc
    · rw [hfree] at e; cases e
    · rw [hfree] at hc; cases hc
  rcases hx with hk | hk
  · refine wpAny_storeName_local hk hn (fun h' hn' hs => ?_) hcls
    obtain ⟨oL, _, _, hoL, _⟩ := id hn
    refine h _ ⟨I.ok, I.os, I.bare, ⟨fun b o e n hb hx => ?_, fun b o e n hb hx => ?_, I.base.free, fun b o e hx => ?_, I.base.tups, I.base.frzs, I.base.tbls⟩, ⟨_, hn', fun j y v' e1 e2 e3 => ?_⟩, fun y c e => ?_, I.free, I.freeC, fun p hp => ?_, tracked ⟨oL, hoL, I.free⟩ hs, by simpa using I.len⟩ ⟨_, hs, .inl rfl⟩
    · exact (hs.2 b (Nat.ne_of_lt (Nat.lt_of_lt_of_le (Heap.lt_size e) I.ok.above))).trans (I.base.keep b o e n hb hx)
    · obtain ⟨sl, e1⟩ := I.base.slot b o e n hb hx
      exact ⟨sl, (hs.2 b (Nat.ne_of_lt (Nat.lt_of_lt_of_le (Heap.lt_size e) I.ok.above))).trans e1⟩
    · obtain ⟨o', e1⟩ := I.base.there b o e hx
      exact ⟨o', (hs.2 b (Nat.ne_of_lt (Nat.lt_of_lt_of_le (Heap.lt_size e) I.ok.above))).trans e1⟩
    · by_cases hj : j = i
      · subst hj
        rw [hi] at e1; cases e1
        rw [List.getElem?_set_self hiσ] at e2
        cases e2
        exact ⟨u, r, .inl ⟨hk, by simp⟩⟩
      · rw [List.getElem?_set_ne (Ne.symm hj)] at e2
        obtain ⟨u', r', q⟩ := hl j y v' e1 e2 e3
        refine ⟨u', r', ?_⟩
        rcases q with ⟨k, e⟩ | ⟨k, c, e, z⟩
        · refine .inl ⟨k, ?_⟩
          have : y ≠ x := fun e => hj (nodup_ix hN e1 (e ▸ hi))
          simp [this, e]
        · exact .inr ⟨k, c, e, z.sameBut hs (cne y c e)⟩
    · obtain ⟨w', z⟩ := I.cell y c e
      exact ⟨w', z.sameBut hs (cne y c e)⟩
    · obtain ⟨e, n, ne, nf, d⟩ := I.pin p hp
      exact ⟨(hs.2 p.1 ne).trans e, n, ne, nf, d⟩
  · have hfn : X.fn x = true := by
      rcases hf with z | z
      · exact z
      · rw [z] at hk; cases hk
    obtain ⟨c, hc⟩ := I.ok.has x (.inl hk)
    obtain ⟨w', z⟩ := I.cell x c hc
    refine wpAny_storeName_cell I.ok.kind hk hc z (fun h' hc' hs => ?_)
    obtain ⟨oc, hoc, hocd⟩ := id z
    refine h { s with heap := h' } ⟨I.ok, I.os, I.bare, ⟨fun b o e n hb hx => ?_, fun b o e n hb hx => ?_, I.base.free, fun b o e hx => ?_, I.base.tups, I.base.frzs, I.base.tbls⟩, ⟨m, hn.sameBut hs (Ne.symm (cne x c hc)), fun j y v' e1 e2 e3 => ?_⟩, fun y c' e => ?_, I.free, I.freeC, fun p hp => ?_, tracked ⟨oc, hoc, I.freeC x c hc⟩ hs, by simpa using I.len⟩ ⟨c, hs, .inr hc⟩
    · exact (hs.2 b (Nat.ne_of_lt (Nat.lt_of_lt_of_le (Heap.lt_size e) (I.ok.cab x c hfn hc)))).trans (I.base.keep b o e n hb hx)
    · obtain ⟨sl, e1⟩ := I.base.slot b o e n hb hx
      exact ⟨sl, (hs.2 b (Nat.ne_of_lt (Nat.lt_of_lt_of_le (Heap.lt_size e) (I.ok.cab x c hfn hc)))).trans e1⟩
    · obtain ⟨o', e1⟩ := I.base.there b o e hx
      exact ⟨o', (hs.2 b (Nat.ne_of_lt (Nat.lt_of_lt_of_le (Heap.lt_size e) (I.ok.cab x c hfn hc)))).trans e1⟩
    · by_cases hj : j = i
      · subst hj
        rw [hi] at e1; cases e1
        rw [List.getElem?_set_self hiσ] at e2
        cases e2
        exact ⟨u, r, .inr ⟨.inl hk, c, hc, hc'⟩⟩
      · rw [List.getElem?_set_ne (Ne.symm hj)] at e2
        obtain ⟨u', r', q⟩ := hl j y v' e1 e2 e3
        refine ⟨u', r', ?_⟩
        rcases q with q | ⟨k, c', e, z'⟩
        · exact .inl q
        · refine .inr ⟨k, c', e, z'.sameBut hs ?_⟩
          rintro rfl
          exact hj (nodup_ix hN e1 (I.ok.inj _ _ _ e hc ▸ hi))
    · by_cases hcc : c' = c
      · subst hcc; exact ⟨_, hc'⟩
      · obtain ⟨w2, z2⟩ := I.cell y c' e
        exact ⟨w2, z2.sameBut hs hcc⟩
    · obtain ⟨e, n, ne, nf, d⟩ := I.pin p hp
      refine ⟨(hs.2 p.1 ?_).trans e, n, ne, nf, d⟩
      intro q
      rw [q, hoc] at e
      have q' : oc = p.2 := Option.some.inj e
      exact d w' (by rw [← q']; exact hocd)
theorem store_ok {M : Model} {A : Around} {E : Value → Shared → Prop} {i : Nat} {x : Str} {v : V} {u : Value} {Q : Unit → Shared → Prop} (I : Inv X pins σ H s) (hN : X.N.Nodup) (hi : X.N[i]? = some x) (hx : Loc X.env.scope x) (r : RelV v u)
    (h : ∀ s', Inv X pins (σ.set i (some v)) H s' → Q () s') (hf : X.fn x = true ∨ X.env.scope.names.lookup x = some .local := by first | exact .inl rfl | exact .inr rfl | assumption) : wpAny M A (storeName X.env x u) Q E s :=
  store_ok2 I hN hi hx r (fun s' I' _ => h s' I') hf

theorem Inv.call' {s' : Shared} {ch : List Addr} (I : Inv X pins σ H s) (ho : s'.os = s.os) (u : Un (frs X.stack) ch H H' s.heap s'.heap) (hok : HOk X.prog X.w H' s'.heap) (hg : AllBare s'.gens)
    (hch : ∀ b ∈ ch, (b ∈ X.ex ∨ X.s₀.heap.objs.size ≤ b) ∧ b ≠ X.env.locals ∧ (∀ x c, X.env.cells.lookup x = some c → c ≠ b) ∧ ∀ p ∈ X.pn ++ pins, p.1 ≠ b) : Inv X pins σ H' s' := by
  obtain ⟨h', g', d', t', o'⟩ := s'
  have e : o' = s.os := ho
  subst e
  exact I.call (g' := g') (t' := t') (d' := d') u hok hg hch
end



abbrev XK := Value → Option Addr → Hp → Prop
abbrev St := List (Option V)
abbrev VK := V → Hp → Prop

abbrev TE := St → Hp → VK → Prop
abbrev TT := St → Hp → (Bool → Hp → Prop) → Prop
abbrev TA := St → Hp → (List V → Hp → Prop) → Prop

structure Ends where
  nx : St → Hp → Prop
  rt : VK
  bk : St → Hp → Prop := fun _ _ => False
  ct : St → Hp → Prop := fun _ _ => False
abbrev TS := Ends → St → Hp → Prop

def EP (X : Cx) (pins : List (Addr × Obj)) (σ : St) (Q : VK) (u : Value) (s' : Shared) : Prop := ∃ v H', Inv X pins σ H' s' ∧ RelV v u ∧ Q v H'
def TP (X : Cx) (pins : List (Addr × Obj)) (σ : St) (Q : Bool → Hp → Prop) (b : Bool) (s' : Shared) : Prop := ∃ H', Inv X pins σ H' s' ∧ Q b H'
def AP (X : Cx) (pins : List (Addr × Obj)) (σ : St) (Q : List V → Hp → Prop) (us : List Value) (s' : Shared) : Prop := ∃ vs H', Inv X pins σ H' s' ∧ Vals vs us ∧ Q vs H'
def SP (X : Cx) (pins : List (Addr × Obj)) (D : Ends) (f : Flow) (s' : Shared) : Prop :=
  match f with
  | .next => ∃ σ' H', Inv X pins σ' H' s' ∧ D.nx σ' H'
  | .brk => ∃ σ' H', Inv X pins σ' H' s' ∧ D.bk σ' H'
  | .cont => ∃ σ' H', Inv X pins σ' H' s' ∧ D.ct σ' H'
  | .ret u => ∃ v σ' H', Inv X pins σ' H' s' ∧ RelV v u ∧ D.rt v H'

def PE (X : Cx) (e : Expr) (t : TE) : Prop :=
  ∀ (pins : List (Addr × Obj)) (s : Shared) (σ : St) (H : Hp) (Q : VK), Inv X pins σ H s → t σ H Q → wpAny (model X.prog X.w) X.A (eval e X.env) (EP X pins σ Q) X.xe s
def PT (X : Cx) (e : Expr) (t : TT) : Prop :=
  ∀ (pins : List (Addr × Obj)) (s : Shared) (σ : St) (H : Hp) (Q : Bool → Hp → Prop), Inv X pins σ H s → t σ H Q → wpAny (model X.prog X.w) X.A (isTrue e X.env (eval e X.env)) (TP X pins σ Q) X.xe s

def PW (X : Cx) (e : Expr) (t : TT) : Prop :=
  ∀ (whole : Sem Value) (pins : List (Addr × Obj)) (s : Shared) (σ : St) (H : Hp) (Q : Bool → Hp → Prop), Inv X pins σ H s → t σ H Q → wpAny (model X.prog X.w) X.A (isTrue e X.env whole) (TP X pins σ Q) X.xe s
theorem PW.pt {X : Cx} {e : Expr} {t : TT} (h : PW X e t) : PT X e t := h _

def PA (X : Cx) (es : List Expr) (t : TA) : Prop :=
  ∀ (pos : Pos) (pins : List (Addr × Obj)) (s : Shared) (σ : St) (H : Hp) (Q : List V → Hp → Prop), Inv X pins σ H s → t σ H Q → wpAny (model X.prog X.w) X.A (spliced (backTo pos (starEach es X.env))) (AP X pins σ Q) X.xe s
def PS (X : Cx) (st : Stmt) (t : TS) : Prop :=
  ∀ (pins : List (Addr × Obj)) (s : Shared) (σ : St) (H : Hp) (D : Ends), Inv X pins σ H s → t D σ H → wpAny (model X.prog X.w) X.A (exec st X.env) (SP X pins D) X.xe s
def PSs (X : Cx) (st : List Stmt) (t : TS) : Prop :=
  ∀ (pins : List (Addr × Obj)) (s : Shared) (σ : St) (H : Hp) (D : Ends), Inv X pins σ H s → t D σ H → wpAny (model X.prog X.w) X.A (execs st X.env) (SP X pins D) X.xe s

theorem thn {α : Type} {t : Sem α} {Q Q' : α → Shared → Prop} {M : Model} {A : Around} {E : Value → Shared → Prop} {s : Shared} (h : wpAny M A t Q E s) (hQ : ∀ a s, Q a s → Q' a s) : wpAny M A t Q' E s := wpAny_mono h hQ fun _ _ x => x
end L2

namespace L2
open PySem PySem.Spec PyProof.Rows
section
variable {X : Cx}


def tVar (i : Nat) : TE := fun σ H Q => ∃ v, σ[i]? = some (some v) ∧ Q v H
def tC (v : V) : TE := fun _ H Q => Q v H
theorem pe_var {i : Nat} {x : Str} {pos : Pos} (hN : X.N[i]? = some x) (hv : Vis X.env.scope x) (hd : (x == ("__debug__" : Str)) = false := by decide) (hcd : (x == ("__classdict__" : Str)) = false := by decide) : PE X (.Name x pos) (tVar i) := by
  intro pins s σ H Q I h
  obtain ⟨v, e, h⟩ := h
  obtain ⟨m, hn, hl⟩ := I.loc
  obtain ⟨u, r, l⟩ := hl i x v hN e hv
  have fin : EP X pins σ Q u s := ⟨v, H, I, r, h⟩
  rcases l with ⟨hk, hm⟩ | ⟨hk, c, hc, hcell⟩
  · exact wpAny_Name (wpAny_loadName_local I.ok.kind hk hn hm fin) hd
  · rcases hk with hk | hk
    · exact wpAny_Name (wpAny_loadName_cell I.ok.kind hk hc hcell fin) hd
    · exact wpAny_Name (wpAny_loadName_free I.ok.kind hk hc hcell fin hcd) hd
theorem pe_int {i j pos} : PE X (.Constant (.int i) j pos) (tC (.int i)) := fun _ _ _ H _ I h => wpAny_Constant_int ⟨.int i, H, I.tok _, ⟨_, rfl⟩, h⟩
theorem pe_bl {b j pos} : PE X (.Constant (.bool b) j pos) (tC (.bl b)) := fun _ _ _ H _ I h => Constant_bool ⟨.bl b, H, I, rfl, h⟩
theorem pe_non {j pos} : PE X (.Constant .none j pos) (tC .non) := fun _ _ _ H _ I h => Constant_none ⟨.non, H, I, rfl, h⟩
theorem pe_str {x j pos} : PE X (.Constant (.str x) j pos) (tC (.str x)) := fun _ _ _ H _ I h => Calls.Constant_str ⟨.str x, H, I.tok _, ⟨_, rfl⟩, h⟩


def Gl (X : Cx) (x : Str) : Prop := X.env.kindOf x = some .globalImplicit
theorem ld_glob {E : Value → Shared → Prop} {pins : List (Addr × Obj)} {s : Shared} {σ : St} {H : Hp} {x : Str} {u : Value} {pos : Pos} {Q : Value → Shared → Prop} (I : Inv X pins σ H s) (hg : Gl X x) (hm : X.mg x = some u) (h : Q u s)
    (hd : (x == ("__debug__" : Str)) = false := by decide) : wpAny (model X.prog X.w) X.A (eval (.Name x pos) X.env) Q E s :=
  Calls.Name_function_global I.ok.kind hg (Calls.loadGlobal_global (by rw [I.ok.glob]; exact I.mod.glob.keeps I.bk) hm h) hd
theorem ld_blt {E : Value → Shared → Prop} {pins : List (Addr × Obj)} {s : Shared} {σ : St} {H : Hp} {x : Str} {u : Value} {pos : Pos} {Q : Value → Shared → Prop} (I : Inv X pins σ H s) (hg : Gl X x) (hm : X.mg x = none) (hv : bootBuiltins x = some u) (h : Q u s)
    (hn : x ≠ "__name__" := by decide) (hd : (x == ("__debug__" : Str)) = false := by decide) : wpAny (model X.prog X.w) X.A (eval (.Name x pos) X.env) Q E s := by
  obtain ⟨mb, h1, h2⟩ := I.mod.blt
  exact Calls.Name_function_global I.ok.kind hg (Calls.loadGlobal_builtin (by rw [I.ok.glob]; exact I.mod.glob.keeps I.bk) hm (by rw [I.ok.blt]; exact h1.keeps I.bk) ((h2 x hn).trans hv) h) hd

theorem pe_glob {x : Str} {v : V} {u : Value} {pos : Pos} (hg : Gl X x) (hm : X.mg x = some u) (r : RelV v u) (hd : (x == ("__debug__" : Str)) = false := by decide) : PE X (.Name x pos) (tC v) :=
  fun _ _ _ H _ I h => ld_glob I hg hm ⟨v, H, I, r, h⟩ hd
theorem pe_bltn {x : Str} {v : V} {u : Value} {pos : Pos} (hg : Gl X x) (hm : X.mg x = none) (hv : bootBuiltins x = some u) (r : RelV v u) (hn : x ≠ "__name__" := by decide) (hd : (x == ("__debug__" : Str)) = false := by decide) : PE X (.Name x pos) (tC v) :=
  fun _ _ _ H _ I h => ld_blt I hg hm hv ⟨v, H, I, r, h⟩ hn hd



def t2I (ta tb : TE) (k : Int → Int → Hp → Prop) : St → Hp → Prop := fun σ H => ta σ H fun x H1 => tb σ H1 fun y H2 => ∃ i j, x = .int i ∧ y = .int j ∧ k i j H2
def tAdd (ta tb : TE) : TE := fun σ H Q => t2I ta tb (fun i j H2 => Q (.int (i + j)) H2) σ H
def tSub (ta tb : TE) : TE := fun σ H Q => t2I ta tb (fun i j H2 => Q (.int (i - j)) H2) σ H

def tMul (ta tb : TE) : TE := fun σ H Q => t2I ta tb (fun i j H2 => (-(2 ^ 64) < i ∧ i < 2 ^ 64) ∧ Q (.int (i * j)) H2) σ H
variable {a b : Expr} {ta tb : TE} {pos : Pos}
def PC (X : Cx) (op : CmpOp) (a b : Expr) (t : TE) : Prop :=
  ∀ (pins : List (Addr × Obj)) (s : Shared) (σ : St) (H : Hp) (Q : VK), Inv X pins σ H s → t σ H Q →
    wpAny (model X.prog X.w) X.A (eval a X.env) (fun v s₁ => wpAny (model X.prog X.w) X.A (eval b X.env) (fun u s₂ => wpAny (model X.prog X.w) X.A (compareOp op v u) (EP X pins σ Q) X.xe s₂) X.xe s₁) X.xe s
def tCmp (p : Int → Int → Bool) (ta tb : TE) : TE := fun σ H Q => t2I ta tb (fun i j H2 => Q (.bl (p i j)) H2) σ H
abbrev tLt : TE → TE → TE := tCmp fun i j => decide (i < j)
abbrev tLe : TE → TE → TE := tCmp fun i j => decide (i ≤ j)
abbrev tGt : TE → TE → TE := tCmp fun i j => decide (j < i)
abbrev tGe : TE → TE → TE := tCmp fun i j => decide (j ≤ i)
abbrev tEqI : TE → TE → TE := tCmp fun i j => decide (i = j)
abbrev tNeI : TE → TE → TE := tCmp fun i j => !decide (i = j)

def tIsN (ta : TE) : TE := fun σ H Q => ta σ H fun x H1 => Q (.bl (decide (x = .non))) H1
def tNotN (ta : TE) : TE := fun σ H Q => ta σ H fun x H1 => Q (.bl (!decide (x = .non))) H1
def tB (t : TE) : TT := fun σ H Q => t σ H fun x H1 => ∃ c, x = .bl c ∧ Q c H1
theorem pt_val {e : Expr} {t : TE} (h : PE X e t) (he : ∀ whole, isTrue e X.env whole = (do let v ← whole; standAt e.pos; holding [v] (truthy v)) := by intro _; rfl) : PT X e (tB t) := by
  intro pins s σ H Q I hw
  refine isTrue_plain (thn (h pins s σ H _ I hw) fun v s1 ⟨x, H1, I1, r1, q1⟩ => ?_) (he _)
  obtain ⟨d, rfl, q⟩ := q1
  cases r1
  exact wpAny_truthy_bool ⟨H1, I1, q⟩


variable {tA tB' : TT} {rest : List Expr}
def tAnd (t u : TT) : TT := fun σ H Q => t σ H fun c H1 => if c = true then u σ H1 Q else Q false H1
def tOr (t u : TT) : TT := fun σ H Q => t σ H fun c H1 => if c = true then Q true H1 else u σ H1 Q
def tNot (t : TT) : TT := fun σ H Q => t σ H fun c H1 => Q (!c) H1
theorem pw_and1 (ha : PT X a tA) : PW X (.BoolOp .And [a] pos) tA := by
  intro wh pins s σ H Q I h
  refine isTrue_and (thn (ha pins s σ H Q I h) fun c s1 e => ?_)
  cases c with
  | true => exact isTrue_and_nil e
  | false => exact e
theorem pw_or1 (ha : PT X a tA) : PW X (.BoolOp .Or [a] pos) tA := by
  intro wh pins s σ H Q I h
  refine isTrue_or (thn (ha pins s σ H Q I h) fun c s1 e => ?_)
  cases c with
  | false => exact isTrue_or_nil e
  | true => exact e
theorem pw_and (ha : PT X a tA) (hb : PW X (.BoolOp .And (b :: rest) pos) tB') : PW X (.BoolOp .And (a :: b :: rest) pos) (tAnd tA tB') := by
  intro wh pins s σ H Q I h
  refine isTrue_and (thn (ha pins s σ H _ I h) fun c s1 ⟨H1, I1, q1⟩ => ?_)
  cases c with
  | true => exact hb wh pins s1 σ H1 Q I1 q1
  | false => exact ⟨H1, I1, q1⟩
theorem pw_or (ha : PT X a tA) (hb : PW X (.BoolOp .Or (b :: rest) pos) tB') : PW X (.BoolOp .Or (a :: b :: rest) pos) (tOr tA tB') := by
  intro wh pins s σ H Q I h
  refine isTrue_or (thn (ha pins s σ H _ I h) fun c s1 ⟨H1, I1, q1⟩ => ?_)
  cases c with
  | true => exact ⟨H1, I1, q1⟩
  | false => exact hb wh pins s1 σ H1 Q I1 q1
theorem pt_not (ha : PT X a tA) : PT X (.UnaryOp .Not a pos) (tNot tA) := by
  intro pins s σ H Q I h
  exact isTrue_not (ha pins s σ H (fun c H1 => Q (!c) H1) I h)

def tAndV (ta tb : TE) : TE := fun σ H Q => ta σ H fun x H1 => ∃ c, x = .bl c ∧ if c = true then tb σ H1 Q else Q (.bl false) H1
def tOrV (ta tb : TE) : TE := fun σ H Q => ta σ H fun x H1 => ∃ c, x = .bl c ∧ if c = true then Q (.bl true) H1 else tb σ H1 Q
def tNotV (ta : TE) : TE := fun σ H Q => ta σ H fun x H1 => ∃ c, x = .bl c ∧ Q (.bl (!c)) H1
theorem pe_one {op} {t : TE} (h : PE X a t) : PE X (.BoolOp op [a] pos) t := fun pins s σ H Q I hw => BoolOp_one (h pins s σ H Q I hw)
theorem pe_and (ha : PE X a ta) (hb : PE X (.BoolOp .And (b :: rest) pos) tb) : PE X (.BoolOp .And (a :: b :: rest) pos) (tAndV ta tb) := by
  intro pins s σ H Q I h
  refine BoolOp_and (thn (ha pins s σ H _ I h) fun v s1 ⟨x, H1, I1, r1, q1⟩ => ?_)
  obtain ⟨c, rfl, q1⟩ := q1
  cases r1
  refine wpAny_truthy_bool ?_
  cases c with
  | true => exact hb pins s1 σ H1 Q I1 q1
  | false => exact ⟨.bl false, H1, I1, rfl, q1⟩
theorem pe_or (ha : PE X a ta) (hb : PE X (.BoolOp .Or (b :: rest) pos) tb) : PE X (.BoolOp .Or (a :: b :: rest) pos) (tOrV ta tb) := by
  intro pins s σ H Q I h
  refine BoolOp_or (thn (ha pins s σ H _ I h) fun v s1 ⟨x, H1, I1, r1, q1⟩ => ?_)
  obtain ⟨c, rfl, q1⟩ := q1
  cases r1
  refine wpAny_truthy_bool ?_
  cases c with
  | false => exact hb pins s1 σ H1 Q I1 q1
  | true => exact ⟨.bl true, H1, I1, rfl, q1⟩
theorem pe_not (ha : PE X a ta) : PE X (.UnaryOp .Not a pos) (tNotV ta) := by
  intro pins s σ H Q I h
  refine UnaryOp_ (thn (ha pins s σ H _ I h) fun v s1 ⟨x, H1, I1, r1, q1⟩ => ?_)
  obtain ⟨c, rfl, q1⟩ := q1
  cases r1
  exact not_of (wpAny_truthy_bool ⟨.bl (!c), H1, I1, rfl, q1⟩)

def tIf (t : TT) (ta tb : TE) : TE := fun σ H Q => t σ H fun c H1 => if c = true then ta σ H1 Q else tb σ H1 Q
end
end L2

namespace L2
open PySem PySem.Spec PyProof.Rows


def SqL (K : PySem.W.Frag) (H : Hp) (a : Addr) (xs : List V) : Prop :=
  Rd H a (.lst xs) ∨
    ∃ (o : Obj) (its : Array Value) (n : Nat), K.lookup a = some o ∧ o.cls = .type "list" ∧ o.dict = none ∧ o.data = .seq its n ∧ its.size ≤ sizeLine ∧ Vals xs its.toList
def SqT (K : PySem.W.Frag) (H : Hp) (a : Addr) (xs : List V) : Prop :=
  Rd H a (.tup xs) ∨
    ∃ (o : Obj) (its : Array Value) (n : Nat), K.lookup a = some o ∧ o.cls = .type "tuple" ∧ o.dict = none ∧ o.data = .seq its n ∧ its.size ≤ sizeLine ∧ Vals xs its.toList
def absV : Value → Option V
  | .none => some .non
  | .bool b => some (.bl b)
  | .int i _ => some (.int i)
  | .str x _ => some (.str x)
  | .bytes b _ => some (.byt b)
  | .float b _ => some (.flt b)
  | .ref a => some (.ref a)
  | .type n => some (.ty n)
  | _ => none
theorem RelV.abs {x : V} {u : Value} (r : RelV x u) : absV u = some x := by
  cases x with
  | non => cases r; rfl
  | bl _ => cases r; rfl
  | int _ => obtain ⟨t, rfl⟩ := r; rfl
  | str _ => obtain ⟨t, rfl⟩ := r; rfl
  | byt _ => obtain ⟨t, rfl⟩ := r; rfl
  | flt _ => obtain ⟨t, rfl⟩ := r; rfl
  | ref _ => cases r; rfl
  | ty _ => cases r; rfl
theorem RelV.inj {x y : V} {u : Value} (r : RelV x u) (q : RelV y u) : x = y := Option.some.inj (r.abs.symm.trans q.abs)
theorem Vals.inj : ∀ {xs ys : List V} {us : List Value}, Vals xs us → Vals ys us → xs = ys
  | _, _, _, .nil, .nil => rfl
  | _, _, _, .cons r t, .cons r' t' => by rw [r.inj r', Vals.inj t t']
section
variable {X : Cx} {pins : List (Addr × Obj)} {σ : St} {H : Hp} {s : Shared} {a : Addr} {xs ys : List V}
theorem SqL.of {K : PySem.W.Frag} (h : H a = some (.lst xs)) : SqL K H a xs := .inl (.inl h)
theorem SqT.of {K : PySem.W.Frag} (h : H a = some (.tup xs)) : SqT K H a xs := .inl (.inl h)
theorem Inv.list (I : Inv X pins σ H s) (h : SqL X.K H a xs) : ∃ its : List Value, Vals xs its ∧ PlainL s.heap a its.toArray ∧ xs.length ≤ sizeLine := by
  rcases h with h | ⟨o, its, n, hk, hc, hd, hs, hz, r⟩
  · obtain ⟨z, its, n, r, e⟩ := h.ok I.hok
    exact ⟨its, r, ⟨_, n, e, rfl, rfl, rfl⟩, z⟩
  · refine ⟨its.toList, r, ⟨o, n, I.kIn a o hk, hc, hd, by simpa using hs⟩, ?_⟩
    have e := r.length
    simp only [Array.length_toList] at e
    omega
theorem Inv.tuple (I : Inv X pins σ H s) (h : SqT X.K H a xs) : ∃ its : List Value, Vals xs its ∧ IsTup s.heap a its.toArray ∧ xs.length ≤ sizeLine := by
  rcases h with h | ⟨o, its, n, hk, hc, _, hs, hz, r⟩
  · obtain ⟨z, its, r, p⟩ := h.ok I.hok
    exact ⟨its, r, p.tup, z⟩
  · refine ⟨its.toList, r, ⟨o, I.kIn a o hk, hc, n, by simpa using hs⟩, ?_⟩
    have e := r.length
    simp only [Array.length_toList] at e
    omega
theorem Inv.list_inj (I : Inv X pins σ H s) (h : SqL X.K H a xs) (h' : SqL X.K H a ys) : xs = ys := by
  obtain ⟨its, r, ⟨o, n, e, _, _, d⟩, _⟩ := I.list h
  obtain ⟨its', r', ⟨o', n', e', _, _, d'⟩, _⟩ := I.list h'
  rw [e] at e'; cases e'
  rw [d] at d'
  injection d' with d1 _
  have : its = its' := by simpa using congrArg Array.toList d1
  subst this
  exact r.inj r'
theorem Inv.tuple_inj (I : Inv X pins σ H s) (h : SqT X.K H a xs) (h' : SqT X.K H a ys) : xs = ys := by
  obtain ⟨its, r, ⟨o, e, _, n, d⟩, _⟩ := I.tuple h
  obtain ⟨its', r', ⟨o', e', _, n', d'⟩, _⟩ := I.tuple h'
  rw [e] at e'; cases e'
  rw [d] at d'
  injection d' with d1 _
  have : its = its' := by simpa using congrArg Array.toList d1
  subst this
  exact r.inj r'
end


abbrev Cx.wish (X : Cx) (E : Value → Shared → Prop) : Cx := { X with xe := E }

abbrev Cx.nox (X : Cx) : Cx := X.wish fun _ _ => False
theorem Cx.Ok.wish {X : Cx} (ok : X.Ok) (E : Value → Shared → Prop) : (X.wish E).Ok :=
  ⟨ok.mod, ok.kind, ok.glob, ok.blt, ok.above, ok.inj, ok.has, ok.cab, ok.hd, ok.frames, ok.stk, ok.exf, ok.bs, ok.bsz, ok.noex, ok.exfs, ok.funs, ok.frf⟩
theorem Cx.Ok.unwish {X : Cx} {E : Value → Shared → Prop} (ok : (X.wish E).Ok) : X.Ok :=
  ⟨ok.mod, ok.kind, ok.glob, ok.blt, ok.above, ok.inj, ok.has, ok.cab, ok.hd, ok.frames, ok.stk, ok.exf, ok.bs, ok.bsz, ok.noex, ok.exfs, ok.funs, ok.frf⟩
section
variable {X : Cx} {pins : List (Addr × Obj)} {σ : St} {H : Hp} {s : Shared} {E : Value → Shared → Prop}
theorem Inv.wish (I : Inv X pins σ H s) (E : Value → Shared → Prop) : Inv (X.wish E) pins σ H s := ⟨I.ok.wish E, I.os, I.bare, I.base, I.loc, I.cell, I.free, I.freeC, I.pin, I.hok, I.len⟩
theorem Inv.unwish (I : Inv (X.wish E) pins σ H s) : Inv X pins σ H s := ⟨I.ok.unwish, I.os, I.bare, I.base, I.loc, I.cell, I.free, I.freeC, I.pin, I.hok, I.len⟩
theorem SP.unwish {D : Ends} {f : Flow} {s' : Shared} (h : SP (X.wish E) pins D f s') : SP X pins D f s' := by
  cases f with
  | next => obtain ⟨σ', H', I, q⟩ := h; exact ⟨σ', H', I.unwish, q⟩
  | brk => obtain ⟨σ', H', I, q⟩ := h; exact ⟨σ', H', I.unwish, q⟩
  | cont => obtain ⟨σ', H', I, q⟩ := h; exact ⟨σ', H', I.unwish, q⟩
  | ret u => obtain ⟨v, σ', H', I, r, q⟩ := h; exact ⟨v, σ', H', I.unwish, r, q⟩
theorem PE.nox {e : Expr} {t : TE} (h : PE X.nox e t) : PE X e t := fun pins s σ H Q I hw =>
  wpAny_mono (h pins s σ H Q (I.wish _) hw) (fun _ _ ⟨v, H', I', r, q⟩ => ⟨v, H', I'.unwish, r, q⟩) fun _ _ z => False.elim z
theorem PT.nox {e : Expr} {t : TT} (h : PT X.nox e t) : PT X e t := fun pins s σ H Q I hw =>
  wpAny_mono (h pins s σ H Q (I.wish _) hw) (fun _ _ ⟨H', I', q⟩ => ⟨H', I'.unwish, q⟩) fun _ _ z => False.elim z
theorem PSs.nox {st : List Stmt} {t : TS} (h : PSs X.nox st t) : PSs X st t := fun pins s σ H D I hw =>
  wpAny_mono (h pins s σ H D (I.wish _) hw) (fun _ _ q => q.unwish) fun _ _ z => False.elim z
end


section
variable {X : Cx} {st : Stmt} {rest : List Stmt} {t u : TS} {e : Expr} {te : TE} {pos : Pos}
def tNext : TS := fun D σ H => D.nx σ H
def tSeq (t u : TS) : TS := fun D σ H => t { D with nx := u D } σ H
theorem pss_nil : PSs X [] tNext := fun _ _ σ H _ I h => wpAny_execs_nil ⟨σ, H, I, h⟩
theorem pss_cons (h1 : PS X st t) (h2 : PSs X rest u) : PSs X (st :: rest) (tSeq t u) := by
  intro pins s σ H D I h
  refine wpAny_execs_cons (thn (h1 pins s σ H { D with nx := u D } I h) fun f s1 q => ?_)
  cases f with
  | next =>
    obtain ⟨σ', H', I', q⟩ := q
    exact h2 pins s1 σ' H' D I' q
  | ret v => exact q
  | brk => exact q
  | cont => exact q
theorem pss_one (h1 : PS X st t) : PSs X [st] t := by
  intro pins s σ H D I h
  refine wpAny_execs_cons (thn (h1 pins s σ H D I h) fun f s1 q => ?_)
  cases f with
  | next => exact wpAny_execs_nil q
  | ret v => exact q
  | brk => exact q
  | cont => exact q
def tBreak : TS := fun D σ H => D.bk σ H
def tCont : TS := fun D σ H => D.ct σ H
theorem Inv.quiet {pins : List (Addr × Obj)} {σ : St} {H : Hp} {s : Shared} (I : Inv X pins σ H s) : interactive X.env = false := by simp [interactive, I.ok.kind]

def tDrop (te : TE) : TS := fun D σ H => te σ H fun _ H1 => D.nx σ H1
theorem ps_expr (he : PE X e te) (hs : swapsWith e none pos.line X.env = pure false := by rfl) : PS X (.Expr e pos) (tDrop te) := by
  intro pins s σ H D I h
  exact wpAny_Expr_any (thn (he pins s σ H _ I h) fun v s1 ⟨x, H1, I1, r1, q1⟩ => ⟨σ, H1, I1, q1⟩) I.quiet hs
def tRet (te : TE) : TS := fun D σ H => te σ H D.rt
theorem ps_ret (he : PE X e te) : PS X (.Return (some e) pos) (tRet te) := by
  intro pins s σ H D I h
  exact wpAny_Return_some (thn (he pins s σ H _ I h) fun v s1 ⟨x, H1, I1, r1, q1⟩ => ⟨x, σ, H1, I1, r1, q1⟩)
def tRetN : TS := fun D _ H => D.rt .non H
def tIfS (c : TT) (t u : TS) : TS := fun D σ H => c σ H fun b H1 => if b = true then t D σ H1 else u D σ H1
theorem ps_if {c : Expr} {a b : List Stmt} {tc : TT} (hc : PT X c tc) (ha : PSs X a t) (hb : PSs X b u) : PS X (.If c a b pos) (tIfS tc t u) := by
  intro pins s σ H D I h
  refine wpAny_If (thn (hc pins s σ H _ I h) fun d s1 ⟨H1, I1, q1⟩ => ?_)
  cases d with
  | true => exact ha pins s1 σ H1 D I1 q1
  | false => exact hb pins s1 σ H1 D I1 q1

def tNever : TS := fun _ _ _ => False
end


abbrev TG := V → St → Hp → (St → Hp → Prop) → Prop
abbrev TGs := List V → St → Hp → (St → Hp → Prop) → Prop
def PG (X : Cx) (target : Expr) (t : TG) : Prop :=
  ∀ (pins : List (Addr × Obj)) (s : Shared) (σ : St) (H : Hp) (v : V) (u : Value) (Q : St → Hp → Prop), Inv X pins σ H s → RelV v u → t v σ H Q →
    wpAny (model X.prog X.w) X.A (assign target X.env u) (fun _ s' => ∃ σ' H', Inv X pins σ' H' s' ∧ Q σ' H') X.xe s

def PGs (X : Cx) (ts : List Expr) (t : TGs) : Prop :=
  ∀ (pins : List (Addr × Obj)) (s : Shared) (σ : St) (H : Hp) (vs : List V) (us : List Value) (Q : St → Hp → Prop), Inv X pins σ H s → Vals vs us → t vs σ H Q →
    wpAny (model X.prog X.w) X.A (assignInOrder ((assignEach ts X.env).map (·.2)) us) (fun _ s' => ∃ σ' H', Inv X pins σ' H' s' ∧ Q σ' H') X.xe s

abbrev TSet := V → V → V → Hp → (Hp → Prop) → Prop
def PSet (X : Cx) (t : TSet) : Prop :=
  ∀ (pins : List (Addr × Obj)) (s : Shared) (σ : St) (H : Hp) (o i v : V) (ov iv u : Value) (Q : Hp → Prop), Inv X pins σ H s → RelV o ov → RelV i iv → RelV v u → t o i v H Q →
    wpAny (model X.prog X.w) X.A (setItem ov iv u) (fun _ s' => ∃ H', Inv X pins σ H' s' ∧ Q H') X.xe s

abbrev TIp := V → V → Hp → VK → Prop
def PIp (X : Cx) (op : Operator) (t : TIp) : Prop :=
  ∀ (pins : List (Addr × Obj)) (s : Shared) (σ : St) (H : Hp) (x y : V) (v u : Value) (Q : VK), Inv X pins σ H s → RelV x v → RelV y u → t x y H Q →
    wpAny (model X.prog X.w) X.A (inplaceOp op v u) (EP X pins σ Q) X.xe s
section
variable {X : Cx} {pos : Pos}
def gName (i : Nat) : TG := fun v σ H Q => Q (σ.set i (some v)) H
theorem pg_name {i : Nat} {x : Str} (hN : X.N.Nodup) (hi : X.N[i]? = some x) (hx : Loc X.env.scope x) (hf : X.fn x = true ∨ X.env.scope.names.lookup x = some .local := by first | exact .inl rfl | exact .inr rfl | assumption) : PG X (.Name x pos) (gName i) := by
  intro pins s σ H v u Q I r h
  exact wpAny_assign_Name (store_ok I hN hi hx r (fun s' I' => ⟨_, H, I', h⟩) hf)
def gNil : TGs := fun vs σ H Q => vs = [] ∧ Q σ H
def gCons (t : TG) (u : TGs) : TGs := fun vs σ H Q => ∃ v r, vs = v :: r ∧ t v σ H fun σ' H' => u r σ' H' Q
theorem pgs_nil : PGs X [] gNil := by
  intro pins s σ H vs us Q I r h
  obtain ⟨e, h⟩ := h
  subst e
  cases r
  exact assignInOrder_nil ⟨σ, H, I, h⟩
theorem pgs_cons {e : Expr} {es : List Expr} {t : TG} {u : TGs} (h1 : PG X e t) (h2 : PGs X es u)
    (hs : (assignEach (e :: es) X.env).map (·.2) = assign e X.env :: (assignEach es X.env).map (·.2) := by rfl) : PGs X (e :: es) (gCons t u) := by
  intro pins s σ H vs us Q I r h
  obtain ⟨v, vr, e1, h⟩ := h
  subst e1
  cases r with
  | cons r rr =>
    rw [hs]
    refine assignInOrder_cons (thn (h1 pins s σ H _ _ _ I r h) fun _ s1 ⟨σ1, H1, I1, q1⟩ => ?_)
    exact h2 pins s1 σ1 H1 _ _ Q I1 rr q1

def gTup (K : PySem.W.Frag) (n : Nat) (t : TGs) : TG := fun v σ H Q => ∃ a xs, v = .ref a ∧ SqT K H a xs ∧ xs.length = n ∧ t xs σ H Q
theorem pg_tup {es : List Expr} {k : Nat} {t : TGs} {n : Nat} (hc : X.calm = true) (h : PGs X es t)
    (hn : (assignEach es X.env).length = n := by rfl) (hst : (assignEach es X.env).findIdx? (·.1) = none := by rfl) : PG X (.Tuple es k pos) (gTup X.K n t) := by
  intro pins s σ H v u Q I r hw
  obtain ⟨a, xs, e1, hq, hl, hw⟩ := hw
  subst e1
  cases r
  obtain ⟨its, rv, ht, hz⟩ := I.tuple hq
  refine assign_Tuple_tuple (I.ok.hd hc) ht (by simp [hn, ← hl, rv.length]) hst fun h' hx => ?_
  have I1 : Inv X pins σ H { s with heap := h' } := I.kept (t' := s.toks) fun b o e => hx b o (Nat.ne_of_lt (Heap.lt_size e)) e
  exact h pins _ σ H xs _ Q I1 (by simpa using rv) hw

def gSub (to ti : TE) (t : TSet) : TG := fun v σ H Q => to σ H fun o H1 => ti σ H1 fun i H2 => t o i v H2 fun H3 => Q σ H3
theorem pg_sub {o i : Expr} {to ti : TE} {t : TSet} (ho : PE X o to) (hi : PE X i ti) (hs : PSet X t)
    (ha : ∀ v, assign (.Subscript o i pos) X.env v = (do
      let ov ← holding [v] (eval o X.env)
      let iv ← holding [v, ov] (eval i X.env)
      standAt pos
      holding [v, ov, iv] (setItem ov iv v)
      release [v, ov, iv] []) := by intro _; rfl) : PG X (.Subscript o i pos) (gSub to ti t) := by
  intro pins s σ H v u Q I r h
  rw [ha]
  refine wpAny_bind (wpAny_holding (thn (ho pins s σ H _ I h) fun ov s1 ⟨x, H1, I1, r1, q1⟩ => ?_))
  refine wpAny_bind (wpAny_holding (thn (hi pins s1 σ H1 _ I1 q1) fun iv s2 ⟨y, H2, I2, r2, q2⟩ => ?_))
  refine wpAny_bind (wpAny_standAt (wpAny_bind (wpAny_holding (thn (hs pins s2 σ H2 x y v ov iv u _ I2 r1 r2 r q2) fun _ s3 ⟨H3, I3, q3⟩ => ?_))))
  exact wpAny_release ⟨σ, H3, I3, q3⟩

def tAsg (te : TE) (g : TG) : TS := fun D σ H => te σ H fun x H1 => g x σ H1 D.nx
theorem ps_asg {tg e : Expr} {te : TE} {g : TG} (he : PE X e te) (hg : PG X tg g) (hs : swapsWithSole [tg] e pos.line X.env = pure false := by rfl) (hw : swappedStores [tg] e X.env = pure none := by rfl)
    (h1 : (assignEach [tg] X.env).map (·.2) = [assign tg X.env] := by rfl) : PS X (.Assign [tg] e pos) (tAsg te g) := by
  intro pins s σ H D I h
  refine wpAny_Assign_stores (thn (he pins s σ H _ I h) fun v s1 ⟨x, H1, I1, r1, q1⟩ => ?_) hs hw
  rw [h1]
  exact thn (hg pins s1 σ H1 x v _ I1 r1 q1) fun _ s2 q => q

theorem ps_set {i : Nat} {x : Str} {e : Expr} {te : TE} {pos' : Pos} (hN : X.N.Nodup) (hi : X.N[i]? = some x) (hx : Loc X.env.scope x) (he : PE X e te) (hs : swapsWith e (some (.Name x pos')) pos.line X.env = pure false := by rfl) (hf : X.fn x = true ∨ X.env.scope.names.lookup x = some .local := by first | exact .inl rfl | exact .inr rfl | assumption) :
    PS X (.Assign [.Name x pos'] e pos) (tAsg te (gName i)) := by
  intro pins s σ H D I h
  refine wpAny_Assign_Name (thn (he pins s σ H _ I h) fun v s1 ⟨y, H1, I1, r1, q1⟩ => ?_) hs
  exact store_ok I1 hN hi hx r1 (fun s2 I2 => ⟨_, H1, I2, q1⟩) hf

def tPar (i j : Nat) (ta : TA) : TS := fun D σ H => ta σ H fun vs H1 => ∃ v w, vs = [v, w] ∧ D.nx ((σ.set i (some v)).set j (some w)) H1
def tAug (i : Nat) (te : TE) (ti : TIp) : TS := fun D σ H => ∃ x, σ[i]? = some (some x) ∧ te σ H fun y H1 => ti x y H1 fun z H2 => D.nx (σ.set i (some z)) H2
def tAugS (to ti te : TE) (tget : V → V → Hp → VK → Prop) (tip : TIp) (tset : TSet) : TS := fun D σ H => to σ H fun o H1 => ti σ H1 fun i H2 => tget o i H2 fun x H3 => te σ H3 fun y H4 => tip x y H4 fun z H5 => tset o i z H5 fun H6 => D.nx σ H6

def PGet (X : Cx) (t : V → V → Hp → VK → Prop) : Prop :=
  ∀ (pins : List (Addr × Obj)) (s : Shared) (σ : St) (H : Hp) (o i : V) (ov iv : Value) (Q : VK), Inv X pins σ H s → RelV o ov → RelV i iv → t o i H Q →
    wpAny (model X.prog X.w) X.A (getItem ov iv) (EP X pins σ Q) X.xe s
def ipI (f : Int → Int → Int) : TIp := fun x y H Q => ∃ i j, x = .int i ∧ y = .int j ∧ Q (.int (f i j)) H
end


section
variable {X : Cx} {pos : Pos}

def tWhile (c : TT) (tb : TS) : TS := fun D σ H => ∃ W : Nat → St → Hp → Prop, (∃ m, W m σ H) ∧ ∀ m σ H, W m σ H →
  c σ H fun b H1 => if b = true then ∃ N : St → Hp → Prop, (∀ σ' H', N σ' H' → ∃ m', m' < m ∧ W m' σ' H') ∧ tb { D with nx := N, ct := N, bk := D.nx } σ H1 else D.nx σ H1
end



structure It where
  go : Nat → Hp → Prop
  yld : Nat → Hp → V → Hp → Prop
  stop : Nat → Hp → Prop

def FpOk (X : Cx) (pins : List (Addr × Obj)) (H : Hp) (b : Addr) : Prop :=
  H b = none ∧ b ≠ X.env.locals ∧ b ∉ X.fs ∧ (b ∈ X.ex ∨ X.s₀.heap.objs.size ≤ b) ∧ (∀ x c, X.env.cells.lookup x = some c → c ≠ b) ∧ ∀ p ∈ X.pn ++ pins, p.1 ≠ b
theorem Inv.fpOk {X : Cx} {pins : List (Addr × Obj)} {σ : St} {H H' : Hp} {s : Shared} {b : Addr} (I : Inv X pins σ H s) (hb : s.heap.objs.size ≤ b) (hn : H' b = none) : FpOk X pins H' b := by
  refine ⟨hn, Nat.ne_of_gt (Nat.lt_of_lt_of_le I.lt hb), I.nofs hb, .inr (Nat.le_trans I.sz hb), fun x c e z => ?_, fun p hp z => ?_⟩
  · obtain ⟨v, q⟩ := I.cell x c e
    exact absurd (Nat.lt_of_lt_of_le q.lt (by rw [z]; exact hb)) (Nat.lt_irrefl _)
  · exact absurd (Nat.lt_of_lt_of_le (Heap.lt_size (I.pin p hp).1) (by rw [z]; exact hb)) (Nat.lt_irrefl _)
structure Turn (P : Program) (w : World) (K : PySem.W.Frag) (tg : Expr) (J : It) (fp : List Addr) (it : Addr) (tn : Nat → Heap → Prop) : Prop where
  mem : it ∈ fp
  obj : ∀ i h, tn i h → ∀ b ∈ fp, ∃ o, h.get? b = some o ∧ ∀ v, o.data ≠ .cell v
  keep : ∀ i h h', tn i h → (∀ b ∈ fp, ∀ o, h.get? b = some o → h'.get? b = some o) → tn i h'
  item : ∀ (X : Cx), X.prog = P → X.w = w → X.K = K → X.calm = true → ∀ (i : Nat) (pins : List (Addr × Obj)) (s : Shared) (σ : St) (H : Hp) (E : Value → Shared → Prop), Inv X pins σ H s → (∀ b ∈ fp, FpOk X pins H b) → tn i s.heap → J.go i H →
    wpAny (model P w) X.A (pyNext (.ref it)) (fun r s1 => ∃ u, r = some u ∧
      wpAny (model P w) X.A (letOwnedTupleGo tg (.ref it) u) (fun _ s2 => ∃ x H', Inv X pins σ H' s2 ∧ RelV x u ∧ J.yld i H x H' ∧ tn (i + 1) s2.heap ∧ ∀ b ∈ fp, H' b = none) E s1) E s
  done : ∀ (X : Cx), X.prog = P → X.w = w → X.K = K → X.calm = true → ∀ (i : Nat) (pins : List (Addr × Obj)) (s : Shared) (σ : St) (H : Hp) (E : Value → Shared → Prop), Inv X pins σ H s → (∀ b ∈ fp, FpOk X pins H b) → tn i s.heap → J.stop i H →
    wpAny (model P w) X.A (pyNext (.ref it)) (fun r s1 => r = none ∧ Inv X pins σ H s1) E s
  self : ∀ (A : Around) (i : Nat) (s : Shared) (Q : Value → Shared → Prop) (E : Value → Shared → Prop), tn i s.heap → Q (.ref it) s → wpAny (model P w) A (pyIter (.ref it)) Q E s
abbrev TI := St → Hp → (It → Hp → Prop) → Prop

def PIE (X : Cx) (pins : List (Addr × Obj)) (σ : St) (tg : Expr) (R : It → Hp → Prop) (itv : Value) (s2 : Shared) : Prop :=
  ∃ (it : Addr) (fp : List Addr) (tn : Nat → Heap → Prop) (J : It) (H' : Hp), itv = .ref it ∧ Inv X pins σ H' s2 ∧ Turn X.prog X.w X.K tg J fp it tn ∧ tn 0 s2.heap ∧ (∀ b ∈ fp, FpOk X pins H' b) ∧ R J H'
def PI (X : Cx) (tg iter : Expr) (wi : TI) : Prop :=
  ∀ (pins : List (Addr × Obj)) (s : Shared) (σ : St) (H : Hp) (R : It → Hp → Prop), Inv X pins σ H s → wi σ H R →
    wpAny (model X.prog X.w) X.A (eval iter X.env) (fun v s1 => wpAny (model X.prog X.w) X.A (pyIter v) (PIE X pins σ tg R) X.xe s1) X.xe s


theorem go_of {M : Model} {A : Around} {E : Value → Shared → Prop} {s : Shared} {tg : Expr} {it : Addr} {u : Value} {o : Obj} {n : String} {vs : Array Value} {Q : Unit → Shared → Prop} (ho : s.heap.get? it = some o) (hc : o.cls = .type n) (hd : o.data = .fields vs)
    (hn : ["enumerate", "zip", "dict_itemiterator", "dict_reverseitemiterator", "odict_iterator", "itertools.zip_longest", "itertools.pairwise"].contains n = false) (hQ : Q () s) : wpAny M A (letOwnedTupleGo tg (.ref it) u) Q E s := by
  unfold letOwnedTupleGo
  cases tg <;> first
    | exact wpAny_pure hQ
    | (cases u <;> first
        | exact wpAny_pure hQ
        | (refine wpAny_bind (wpAny_load ho ?_)
           rw [hc, hd]
           show wpAny M A (if (["enumerate", "zip", "dict_itemiterator", "dict_reverseitemiterator", "odict_iterator", "itertools.zip_longest", "itertools.pairwise"].contains n && vs[0]? == some (rawInt _)) = true then _ else _) Q E s
           rw [if_neg (by intro h; rw [hn, Bool.false_and] at h; cases h)]
           exact wpAny_pure hQ))


def Itl (K : PySem.W.Frag) (a : Addr) : It :=
  ⟨fun i H => ∃ xs x, SqL K H a xs ∧ xs[i]? = some x, fun i H x H' => H' = H ∧ ∀ xs, SqL K H a xs → xs[i]? = some x, fun i H => ∃ xs, SqL K H a xs ∧ xs.length ≤ i⟩
def Itt (K : PySem.W.Frag) (a : Addr) : It :=
  ⟨fun i H => ∃ xs x, SqT K H a xs ∧ xs[i]? = some x, fun i H x H' => H' = H ∧ ∀ xs, SqT K H a xs → xs[i]? = some x, fun i H => ∃ xs, SqT K H a xs ∧ xs.length ≤ i⟩

def Itr (lo : Int) (n : Nat) : It := ⟨fun i _ => i < n, fun i H x H' => H' = H ∧ x = .int (lo + i), fun i _ => n ≤ i⟩
theorem turn_list {P : Program} {w : World} {K : PySem.W.Frag} {tg : Expr} (a it : Addr) : Turn P w K tg (Itl K a) [it] it (fun i h => h.IsListIter it a i) where
  mem := by simp
  obj := fun i h st b hb => by
    have e : b = it := by simpa using hb
    subst e
    obtain ⟨o, e, c, d⟩ := st
    exact ⟨o, e, fun v z => by rw [d] at z; cases z⟩
  keep := fun i h h' st k => st.at fun o e => k it (by simp) o e
  item := by
    intro X hP hw hK hc i pins s σ H E I hf st hg
    subst hP hw hK
    obtain ⟨xs, x, hq, hx⟩ := hg
    obtain ⟨its, rv, p, hz⟩ := I.list hq
    obtain ⟨u, hu, ru⟩ := rv.get hx
    obtain ⟨f0, f1, f2, f3, f4, f5⟩ := hf it (by simp)
    refine wpAny_pyNext_list_item st p.isList (x := u) (by simpa using hu) fun h' st' sb => ?_
    have I1 : Inv X pins σ H { s with heap := h' } := I.turned (t' := s.toks) (fun b o hb e => (sb.2 b hb).trans e) f0 f1 f3 f4 f5
    obtain ⟨o, e, c, d⟩ := id st'
    exact ⟨u, rfl, go_of (s := { s with heap := h' }) e c d (by decide) ⟨x, H, I1, ru, ⟨rfl, fun ys hy => by rw [I.list_inj hy hq]; exact hx⟩, st', fun b hb => (hf b hb).1⟩⟩
  done := by
    intro X hP hw hK hc i pins s σ H E I hf st hg
    subst hP hw hK
    obtain ⟨xs, hq, hx⟩ := hg
    obtain ⟨its, rv, p, hz⟩ := I.list hq
    obtain ⟨f0, f1, f2, f3, f4, f5⟩ := hf it (by simp)
    have hl := rv.length
    exact wpAny_pyNext_list_end (I.ok.hd hc) st p.isList (by simp; omega) fun h' eb => ⟨rfl, I.turned (t' := s.toks) (fun b o hb e => eb b o hb e) f0 f1 f3 f4 f5⟩
  self := fun _ _ _ _ _ st h => wpAny_pyIter_listiter st h
theorem turn_tuple {P : Program} {w : World} {K : PySem.W.Frag} {tg : Expr} (a it : Addr) : Turn P w K tg (Itt K a) [it] it (fun i h => h.IsTupleIter it a i) where
  mem := by simp
  obj := fun i h st b hb => by
    have e : b = it := by simpa using hb
    subst e
    obtain ⟨o, e, c, d⟩ := st
    exact ⟨o, e, fun v z => by rw [d] at z; cases z⟩
  keep := fun i h h' st k => st.at fun o e => k it (by simp) o e
  item := by
    intro X hP hw hK hc i pins s σ H E I hf st hg
    subst hP hw hK
    obtain ⟨xs, x, hq, hx⟩ := hg
    obtain ⟨its, rv, p, hz⟩ := I.tuple hq
    obtain ⟨u, hu, ru⟩ := rv.get hx
    obtain ⟨f0, f1, f2, f3, f4, f5⟩ := hf it (by simp)
    refine wpAny_pyNext_tuple_item st (show s.heap.IsTuple a its.toArray from p) (x := u) (by simpa using hu) fun h' st' sb => ?_
    have I1 : Inv X pins σ H { s with heap := h' } := I.turned (t' := s.toks) (fun b o hb e => (sb.2 b hb).trans e) f0 f1 f3 f4 f5
    obtain ⟨o, e, c, d⟩ := id st'
    exact ⟨u, rfl, go_of (s := { s with heap := h' }) e c d (by decide) ⟨x, H, I1, ru, ⟨rfl, fun ys hy => by rw [I.tuple_inj hy hq]; exact hx⟩, st', fun b hb => (hf b hb).1⟩⟩
  done := by
    intro X hP hw hK hc i pins s σ H E I hf st hg
    subst hP hw hK
    obtain ⟨xs, hq, hx⟩ := hg
    obtain ⟨its, rv, p, hz⟩ := I.tuple hq
    obtain ⟨f0, f1, f2, f3, f4, f5⟩ := hf it (by simp)
    have hl := rv.length
    exact wpAny_pyNext_tuple_end (I.ok.hd hc) st (show s.heap.IsTuple a its.toArray from p) (by simp; omega) fun h' eb => ⟨rfl, I.turned (t' := s.toks) (fun b o hb e => eb b o hb e) f0 f1 f3 f4 f5⟩
  self := fun _ _ _ _ _ st h => wpAny_pyIter_tupleiter st h
theorem turn_range {P : Program} {w : World} {K : PySem.W.Frag} {tg : Expr} (it : Addr) (lo : Int) (n : Nat) : Turn P w K tg (Itr lo n) [it] it (fun i h => IsRangeIter h it (lo + (i : Nat) * 1) ((n : Int) - (i : Nat)) 1) where
  mem := by simp
  obj := fun i h st b hb => by
    have e : b = it := by simpa using hb
    subst e
    exact ⟨_, st, fun v z => by
      have z' : Data.fields _ = Data.cell v := z
      cases z'⟩
  keep := fun i h h' st k => k it (by simp) _ st
  item := by
    intro X hP hw hK hc i pins s σ H E I hf st hg
    subst hP hw hK
    obtain ⟨f0, f1, f2, f3, f4, f5⟩ := hf it (by simp)
    have W := Walks.range (prog := X.prog) (w := X.w) (I.ok.hd hc) it lo 1 n
    refine W.item i s _ _ hg st fun v h' tk hv st' kk => ?_
    obtain ⟨t, rfl⟩ := hv
    have I1 : Inv X pins σ H { s with heap := h', toks := tk } := I.turned (fun b o hb e => kk b o (by simpa using hb) e) f0 f1 f3 f4 f5
    refine ⟨_, rfl, go_of (s := { s with heap := h', toks := tk }) (n := "range_iterator") st' rfl rfl (by decide) ⟨.int (lo + i), H, I1, ⟨t, ?_⟩, ⟨rfl, rfl⟩, st', fun b hb => (hf b hb).1⟩⟩
    rw [Int.mul_one]
  done := by
    intro X hP hw hK hc i pins s σ H E I hf st hg
    subst hP hw hK
    obtain ⟨f0, f1, f2, f3, f4, f5⟩ := hf it (by simp)
    exact wpAny_pyNext_range_end (I.ok.hd hc) st (by have : n ≤ i := hg; omega) fun h' eb => ⟨rfl, I.turned (t' := s.toks) (fun b o hb e => eb b o hb e) f0 f1 f3 f4 f5⟩
  self := fun _ _ _ _ _ st h => wpAny_pyIter_rangeiter st h
end L2

namespace L2
open PySem PySem.Spec PyProof.Rows
section
variable {X : Cx} {tg : Expr}
def iList (K : PySem.W.Frag) (tl : TE) : TI := fun σ H R => tl σ H fun x H1 => ∃ a, x = .ref a ∧ (∃ xs, SqL K H1 a xs) ∧ R (Itl K a) H1
def iTup (K : PySem.W.Frag) (tl : TE) : TI := fun σ H R => tl σ H fun x H1 => ∃ a, x = .ref a ∧ (∃ xs, SqT K H1 a xs) ∧ R (Itt K a) H1
theorem pi_list {l : Expr} {tl : TE} (hl : PE X l tl) : PI X tg l (iList X.K tl) := by
  intro pins s σ H R I h
  refine thn (hl pins s σ H _ I h) fun v s1 ⟨x, H1, I1, r1, q1⟩ => ?_
  obtain ⟨a, e, ⟨xs, hq⟩, q⟩ := q1
  subst e
  cases r1
  obtain ⟨its, rv, p, hz⟩ := I1.list hq
  refine wpAny_pyIter_list p.isList ?_
  refine ⟨s1.heap.objs.size, [s1.heap.objs.size], _, _, H1, rfl, I1.kept (t' := s1.toks) fun b o e => Heap.get?_push_of_some _ e, turn_list a _, ⟨_, Heap.get?_push_size _ rfl, rfl, rfl⟩, fun b hb => ?_, q⟩
  have e : b = s1.heap.objs.size := by simpa using hb
  subst e
  exact I1.fpOk (Nat.le_refl _) (I1.hok.fresh (Nat.le_refl _))
theorem pi_tup {l : Expr} {tl : TE} (hl : PE X l tl) : PI X tg l (iTup X.K tl) := by
  intro pins s σ H R I h
  refine thn (hl pins s σ H _ I h) fun v s1 ⟨x, H1, I1, r1, q1⟩ => ?_
  obtain ⟨a, e, ⟨xs, hq⟩, q⟩ := q1
  subst e
  cases r1
  obtain ⟨its, rv, p, hz⟩ := I1.tuple hq
  refine wpAny_pyIter_tuple (show s1.heap.IsTuple a its.toArray from p) ?_
  refine ⟨s1.heap.objs.size, [s1.heap.objs.size], _, _, H1, rfl, I1.kept (t' := s1.toks) fun b o e => Heap.get?_push_of_some _ e, turn_tuple a _, ⟨_, Heap.get?_push_size _ rfl, rfl, rfl⟩, fun b hb => ?_, q⟩
  have e : b = s1.heap.objs.size := by simpa using hb
  subst e
  exact I1.fpOk (Nat.le_refl _) (I1.hok.fresh (Nat.le_refl _))

theorem range_it {pins : List (Addr × Obj)} {σ : St} {H : Hp} {s : Shared} {R : It → Hp → Prop} {E : Value → Shared → Prop} {lo hi : Int} {t u v : Tok} {tk : Nat} (I : Inv X pins σ H s) (h1 : -(2 ^ 62) ≤ lo) (h2 : lo < 2 ^ 62) (h3 : -(2 ^ 62) ≤ hi) (h4 : hi < 2 ^ 62)
    (q : R (Itr lo (hi - lo).toNat) H) : wpAny (model X.prog X.w) X.A (pyIter (.ref s.heap.objs.size)) (PIE X pins σ tg R) E { s with heap := s.heap.push { cls := .type "range", data := .fields #[.int lo t, .int hi u, .int 1 v] }, toks := tk } := by
  refine wpAny_pyIter_range (IsRange.new ..) (small_one h1 h2 h3 h4) ?_
  have I1 : Inv X pins σ H { s with heap := s.heap.push { cls := .type "range", data := .fields #[.int lo t, .int hi u, .int 1 v] }, toks := tk } := I.kept fun b o e => Heap.get?_push_of_some _ e
  refine ⟨(s.heap.push { cls := .type "range", data := .fields #[.int lo t, .int hi u, .int 1 v] }).objs.size, [(s.heap.push { cls := .type "range", data := .fields #[.int lo t, .int hi u, .int 1 v] }).objs.size], _, _, H, rfl,
    I1.kept (t' := tk) fun b o e => Heap.get?_push_of_some _ e, turn_range _ lo (hi - lo).toNat, ?_, fun b hb => ?_, q⟩
  · have e1 : lo + ((0 : Nat) : Int) * 1 = lo := by simp
    have e2 : (((hi - lo).toNat : Nat) : Int) - ((0 : Nat) : Int) = Builtin.Range.rangeSize lo hi 1 := by rw [rangeSize_one]; split <;> omega
    show IsRangeIter _ _ (lo + ((0 : Nat) : Int) * 1) ((((hi - lo).toNat : Nat) : Int) - ((0 : Nat) : Int)) 1
    rw [e1, e2]
    exact Heap.get?_push_size _ rfl
  · have e : b = (s.heap.push { cls := .type "range", data := .fields #[.int lo t, .int hi u, .int 1 v] }).objs.size := by simpa using hb
    subst e
    exact I1.fpOk (Nat.le_refl _) (I1.hok.fresh (Nat.le_refl _))
def iRng1 (ta : TA) : TI := fun σ H R => ta σ H fun vs H1 => ∃ j : Int, vs = [.int j] ∧ -(2 ^ 62) ≤ j ∧ j < 2 ^ 62 ∧ R (Itr 0 j.toNat) H1
def iRng2 (ta : TA) : TI := fun σ H R => ta σ H fun vs H1 => ∃ i j : Int, vs = [.int i, .int j] ∧ (-(2 ^ 62) ≤ i ∧ i < 2 ^ 62 ∧ -(2 ^ 62) ≤ j ∧ j < 2 ^ 62) ∧ R (Itr i (j - i).toNat) H1
theorem pi_range1 {a : Expr} {ta : TA} {p pos : Pos} (hg : Gl X "range") (hm : X.mg "range" = none) (ha : PA X [a] ta) (hs : starEach [a] X.env = [(false, eval a X.env)] := by rfl) : PI X tg (.Call (.Name "range" p) [a] [] pos) (iRng1 ta) := by
  intro pins s σ H R I h
  refine Call_ (ld_blt I hg hm boot_range (PyProof.Rows.callWith_type1 (thn (ha pos pins s σ H _ I h) fun us s1 ⟨vs, H1, I1, r1, q1⟩ => ?_) hs rfl))
  obtain ⟨j, e, q1, q2, q⟩ := q1
  subst e
  cases r1 with
  | cons r rr =>
    cases rr
    obtain ⟨t, rfl⟩ := r
    exact call_range_1 (range_it I1 (by omega) (by omega) q1 q2 (by simpa using q))
def tFor (wi : TI) (g : TG) (tb : TS) : TS := fun D σ H => wi σ H fun J H1 => ∃ W : Nat → Nat → St → Hp → Prop, (∃ m, W 0 m σ H1) ∧ ∀ i m σ H, W i m σ H →
  (J.stop i H ∧ D.nx σ H) ∨ (J.go i H ∧ ∃ N : St → Hp → Prop, (∀ σ' H', N σ' H' → ∃ m', m' < m ∧ W (i + 1) m' σ' H') ∧ ∀ x H', J.yld i H x H' → g x σ H' fun σ2 H2 => tb { D with nx := N, ct := N, bk := D.nx } σ2 H2)

def pinsAt (fp : List Addr) (h : Heap) : List (Addr × Obj) := fp.filterMap fun b => (h.get? b).map fun o => (b, o)
theorem mem_pinsAt {fp : List Addr} {h : Heap} {b : Addr} {o : Obj} (hb : b ∈ fp) (e : h.get? b = some o) : (b, o) ∈ pinsAt fp h := List.mem_filterMap.mpr ⟨b, hb, by rw [e]; rfl⟩
theorem of_pinsAt {fp : List Addr} {h : Heap} {p : Addr × Obj} (hp : p ∈ pinsAt fp h) : p.1 ∈ fp ∧ h.get? p.1 = some p.2 := by
  obtain ⟨b, hb, e⟩ := List.mem_filterMap.mp hp
  cases q : h.get? b with
  | none => rw [q] at e; cases e
  | some o =>
    rw [q] at e
    have e' : (b, o) = p := Option.some.inj e
    subst e'
    exact ⟨hb, q⟩
theorem Inv.pinned {pins : List (Addr × Obj)} {σ : St} {H : Hp} {s : Shared} {fp : List Addr} (I : Inv X pins σ H s) (hf : ∀ b ∈ fp, FpOk X pins H b) (ho : ∀ b ∈ fp, ∃ o, s.heap.get? b = some o ∧ ∀ v, o.data ≠ .cell v) : Inv X (pins ++ pinsAt fp s.heap) σ H s :=
  I.pins_of fun p hp => (List.mem_append.mp hp).elim (fun z => I.pin p (List.mem_append_right _ z)) fun z => by
    obtain ⟨hb, e⟩ := of_pinsAt z
    obtain ⟨f0, f1, f2, _⟩ := hf p.1 hb
    obtain ⟨o, e', d⟩ := ho p.1 hb
    rw [e] at e'; cases e'
    exact ⟨e, f0, f1, f2, d⟩
theorem Inv.unpinned {pins pl : List (Addr × Obj)} {σ : St} {H : Hp} {s : Shared} (I : Inv X (pins ++ pl) σ H s) : Inv X pins σ H s := I.pins_of fun p hp => I.pin p (List.mem_append_right _ (List.mem_append_left _ hp))
theorem ps_for {iter : Expr} {body : List Stmt} {wi : TI} {g : TG} {tb : TS} {pos : Pos} (hp : PassesOwn (model X.prog X.w) X.A X.env X.xe) (hc : X.calm = true) (hi : PI X tg iter wi) (hg : PG X tg g) (hb : PSs X body tb)
    (hs : ∀ x, foldedSetIterable iter X.env x = pure x := by intro _; rfl) : PS X (.For tg iter body [] pos) (tFor wi g tb) := by
  intro pins s σ H D I h
  refine wpAny_For (thn (hi pins s σ H _ I h) fun v s1 h1 => thn h1 fun itv s2 h2 => ?_) hs
  obtain ⟨it, fp, tn, J, H2, e, I2, T, st2, f2, W, ⟨m0, w0⟩, turn⟩ := h2
  subst e
  have stat : ∀ {H' : Hp}, (∀ b ∈ fp, H' b = none) → ∀ b ∈ fp, FpOk X pins H' b := fun hn b hb => ⟨hn b hb, (f2 b hb).2⟩
  refine codeAny_forLoop_any (fun n s' => ∃ i σ' H', Inv X pins σ' H' s' ∧ tn i s'.heap ∧ (∀ b ∈ fp, H' b = none) ∧ W i n σ' H') ?_ m0 ⟨0, σ, H2, I2, st2, fun b hb => (f2 b hb).1, w0⟩
  rintro n s3 ⟨i, σ3, H3, I3, st3, fr3, w3⟩
  rcases turn i n σ3 H3 w3 with ⟨stop, qn⟩ | ⟨go, N, hN, step⟩
  · refine wpAny_passesOwn hp (thn (T.done X rfl rfl rfl hc i pins s3 σ3 H3 X.xe I3 (stat fr3) st3 stop) fun r s4 ⟨hr, I4⟩ => ?_)
    subst hr
    exact wpAny_execs_nil ⟨σ3, H3, I4, qn⟩
  · refine wpAny_passesOwn hp (thn (T.item X rfl rfl rfl hc i pins s3 σ3 H3 X.xe I3 (stat fr3) st3 go) fun r s4 ⟨u, hr, h4⟩ => ?_)
    subst hr
    refine wpAny_passesOwn hp (thn h4 fun _ s5 ⟨x, H5, I5, r5, y5, st5, fr5⟩ => ?_)
    have I5' := I5.pinned (stat fr5) (T.obj _ _ st5)
    refine wpAny_passesOwn hp (thn (hg _ s5 σ3 H5 x u _ I5' r5 (step x H5 y5)) fun _ s6 ⟨σ6, H6, I6, q6⟩ => ?_)
    refine wpAny_passesOwn hp (thn (hb _ s6 σ6 H6 _ I6 q6) fun f s7 q7 => ?_)
    have again : ∀ {σ7 : St} {H7 : Hp}, Inv X (pins ++ pinsAt fp s5.heap) σ7 H7 s7 → N σ7 H7 → ∃ m, m < n ∧ ∃ i σ' H', Inv X pins σ' H' s7 ∧ tn i s7.heap ∧ (∀ b ∈ fp, H' b = none) ∧ W i m σ' H' := fun {σ7 H7} I7 n7 => by
      obtain ⟨m', hm, w7⟩ := hN σ7 H7 n7
      refine ⟨m', hm, i + 1, σ7, H7, I7.unpinned, T.keep _ _ _ st5 fun b hb o e => (I7.pin (b, o) (List.mem_append_right _ (List.mem_append_right _ (mem_pinsAt hb e)))).1, fun b hb => ?_, w7⟩
      obtain ⟨o, e, d⟩ := T.obj _ _ st5 b hb
      exact (I7.pin (b, o) (List.mem_append_right _ (List.mem_append_right _ (mem_pinsAt hb e)))).2.1
    cases f with
    | next => obtain ⟨σ7, H7, I7, n7⟩ := q7; exact again I7 n7
    | cont => obtain ⟨σ7, H7, I7, n7⟩ := q7; exact again I7 n7
    | brk => obtain ⟨σ7, H7, I7, q7⟩ := q7; exact ⟨σ7, H7, I7.unpinned, q7⟩
    | ret v => obtain ⟨x7, σ7, H7, I7, r7, q7⟩ := q7; exact ⟨x7, σ7, H7, I7.unpinned, r7, q7⟩
end



theorem for_list {K : PySem.W.Frag} {a : Addr} {xs : List V} {g : TG} {tb : TS} {D : Ends} {σ : St} {H : Hp} (Pv : Nat → St → Hp → Prop) (h0 : Pv 0 σ H) (hl : ∀ i σ H, i ≤ xs.length → Pv i σ H → SqL K H a xs)
    (hs : ∀ i x σ H, xs[i]? = some x → Pv i σ H → g x σ H fun σ2 H2 => tb { D with nx := Pv (i + 1), ct := Pv (i + 1), bk := D.nx } σ2 H2) (hd : ∀ σ H, Pv xs.length σ H → D.nx σ H) :
    ∃ W : Nat → Nat → St → Hp → Prop, (∃ m, W 0 m σ H) ∧ ∀ i m σ H, W i m σ H →
      ((Itl K a).stop i H ∧ D.nx σ H) ∨ ((Itl K a).go i H ∧ ∃ N : St → Hp → Prop, (∀ σ' H', N σ' H' → ∃ m', m' < m ∧ W (i + 1) m' σ' H') ∧ ∀ x H', (Itl K a).yld i H x H' → g x σ H' fun σ2 H2 => tb { D with nx := N, ct := N, bk := D.nx } σ2 H2) := by
  refine ⟨fun i m σ H => m = xs.length - i ∧ i ≤ xs.length ∧ Pv i σ H, ⟨xs.length, by simp, Nat.zero_le _, h0⟩, ?_⟩
  rintro i m σ H ⟨rfl, hi, p⟩
  have q := hl i σ H hi p
  by_cases hlt : i < xs.length
  · refine .inr ⟨⟨xs, xs[i], q, by simp [hlt]⟩, Pv (i + 1), fun σ' H' p' => ⟨xs.length - (i + 1), by omega, rfl, hlt, p'⟩, fun x H' y => ?_⟩
    obtain ⟨e, y⟩ := y
    subst e
    exact hs i x σ _ (y xs q) p
  · have e : i = xs.length := by omega
    subst e
    exact .inl ⟨⟨xs, q, Nat.le_refl _⟩, hd σ H p⟩
theorem for_tup {K : PySem.W.Frag} {a : Addr} {xs : List V} {g : TG} {tb : TS} {D : Ends} {σ : St} {H : Hp} (Pv : Nat → St → Hp → Prop) (h0 : Pv 0 σ H) (hl : ∀ i σ H, i ≤ xs.length → Pv i σ H → SqT K H a xs)
    (hs : ∀ i x σ H, xs[i]? = some x → Pv i σ H → g x σ H fun σ2 H2 => tb { D with nx := Pv (i + 1), ct := Pv (i + 1), bk := D.nx } σ2 H2) (hd : ∀ σ H, Pv xs.length σ H → D.nx σ H) :
    ∃ W : Nat → Nat → St → Hp → Prop, (∃ m, W 0 m σ H) ∧ ∀ i m σ H, W i m σ H →
      ((Itt K a).stop i H ∧ D.nx σ H) ∨ ((Itt K a).go i H ∧ ∃ N : St → Hp → Prop, (∀ σ' H', N σ' H' → ∃ m', m' < m ∧ W (i + 1) m' σ' H') ∧ ∀ x H', (Itt K a).yld i H x H' → g x σ H' fun σ2 H2 => tb { D with nx := N, ct := N, bk := D.nx } σ2 H2) := by
  refine ⟨fun i m σ H => m = xs.length - i ∧ i ≤ xs.length ∧ Pv i σ H, ⟨xs.length, by simp, Nat.zero_le _, h0⟩, ?_⟩
  rintro i m σ H ⟨rfl, hi, p⟩
  have q := hl i σ H hi p
  by_cases hlt : i < xs.length
  · refine .inr ⟨⟨xs, xs[i], q, by simp [hlt]⟩, Pv (i + 1), fun σ' H' p' => ⟨xs.length - (i + 1), by omega, rfl, hlt, p'⟩, fun x H' y => ?_⟩
    obtain ⟨e, y⟩ := y
    subst e
    exact hs i x σ _ (y xs q) p
  · have e : i = xs.length := by omega
    subst e
    exact .inl ⟨⟨xs, q, Nat.le_refl _⟩, hd σ H p⟩
theorem for_range {lo : Int} {n : Nat} {g : TG} {tb : TS} {D : Ends} {σ : St} {H : Hp} (Pv : Nat → St → Hp → Prop) (h0 : Pv 0 σ H)
    (hs : ∀ i σ H, i < n → Pv i σ H → g (.int (lo + i)) σ H fun σ2 H2 => tb { D with nx := Pv (i + 1), ct := Pv (i + 1), bk := D.nx } σ2 H2) (hd : ∀ σ H, Pv n σ H → D.nx σ H) :
    ∃ W : Nat → Nat → St → Hp → Prop, (∃ m, W 0 m σ H) ∧ ∀ i m σ H, W i m σ H →
      ((Itr lo n).stop i H ∧ D.nx σ H) ∨ ((Itr lo n).go i H ∧ ∃ N : St → Hp → Prop, (∀ σ' H', N σ' H' → ∃ m', m' < m ∧ W (i + 1) m' σ' H') ∧ ∀ x H', (Itr lo n).yld i H x H' → g x σ H' fun σ2 H2 => tb { D with nx := N, ct := N, bk := D.nx } σ2 H2) := by
  refine ⟨fun i m σ H => m = n - i ∧ i ≤ n ∧ Pv i σ H, ⟨n, by simp, Nat.zero_le _, h0⟩, ?_⟩
  rintro i m σ H ⟨rfl, hi, p⟩
  by_cases hlt : i < n
  · refine .inr ⟨hlt, Pv (i + 1), fun σ' H' p' => ⟨n - (i + 1), by omega, rfl, hlt, p'⟩, fun x H' y => ?_⟩
    obtain ⟨e, y⟩ := y
    subst e y
    exact hs i σ _ hlt p
  · have e : i = n := by omega
    subst e
    exact .inl ⟨Nat.le_refl _, hd σ H p⟩

end L2

namespace L2
open PySem PySem.Spec PyProof.Rows

abbrev R2 := V → V → Hp → VK → Prop

def OpR (X : Cx) (f : Value → Value → Sem Value) (r : R2) : Prop :=
  ∀ (pins : List (Addr × Obj)) (s : Shared) (σ : St) (H : Hp) (x y : V) (v u : Value) (Q : VK), Inv X pins σ H s → RelV x v → RelV y u → r x y H Q →
    wpAny (model X.prog X.w) X.A (f v u) (EP X pins σ Q) X.xe s

def UnR (X : Cx) (f : Value → Sem Value) (r : V → Hp → VK → Prop) : Prop :=
  ∀ (pins : List (Addr × Obj)) (s : Shared) (σ : St) (H : Hp) (x : V) (v : Value) (Q : VK), Inv X pins σ H s → RelV x v → r x H Q →
    wpAny (model X.prog X.w) X.A (f v) (EP X pins σ Q) X.xe s

def CallR (X : Cx) (f : Value) (r : List V → Hp → VK → Prop) : Prop :=
  ∀ (pins : List (Addr × Obj)) (s : Shared) (σ : St) (H : Hp) (xs : List V) (us : List Value) (Q : VK), Inv X pins σ H s → Vals xs us → r xs H Q →
    wpAny (model X.prog X.w) X.A (call f us) (EP X pins σ Q) X.xe s

def TruR (X : Cx) (r : V → Hp → (Bool → Hp → Prop) → Prop) : Prop :=
  ∀ (pins : List (Addr × Obj)) (s : Shared) (σ : St) (H : Hp) (x : V) (v : Value) (Q : Bool → Hp → Prop), Inv X pins σ H s → RelV x v → r x H Q →
    wpAny (model X.prog X.w) X.A (truthy v) (TP X pins σ Q) X.xe s

def tOp (r : R2) (ta tb : TE) : TE := fun σ H Q => ta σ H fun x H1 => tb σ H1 fun y H2 => r x y H2 Q
def tUn (r : V → Hp → VK → Prop) (ta : TE) : TE := fun σ H Q => ta σ H fun x H1 => r x H1 Q

def rI (C : Int → Int → Prop) (g : Int → Int → V) : R2 := fun x y H Q => ∃ i j, x = .int i ∧ y = .int j ∧ C i j ∧ Q (g i j) H
def rI0 (g : Int → Int → V) : R2 := fun x y H Q => ∃ i j, x = .int i ∧ y = .int j ∧ Q (g i j) H
def rU (g : Int → V) : V → Hp → VK → Prop := fun x H Q => ∃ i, x = .int i ∧ Q (g i) H

section
variable {X : Cx} {a b c : Expr} {ta tb tc : TE} {pos : Pos}

theorem binT (ha : PE X a ta) (hb : PE X b tb) {pins : List (Addr × Obj)} {s : Shared} {σ : St} {H : Hp} {R : V → V → Hp → Prop} (I : Inv X pins σ H s)
    (h : ta σ H fun x H1 => tb σ H1 fun y H2 => R x y H2) {Q : Value → Shared → Prop} {f : Value → Value → Sem Value}
    (hf : ∀ v u s2 x y H2, Inv X pins σ H2 s2 → RelV x v → RelV y u → R x y H2 → wpAny (model X.prog X.w) X.A (f v u) Q X.xe s2) :
    wpAny (model X.prog X.w) X.A (eval a X.env) (fun v s₁ => wpAny (model X.prog X.w) X.A (eval b X.env) (fun u s₂ => wpAny (model X.prog X.w) X.A (f v u) Q X.xe s₂) X.xe s₁) X.xe s := by
  refine thn (ha pins s σ H _ I h) fun v s1 ⟨x, H1, I1, r1, q1⟩ => ?_
  refine thn (hb pins s1 σ H1 _ I1 q1) fun u s2 ⟨y, H2, I2, r2, q2⟩ => ?_
  exact hf v u s2 x y H2 I2 r1 r2 q2

theorem pe_op {op : Operator} {r : R2} (ho : OpR X (binaryOp op) r) (ha : PE X a ta) (hb : PE X b tb) : PE X (.BinOp a op b pos) (tOp r ta tb) := by
  intro pins s σ H Q I h
  exact wpAny_BinOp (binT ha hb I h fun v u s2 x y H2 I2 rx ry q => ho pins s2 σ H2 x y v u Q I2 rx ry q)
theorem pe_un {op : UnaryOp} {r : V → Hp → VK → Prop} (ho : UnR X (unaryOp op) r) (ha : PE X a ta) : PE X (.UnaryOp op a pos) (tUn r ta) := by
  intro pins s σ H Q I h
  exact UnaryOp_ (thn (ha pins s σ H _ I h) fun v s1 ⟨x, H1, I1, r1, q1⟩ => ho pins s1 σ H1 x v Q I1 r1 q1)

theorem opI {f : Value → Value → Sem Value} {C : Int → Int → Prop} {g : Int → Int → Int}
    (rule : ∀ (i j : Int) (t u : Tok) (s : Shared) (Q : Value → Shared → Prop) (E : Value → Shared → Prop), C i j → Q (.int (g i j) s.toks) { s with toks := s.toks + 1 } → wpAny (model X.prog X.w) X.A (f (.int i t) (.int j u)) Q E s) :
    OpR X f (rI C fun i j => .int (g i j)) := by
  intro pins s σ H x y v u Q I rx ry h
  obtain ⟨i, j, rfl, rfl, hc, q⟩ := h
  obtain ⟨t, rfl⟩ := rx
  obtain ⟨t', rfl⟩ := ry
  exact rule i j t t' s _ _ hc ⟨.int (g i j), H, I.tok _, ⟨_, rfl⟩, q⟩
theorem opI0 {f : Value → Value → Sem Value} {g : Int → Int → Int}
    (rule : ∀ (i j : Int) (t u : Tok) (s : Shared) (Q : Value → Shared → Prop) (E : Value → Shared → Prop), Q (.int (g i j) s.toks) { s with toks := s.toks + 1 } → wpAny (model X.prog X.w) X.A (f (.int i t) (.int j u)) Q E s) :
    OpR X f (rI0 fun i j => .int (g i j)) := by
  intro pins s σ H x y v u Q I rx ry h
  obtain ⟨i, j, rfl, rfl, q⟩ := h
  obtain ⟨t, rfl⟩ := rx
  obtain ⟨t', rfl⟩ := ry
  exact rule i j t t' s _ _ ⟨.int (g i j), H, I.tok _, ⟨_, rfl⟩, q⟩
theorem opB0 {f : Value → Value → Sem Value} {g : Int → Int → Bool}
    (rule : ∀ (i j : Int) (t u : Tok) (s : Shared) (Q : Value → Shared → Prop) (E : Value → Shared → Prop), Q (.bool (g i j)) s → wpAny (model X.prog X.w) X.A (f (.int i t) (.int j u)) Q E s) :
    OpR X f (rI0 fun i j => .bl (g i j)) := by
  intro pins s σ H x y v u Q I rx ry h
  obtain ⟨i, j, rfl, rfl, q⟩ := h
  obtain ⟨t, rfl⟩ := rx
  obtain ⟨t', rfl⟩ := ry
  exact rule i j t t' s _ _ ⟨.bl (g i j), H, I, rfl, q⟩

def CDiv (i j : Int) : Prop := 0 < j ∧ j < 1073741824
def CDivN (i j : Int) : Prop := j ≠ 0 ∧ j.natAbs < 1073741824
def CPow (i j : Int) : Prop := 0 ≤ j ∧ j ≤ 1000000 ∧ i.natAbs < 2 ^ 64
def CMul (i j : Int) : Prop := (-(2 ^ 64) < i ∧ i < 2 ^ 64) ∨ (-(2 ^ 64) < j ∧ j < 2 ^ 64)
theorem CMul.ok {i j : Int} (h : CMul i j) : IntMulOk i j := by
  rcases h with ⟨h1, h2⟩ | ⟨h1, h2⟩
  · exact .of_left (intBits_le_64 h1 h2)
  · exact .of_right (intBits_le_64 h1 h2)
theorem op_add : OpR X (binaryOp .Add) (rI0 fun i j => .int (i + j)) := opI0 fun _ _ _ _ _ _ _ q => add_int q
theorem op_sub : OpR X (binaryOp .Sub) (rI0 fun i j => .int (i - j)) := opI0 fun _ _ _ _ _ _ _ q => sub_int q
theorem op_fdiv : OpR X (binaryOp .FloorDiv) (rI CDiv fun i j => .int (i / j)) := opI fun i j _ _ _ _ _ hc q => by
  have h1 : (0 : Int) < j := hc.1
  have h2 : j < 1073741824 := hc.2
  exact floordiv_int (by omega) (by rw [Int.fdiv_eq_ediv_of_nonneg i (by omega)]; exact q) (.inl (PyProof.noPylong_small (by omega)))
theorem op_mod : OpR X (binaryOp .Mod) (rI (fun _ j => 0 < j) fun i j => .int (i % j)) := opI fun i j _ _ _ _ _ hc q => by
  have h1 : (0 : Int) < j := hc
  exact mod_int' (by omega) (by rw [Int.fmod_eq_emod_of_nonneg i (by omega)]; exact q)
theorem unI {f : Value → Sem Value} {g : Int → Int}
    (rule : ∀ (i : Int) (t : Tok) (s : Shared) (Q : Value → Shared → Prop) (E : Value → Shared → Prop), Q (.int (g i) s.toks) { s with toks := s.toks + 1 } → wpAny (model X.prog X.w) X.A (f (.int i t)) Q E s) :
    UnR X f (rU fun i => .int (g i)) := by
  intro pins s σ H x v Q I rx h
  obtain ⟨i, rfl, q⟩ := h
  obtain ⟨t, rfl⟩ := rx
  exact rule i t s _ _ ⟨.int (g i), H, I.tok _, ⟨_, rfl⟩, q⟩
theorem un_neg : UnR X (unaryOp .USub) (rU fun i => .int (-i)) := unI fun _ _ _ _ _ q => neg_int q
end



def scal : V → V → Bool
  | .non, .non => true | .non, .int _ => true | .int _, .non => true | .non, .bl _ => true | .bl _, .non => true | .non, .str _ => true | .str _, .non => true
  | .int _, .int _ => true | .bl _, .bl _ => true | .str _, .str _ => true | .byt _, .byt _ => true
  | .int _, .str _ => true | .str _, .int _ => true | .bl _, .str _ => true | .str _, .bl _ => true
  | _, _ => false
def rEq : R2 := fun x y H Q => scal x y = true ∧ Q (.bl (decide (x = y))) H
def rNe : R2 := fun x y H Q => scal x y = true ∧ Q (.bl (!decide (x = y))) H

theorem dec_int {i j : Int} : decide (V.int i = V.int j) = (i == j) := by
  rw [Bool.eq_iff_iff]
  simp
theorem dec_bl {i j : Bool} : decide (V.bl i = V.bl j) = (i == j) := by
  rw [Bool.eq_iff_iff]
  simp
theorem dec_str {i j : Str} : decide (V.str i = V.str j) = (i == j) := by
  rw [Bool.eq_iff_iff]
  simp
theorem dec_byt {i j : Array UInt8} : decide (V.byt i = V.byt j) = (i.toList == j.toList) := by
  rw [Bool.eq_iff_iff]
  cases i
  cases j
  simp

section
variable {X : Cx} {a b c : Expr} {ta tb tc : TE} {pos : Pos}
theorem fin_bl {pins : List (Addr × Obj)} {σ : St} {H : Hp} {s : Shared} {Q : VK} {k k' : Bool} (I : Inv X pins σ H s) (q : Q (.bl k) H) (e : k = k') : EP X pins σ Q (.bool k') s := by
  subst e
  exact ⟨.bl k, H, I, rfl, q⟩
theorem op_eq : OpR X (compareOp .Eq) rEq := by
  intro pins s σ H x y v u Q I rx ry h
  obtain ⟨hs, q⟩ := h
  cases x with
  | non =>
    cases rx
    cases y with
    | non => cases ry; exact PySem.EqNone.eq_none_none (fin_bl I q (by simp))
    | bl j => cases ry; exact PySem.EqNone.eq_none_bool (fin_bl I q (by simp))
    | int j => obtain ⟨t', rfl⟩ := ry; exact PySem.EqNone.eq_none_int (fin_bl I q (by simp))
    | str j => obtain ⟨t', rfl⟩ := ry; exact PySem.EqNone.eq_none_str (fin_bl I q (by simp))
    | _ => exact absurd (show false = true from hs) Bool.false_ne_true
  | bl i =>
    cases rx
    cases y with
    | non => cases ry; exact PySem.EqNone.eq_bool_none (fin_bl I q (by simp))
    | bl j => cases ry; exact eq_bool (fin_bl I q dec_bl)
    | str j => obtain ⟨t', rfl⟩ := ry; exact PySem.EqMixed.eq_bool_str (fin_bl I q (by simp))
    | _ => exact absurd (show false = true from hs) Bool.false_ne_true
  | int i =>
    obtain ⟨t, rfl⟩ := rx
    cases y with
    | non => cases ry; exact PySem.EqNone.eq_int_none (fin_bl I q (by simp))
    | int j => obtain ⟨t', rfl⟩ := ry; exact eq_int (fin_bl I q dec_int)
    | str j => obtain ⟨t', rfl⟩ := ry; exact PySem.EqMixed.eq_int_str (fin_bl I q (by simp))
    | _ => exact absurd (show false = true from hs) Bool.false_ne_true
  | str i =>
    obtain ⟨t, rfl⟩ := rx
    cases y with
    | non => cases ry; exact PySem.EqNone.eq_str_none (fin_bl I q (by simp))
    | bl j => cases ry; exact PySem.EqMixed.eq_str_bool (fin_bl I q (by simp))
    | int j => obtain ⟨t', rfl⟩ := ry; exact PySem.EqMixed.eq_str_int (fin_bl I q (by simp))
    | str j => obtain ⟨t', rfl⟩ := ry; exact eq_str (fin_bl I q dec_str)
    | _ => exact absurd (show false = true from hs) Bool.false_ne_true
  | byt i =>
    obtain ⟨t, rfl⟩ := rx
    cases y with
    | byt j => obtain ⟨t', rfl⟩ := ry; exact PySem.W.eq_bytes (fin_bl I q dec_byt)
    | _ => exact absurd (show false = true from hs) Bool.false_ne_true
  | _ => cases y <;> exact absurd (show false = true from hs) Bool.false_ne_true
theorem op_ne : OpR X (compareOp .NotEq) rNe := by
  intro pins s σ H x y v u Q I rx ry h
  obtain ⟨hs, q⟩ := h
  cases x with
  | non =>
    cases rx
    cases y with
    | non => cases ry; exact PySem.EqNone.ne_none_none (fin_bl I q (by simp))
    | bl j => cases ry; exact PySem.EqNone.ne_none_bool (fin_bl I q (by simp))
    | int j => obtain ⟨t', rfl⟩ := ry; exact PySem.EqNone.ne_none_int (fin_bl I q (by simp))
    | str j => obtain ⟨t', rfl⟩ := ry; exact PySem.EqNone.ne_none_str (fin_bl I q (by simp))
    | _ => exact absurd (show false = true from hs) Bool.false_ne_true
  | bl i =>
    cases rx
    cases y with
    | non => cases ry; exact PySem.EqNone.ne_bool_none (fin_bl I q (by simp))
    | bl j => cases ry; exact ne_bool (fin_bl I q (congrArg not dec_bl))
    | str j => obtain ⟨t', rfl⟩ := ry; exact PySem.EqMixed.ne_bool_str (fin_bl I q (by simp))
    | _ => exact absurd (show false = true from hs) Bool.false_ne_true
  | int i =>
    obtain ⟨t, rfl⟩ := rx
    cases y with
    | non => cases ry; exact PySem.EqNone.ne_int_none (fin_bl I q (by simp))
    | int j => obtain ⟨t', rfl⟩ := ry; exact ne_int (fin_bl I q (congrArg not dec_int))
    | str j => obtain ⟨t', rfl⟩ := ry; exact PySem.EqMixed.ne_int_str (fin_bl I q (by simp))
    | _ => exact absurd (show false = true from hs) Bool.false_ne_true
  | str i =>
    obtain ⟨t, rfl⟩ := rx
    cases y with
    | non => cases ry; exact PySem.EqNone.ne_str_none (fin_bl I q (by simp))
    | bl j => cases ry; exact PySem.EqMixed.ne_str_bool (fin_bl I q (by simp))
    | int j => obtain ⟨t', rfl⟩ := ry; exact PySem.EqMixed.ne_str_int (fin_bl I q (by simp))
    | str j => obtain ⟨t', rfl⟩ := ry; exact ne_str (fin_bl I q (congrArg not dec_str))
    | _ => exact absurd (show false = true from hs) Bool.false_ne_true
  | byt i =>
    obtain ⟨t, rfl⟩ := rx
    cases y with
    | byt j => obtain ⟨t', rfl⟩ := ry; exact PySem.W.ne_bytes (fin_bl I q (congrArg not dec_byt))
    | _ => exact absurd (show false = true from hs) Bool.false_ne_true
  | _ => cases y <;> exact absurd (show false = true from hs) Bool.false_ne_true

theorem op_lt : OpR X (compareOp .Lt) (rI0 fun i j => .bl (decide (i < j))) := opB0 fun _ _ _ _ _ _ _ q => lt_int q
theorem op_le : OpR X (compareOp .LtE) (rI0 fun i j => .bl (decide (i ≤ j))) := opB0 fun _ _ _ _ _ _ _ q => le_int q
theorem op_gt : OpR X (compareOp .Gt) (rI0 fun i j => .bl (decide (j < i))) := opB0 fun _ _ _ _ _ _ _ q => gt_int q
theorem op_ge : OpR X (compareOp .GtE) (rI0 fun i j => .bl (decide (j ≤ i))) := opB0 fun _ _ _ _ _ _ _ q => ge_int q
theorem op_isN : OpR X (compareOp .Is) (fun x y H Q => y = .non ∧ Q (.bl (decide (x = .non))) H) := by
  intro pins s σ H x y v u Q I rx ry h
  obtain ⟨rfl, q⟩ := h
  cases ry
  refine is_none_gen (fin_bl I q ?_)
  cases x <;> first
    | (cases rx; rfl)
    | (obtain ⟨t, rfl⟩ := rx; rfl)
theorem op_notN : OpR X (compareOp .IsNot) (fun x y H Q => y = .non ∧ Q (.bl (!decide (x = .non))) H) := by
  intro pins s σ H x y v u Q I rx ry h
  obtain ⟨rfl, q⟩ := h
  cases ry
  refine isnot_none_gen (fin_bl I q ?_)
  cases x <;> first
    | (cases rx; rfl)
    | (obtain ⟨t, rfl⟩ := rx; rfl)

def isObj : HO → Bool
  | .lst _ => true
  | .ins _ _ _ => true
  | _ => false
theorem nomark (b : Expr) {op : CmpOp} (h : op ≠ .In := by decide) (h2 : op ≠ .NotIn := by decide) : behindInMarks op b = false := by
  have e1 : (op == CmpOp.In) = false := by cases op <;> first | rfl | exact absurd rfl h
  have e2 : (op == CmpOp.NotIn) = false := by cases op <;> first | rfl | exact absurd rfl h2
  cases b <;> simp [behindInMarks, e1, e2]

theorem pe_cmpR {op : CmpOp} {r : R2} (ho : OpR X (compareOp op) r) (ha : PE X a ta) (hb : PE X b tb) (hm : behindInMarks op b = false) : PE X (.Compare a [op] [b] pos) (tOp r ta tb) := by
  intro pins s σ H Q I h
  exact wpAny_Compare1 (binT ha hb I h fun v u s2 x y H2 I2 rx ry q => ho pins s2 σ H2 x y v u Q I2 rx ry q) hm

def tTest (t : TE) : TT := fun σ H Q => t σ H fun x H' => ∃ k, x = .bl k ∧ Q k H'
theorem pt_cmpR {op : CmpOp} {r : R2} (ho : OpR X (compareOp op) r) (ha : PE X a ta) (hb : PE X b tb) (hm : behindInMarks op b = false) : PT X (.Compare a [op] [b] pos) (tTest (tOp r ta tb)) := by
  intro pins s σ H Q I h
  refine wpAny_isTrue_Compare1 (thn (ha pins s σ H _ I h) fun v s1 ⟨x, H1, I1, r1, q1⟩ => thn (hb pins s1 σ H1 _ I1 q1) fun u s2 ⟨y, H2, I2, r2, q2⟩ =>
    thn (ho pins s2 σ H2 x y v u _ I2 r1 r2 q2) fun c s3 ⟨z, H3, I3, r3, k, e, q3⟩ => ?_) hm
  subst e
  cases r3
  exact wpAny_truthy_bool ⟨H3, I3, q3⟩

def tChain (r r' : R2) (ta tb tc : TE) : TE := fun σ H Q => ta σ H fun x H1 => tb σ H1 fun y H2 => r x y H2 fun z H3 => ∃ k, z = .bl k ∧
  (if k = true then tc σ H3 fun w' H4 => r' y w' H4 Q else Q (.bl false) H3)
theorem pe_chain {op op' : CmpOp} {r r' : R2} (ho : OpR X (compareOp op) r) (ho' : OpR X (compareOp op') r') (ha : PE X a ta) (hb : PE X b tb) (hc : PE X c tc)
    (hm : lastMarks [op, op'] [b, c] = false := by with_unfolding_all rfl) : PE X (.Compare a [op, op'] [b, c] pos) (tChain r r' ta tb tc) := by
  intro pins s σ H Q I h
  refine Compare_chain (thn (ha pins s σ H _ I h) fun v s1 ⟨x, H1, I1, r1, q1⟩ => chain_link (thn (hb pins s1 σ H1 _ I1 q1) fun u s2 ⟨y, H2, I2, r2, q2⟩ =>
    thn (ho pins s2 σ H2 x y v u _ I2 r1 r2 q2) fun d s3 ⟨z, H3, I3, r3, k, e, q3⟩ => ?_)) hm
  subst e
  cases r3
  refine wpAny_truthy_bool ?_
  cases k with
  | false => exact ite_ff ⟨.bl false, H3, I3, rfl, q3⟩
  | true => exact ite_tt (chain_last (thn (hc pins s3 σ H3 _ I3 q3) fun w' s4 ⟨z', H4, I4, r4, q4⟩ => ho' pins s4 σ H4 y z' u w' Q I4 r2 r4 q4))
def TruV (K : PySem.W.Frag) (x : V) (H : Hp) (k : Bool) : Prop :=
  match x with
  | .non => k = false
  | .bl b => k = b
  | .int i => k = (i != 0)
  | .str y => y.length ≤ sizeLine ∧ k = ((y.length : Int) != 0)
  | .byt y => y.size ≤ sizeLine ∧ k = ((y.size : Int) != 0)
  | .ref p => (∃ xs, SqL K H p xs ∧ k = !xs.isEmpty) ∨ (∃ xs, SqT K H p xs ∧ k = !xs.isEmpty) ∨ ∃ kvs, H p = some (.dK kvs) ∧ k = !kvs.isEmpty
  | _ => False
theorem line63 : (sizeLine : Nat) < 2 ^ 63 := by rw [sizeLine_eq]; decide
def PlainIxT (b : Expr) : Prop := ∀ o i, subscripted b false o i = operate [o, i] (getItem o i)

theorem vals1 {x : V} {us : List Value} (r : Vals [x] us) : ∃ u, us = [u] ∧ RelV x u := by
  cases r with
  | cons r1 r2 => cases r2; exact ⟨_, rfl, r1⟩
theorem vals2 {x y : V} {us : List Value} (r : Vals [x, y] us) : ∃ u w', us = [u, w'] ∧ RelV x u ∧ RelV y w' := by
  cases r with
  | cons r1 r2 =>
    cases r2 with
    | cons r3 r4 => cases r4; exact ⟨_, _, rfl, r1, r3⟩
theorem call_max2 (hc : X.calm = true) : CallR X (.builtin "max") (fun xs H Q => ∃ i j, xs = [.int i, .int j] ∧ Q (.int (if j > i then j else i)) H) := by
  intro pins s σ H xs us Q I r h
  obtain ⟨i, j, rfl, q⟩ := h
  obtain ⟨u, w', rfl, ⟨t, rfl⟩, ⟨t', rfl⟩⟩ := vals2 r
  refine max_two_ints (I.ok.hd hc) fun h' tk k => ⟨_, H, I.kept k, ?_, q⟩
  by_cases hj : j > i
  · rw [if_pos hj, if_pos hj]; exact ⟨_, rfl⟩
  · rw [if_neg hj, if_neg hj]; exact ⟨_, rfl⟩
def LenV (K : PySem.W.Frag) (x : V) (H : Hp) (n : Nat) : Prop :=
  match x with
  | .str y => y.length ≤ sizeLine ∧ n = y.length
  | .byt y => y.size ≤ sizeLine ∧ n = y.size
  | .ref p => (∃ xs, SqL K H p xs ∧ n = xs.length) ∨ ∃ xs, SqT K H p xs ∧ n = xs.length
  | _ => False
end
end L2

namespace L2
open PySem PySem.Spec PyProof.Rows


structure ObjM (h : Heap) (x dx C : Addr) (mA : Str → Option Value) : Prop where
  obj : h.get? x = some (PySem.W.instObj C dx)
  ns : h.Ns1 dx mA
  ne : dx ≠ x

theorem lookIn_ns {h : Heap} {dx : Addr} {mA : Str → Option Value} (n : h.Ns1 dx mA) : ∃ od, h.get? dx = some od ∧ ∀ name, PySem.W.lookIn name od = some (mA name) := by
  obtain ⟨o, es, ep, ho, hd, hk, _, hm⟩ := n
  refine ⟨o, ho, fun name => ?_⟩
  have e := hm name
  unfold nsFind findBy at e
  rw [← Array.find?_toList] at e
  unfold PySem.W.lookIn
  rw [hd]
  dsimp only
  split
  · rename_i y q
    rw [q] at e
    exact congrArg some e
  · rename_i q
    rw [q] at e
    have a : es.toList.any (·.refKey) = false := by
      rw [List.any_eq_false]
      intro y hy
      obtain ⟨z, t, hkey⟩ := hk y (Array.mem_toList_iff.mp hy)
      simp [DictEntry.refKey, hkey]
    have a' : ¬ es.toList.any (·.refKey) = true := by rw [a]; exact Bool.false_ne_true
    rw [if_neg a']
    exact congrArg some e

theorem ObjM.look {h : Heap} {x dx C : Addr} {mA : Str → Option Value} (I : ObjM h x dx C mA) : ∃ od, PySem.W.InstAt h x (PySem.W.instObj C dx) C (some od) ∧ ∀ name, PySem.W.lookIn name od = some (mA name) :=
  let ⟨od, ho, hl⟩ := lookIn_ns I.ns
  ⟨od, ⟨I.obj, rfl, rfl, ho⟩, hl⟩

section
variable {prog : Program} {w : World} {A : Around} {E : Value → Shared → Prop} {s : Shared} {K : PySem.W.Frag} {x dx C f : Addr} {mA : Str → Option Value} {name : Str} {v : Value}

end


def putF (f : Str) (v : V) : List (Str × V) → List (Str × V)
  | [] => [(f, v)]
  | (g, x) :: r => if g = f then (g, v) :: r else (g, x) :: putF f v r
theorem RelO.some_of {v : V} {o : Option Value} (r : RelO (some v) o) : ∃ u, o = some u ∧ RelV v u := by
  cases o with
  | none => exact (show False from r).elim
  | some u => exact ⟨u, rfl, r⟩
theorem RelO.none_of {o : Option Value} (r : RelO none o) : o = none := by
  cases o with
  | none => rfl
  | some u => exact (show False from r).elim
theorem handed_of {v : V} {u : Value} (r : RelV v u) : PySem.W.handedIn u = true := by
  cases v with
  | non => cases (show u = Value.none from r); rfl
  | bl b => cases (show u = Value.bool b from r); rfl
  | int i => obtain ⟨t, e⟩ := (show ∃ t, u = Value.int i t from r); cases e; rfl
  | str x => obtain ⟨t, e⟩ := (show ∃ t, u = Value.str x t from r); cases e; rfl
  | byt b => obtain ⟨t, e⟩ := (show ∃ t, u = Value.bytes b t from r); cases e; rfl
  | flt b => obtain ⟨t, e⟩ := (show ∃ t, u = Value.float b t from r); cases e; rfl
  | ref a => cases (show u = Value.ref a from r); rfl
  | ty n => cases (show u = Value.type n from r); rfl

section
variable {P : Program} {w : World} {H H' : Hp} {h h' : Heap} {a C dx : Addr} {fs fs' : List (Str × V)}
end


structure Cls (K : PySem.W.Frag) (C : Addr) : Prop where
  pg : PySem.W.plainGet K C Str.empty = true
  hd : PySem.W.hasDictIn K C = true
  po : PySem.W.plainOver K C = true
  sa : PySem.W.findIn K (.ref C) "__setattr__" = some (some (.builtin "object.__setattr__"))
theorem Cls.get {K : PySem.W.Frag} {C : Addr} (c : Cls K C) (f : Str) : PySem.W.plainGet K C f = true := c.pg

def NoAttr (K : PySem.W.Frag) (C : Addr) (f : Str) : Prop := PySem.W.findIn K (.ref C) f = some none
structure Con (K : PySem.W.Frag) (C : Addr) (f : Str) (v : V) (u : Value) : Prop where
  at_ : PySem.W.findIn K (.ref C) f = some (some u)
  rel : RelV v u
  get : PySem.W.specialIn K u "__get__" = some none
  cp : PySem.W.copiedNames.contains f = false

structure Meth (K : PySem.W.Frag) (C : Addr) (m : Str) (f : Addr) : Prop where
  at_ : PySem.W.findIn K (.ref C) m = some (some (.ref f))
  fn : PySem.W.isFn K (.ref f) = true
  kp : PySem.W.keepIn K (.ref f) = true

section
variable {X : Cx} {pins : List (Addr × Obj)} {σ : St} {H : Hp} {s : Shared} {a C dx : Addr} {fs : List (Str × V)} {f : Str} {v : V} {A : Around} {E : Value → Shared → Prop}

theorem attr_of {prog : Program} {w : World} {env : Env} {e : Expr} {f : Str} {pos : Pos} {s : Shared} {Q : Value → Shared → Prop} (hb : attributeBase e f env (eval e env) = eval e env)
    (h : wpAny (model prog w) A (eval e env) (fun o s₁ => wpAny (model prog w) A (getAttr o f true) Q E s₁) E s) : wpAny (model prog w) A (eval (.Attribute e f pos) env) Q E s :=
  Attribute_any_ h (by rw [arm_eval_Attribute, hb])
end



def tFld (K : PySem.W.Frag) (ta : TE) (f : Str) : TE := fun σ H Q => ta σ H fun x H1 => ∃ a C dx fs v, x = .ref a ∧ H1 a = some (.ins C dx fs) ∧ Cls K C ∧ NoAttr K C f ∧ fs.lookup f = some v ∧ Q v H1

def tCon (K : PySem.W.Frag) (ta : TE) (f : Str) : TE := fun σ H Q => ta σ H fun x H1 => ∃ a C dx fs v u, x = .ref a ∧ H1 a = some (.ins C dx fs) ∧ Cls K C ∧ Con K C f v u ∧ fs.lookup f = none ∧ Q v H1

def sFld (K : PySem.W.Frag) (ta tv : TE) (f : Str) : TS := fun D σ H => tv σ H fun y H1 => ta σ H1 fun x H2 => ∃ a C dx fs, x = .ref a ∧ H2 a = some (.ins C dx fs) ∧ Cls K C ∧ NoAttr K C f ∧ fs.length < 1000 ∧
  D.nx σ (upd H2 a (.ins C dx (putF f y fs)))

def InOp (X : Cx) (op : Operator) (rd : V → V → Hp → VK → Prop) : Prop :=
  ∀ (pins : List (Addr × Obj)) (s : Shared) (σ : St) (H : Hp) (x y : V) (u v : Value) (Q : VK), Inv X pins σ H s → RelV x u → RelV y v → rd x y H Q → wpAny (model X.prog X.w) X.A (inplaceOp op u v) (EP X pins σ Q) X.xe s

def sFldAug (K : PySem.W.Frag) (ta tv : TE) (rd : V → V → Hp → VK → Prop) (f : Str) : TS := fun D σ H => ta σ H fun x H1 => ∃ a C dx fs v, x = .ref a ∧ H1 a = some (.ins C dx fs) ∧ Cls K C ∧ NoAttr K C f ∧ fs.lookup f = some v ∧
  tv σ H1 fun y H2 => rd v y H2 fun z H3 => ∃ dx' fs', H3 a = some (.ins C dx' fs') ∧ fs'.length < 1000 ∧ D.nx σ (upd H3 a (.ins C dx' (putF f z fs')))

section
variable {X : Cx} {o e value : Expr} {f : Str} {pos pos' tpos : Pos} {ta tv : TE}
def rAdd : V → V → Hp → VK → Prop := fun x y H Q => ∃ i j, x = .int i ∧ y = .int j ∧ Q (.int (i + j)) H
def rSub : V → V → Hp → VK → Prop := fun x y H Q => ∃ i j, x = .int i ∧ y = .int j ∧ Q (.int (i - j)) H
end


section
variable {X : Cx} {pins : List (Addr × Obj)} {σ : St} {H : Hp} {s : Shared} {A : Around} {E : Value → Shared → Prop} {Q : Value → Shared → Prop} {c : Value} {b : Bool}

inductive TyOf (K : PySem.W.Frag) (H : Hp) : V → Value → Prop where
  | non : TyOf K H .non (.type "NoneType")
  | bl (x : Bool) : TyOf K H (.bl x) (.type "bool")
  | int (i : Int) : TyOf K H (.int i) (.type "int")
  | str (x : Str) : TyOf K H (.str x) (.type "str")
  | flt (x : UInt64) : TyOf K H (.flt x) (.type "float")
  | lst {a : Addr} {xs : List V} (e : H a = some (.lst xs)) : TyOf K H (.ref a) (.type "list")
  | frz {a : Addr} {o : Obj} {xs : List V} (e : H a = some (.frz o (.lst xs))) : TyOf K H (.ref a) (.type "list")
  | tup {a : Addr} {xs : List V} (e : H a = some (.tup xs)) : TyOf K H (.ref a) (.type "tuple")
  | dK {a : Addr} {kvs : List (Key × V)} (e : H a = some (.dK kvs)) : TyOf K H (.ref a) (.type "dict")
  | dT {a : Addr} {kvs : List (List Key × V)} (e : H a = some (.dT kvs)) : TyOf K H (.ref a) (.type "dict")
  | ins {a C dx : Addr} {fs : List (Str × V)} (e : H a = some (.ins C dx fs)) (cl : Cls K C) (ha : PySem.W.findIn K (.ref C) "__class__" = some (some (.builtin "object.__class__")))
      (hn : PySem.W.specialIn K (.builtin "object.__class__") "__get__" = some (some (.builtin "getset_descriptor.__get__"))) (htk : PySem.W.takesIn K (.builtin "object.__class__") = some true)
      (hm : PySem.W.mroIn K C (.type "object") = some true) : TyOf K H (.ref a) (.ref C)

end
end L2

namespace L2
open PySem PySem.Spec PyProof.Rows


structure Room (k : Nat) (A : Around) : Prop where
  hd : A.handled = none
  dp : A.depth + 3 * k + 5 < recursionLimit
  un : A.units + 16 * k + 200 < cLine
  gd : A.guards = some []
theorem Room.mono {j k : Nat} {A : Around} (r : Room k A) (h : j ≤ k) : Room j A := ⟨r.hd, by have := r.dp; omega, by have := r.un; omega, r.gd⟩
theorem Room.deeper {k : Nat} {A : Around} (r : Room (k + 1) A) (env : Env) : Room k (A.deeper env) :=
  ⟨r.hd, by have := r.dp; show A.depth + 1 + 3 * k + 5 < _; omega, by have := r.un; show A.units + 3 + 16 * k + 200 < _; omega, r.gd⟩
theorem Room.in1 {k : Nat} {A : Around} (r : Room (k + 1) A) : Room k A.in1 :=
  ⟨r.hd, by have := r.dp; show A.depth + 3 * k + 5 < _; omega, by have := r.un; show A.units + 1 + 16 * k + 200 < _; omega, r.gd⟩
theorem make_depth {A : Around} {C : Addr} {us : List Value} {kw : List (Str × Value)} : (A.under (.builtin "type.__call__" ⟨.ref C :: us, kw⟩)).depth = A.depth + 1 := by
  first | rfl | simp [Around.under, Code.weight, Code.isCreation, Code.isGuard, Code.isCaller, Code.frames, Code.isFrame, guardIds]
theorem make_guards {A : Around} {C : Addr} {us : List Value} {kw : List (Str × Value)} : (A.under (.builtin "type.__call__" ⟨.ref C :: us, kw⟩)).guards = A.guards := by
  first | rfl | simp [Around.under, Code.weight, Code.isCreation, Code.isGuard, Code.isCaller, Code.frames, Code.isFrame, guardIds]
theorem make_units {A : Around} {C : Addr} {us : List Value} {kw : List (Str × Value)} : (A.under (.builtin "type.__call__" ⟨.ref C :: us, kw⟩)).units = A.units + 1 := by
  first | rfl | simp [Around.under, Code.cUnits, Code.frames, Code.isFrame]
theorem Room.make {k : Nat} {A : Around} (r : Room (k + 1) A) (C : Addr) (us : List Value) (kw : List (Str × Value)) : Room k (A.under (.builtin "type.__call__" ⟨.ref C :: us, kw⟩)) :=
  ⟨r.hd, by have := r.dp; rw [make_depth]; omega, by have := r.un; rw [make_units]; omega, by rw [make_guards]; exact r.gd⟩
theorem Room.depth {k : Nat} {A : Around} (r : Room k A) : A.depth < recursionLimit := by have := r.dp; omega
theorem Room.units {k : Nat} {A : Around} (r : Room k A) : A.units + 64 < cLine := by have := r.un; omega
def tNil : TA := fun _ H Q => Q [] H
def tCons (ta : TE) (tr : TA) : TA := fun σ H Q => ta σ H fun x H1 => tr σ H1 fun xs H2 => Q (x :: xs) H2
section
variable {X : Cx} {e : Expr} {es : List Expr} {te : TE} {t : TA} {pos : Pos}
theorem pa_nil : PA X [] tNil := fun _ _ _ _ H Q I h => Calls.spliced_nil ⟨[], H, I, .nil, h⟩
theorem pa_cons (ha : PE X e te) (hr : PA X es t) (hs : starEach (e :: es) X.env = (false, eval e X.env) :: starEach es X.env := by rfl) : PA X (e :: es) (tCons te t) := by
  intro pos pins s σ H Q I h
  rw [hs]
  show wpAny _ _ (spliced ((false, eval e X.env) :: backTo pos (starEach es X.env))) _ _ s
  refine Calls.spliced_cons (thn (ha pins s σ H _ I h) fun u s1 ⟨x, H1, I1, r1, q1⟩ => ?_)
  exact thn (hr pos pins s1 σ H1 _ I1 q1) fun us s2 ⟨xs, H2, I2, r2, q2⟩ => ⟨x :: xs, H2, I2, .cons r1 r2, q2⟩


def tTup (t : TA) : TE := fun σ H Q => t σ H fun xs H1 => xs.length ≤ sizeLine ∧ ∀ p, H1 p = none → Q (.ref p) (upd H1 p (.tup xs))
def tLst (t : TA) : TE := fun σ H Q => t σ H fun xs H1 => xs.length ≤ sizeLine ∧ ∀ p, H1 p = none → Q (.ref p) (upd H1 p (.lst xs))
theorem pe_tup {x1} (h : PA X es t) : PE X (.Tuple es x1 pos) (tTup t) := by
  intro pins s σ H Q I hq
  refine wpAny_Tuple_spliced (thn (h pos pins s σ H _ I hq) fun us s1 ⟨xs, H1, I1, r, z, q⟩ => ⟨by rw [← r.length]; exact z, ?_⟩)
  have hf : H1 s1.heap.objs.size = none := I1.hok.fresh (Nat.le_refl _)
  refine ⟨.ref s1.heap.objs.size, upd H1 s1.heap.objs.size (.tup xs), I1.laid (t' := s1.toks) (fun b u e => Heap.get?_push_of_some _ e) (Nat.le_refl _) ?_, rfl, q _ hf⟩
  exact ⟨z, us, r, ⟨_, Heap.get?_push_size _ rfl, rfl, rfl, _, rfl⟩⟩
theorem pe_lst (h : PA X es t) : PE X (.List es pos) (tLst t) := by
  intro pins s σ H Q I hq
  refine wpAny_List_spliced (thn (h pos pins s σ H _ I hq) fun us s1 ⟨xs, H1, I1, r, z, q⟩ => ⟨by rw [← r.length]; exact z, ?_⟩)
  have hf : H1 s1.heap.objs.size = none := I1.hok.fresh (Nat.le_refl _)
  refine ⟨.ref s1.heap.objs.size, upd H1 s1.heap.objs.size (.lst xs), I1.laid (t' := s1.toks) (fun b u e => Heap.get?_push_of_some _ e) (Nat.le_refl _) ?_, rfl, q _ hf⟩
  exact ⟨z, us, 0, r, Heap.get?_push_size _ rfl⟩
end



abbrev Sp := List V → Hp → VK → XK → Prop

abbrev CXT := List Env → Hp → Shared → XK → Value → Shared → Prop


structure Env0 (P : Program) (w : World) (K : PySem.W.Frag) (mg : Str → Option Value) (base : Heap) (A : Around) (outer : List Env) (s : Shared) (H : Hp) : Prop where
  frames : A.frames = some outer
  mod : Mod K mg base
  bs : ∀ b o, base.get? b = some o → s.heap.get? b = some o ∧ H b = none
  bsz : base.objs.size ≤ s.heap.objs.size
  funs : s.heap.FunFrames base outer
  frf : ∀ b ∈ frs outer, H b = none
  hok : HOk P w H s.heap
  bare : AllBare s.gens

def CE (outer : List Env) (P : Program) (w : World) (H : Hp) (s : Shared) (Q : VK) (u : Value) (s' : Shared) : Prop :=
  ∃ v H', s'.os = s.os ∧ AllBare s'.gens ∧ Un (frs outer) [] H H' s.heap s'.heap ∧ HOk P w H' s'.heap ∧ RelV v u ∧ Q v H'
def CR (CX : CXT) (outer : List Env) (P : Program) (w : World) (H : Hp) (s : Shared) (Q : VK) (E : XK) (r : Result) (s' : Shared) : Prop :=
  match r with
  | .ok (.ret u) => CE outer P w H s Q u s'
  | .ok _ => False
  | .error e => CX outer H s E e s'
structure FnOk (P : Program) (w : World) (K : PySem.W.Frag) (mg : Str → Option Value) (base : Heap) (CX : CXT) (k : Nat) (f : Addr) (fd : FuncData) (ps : List Str) (sp : Sp) : Prop where
  len : ∀ vs H Q E, sp vs H Q E → vs.length = ps.length
  run : ∀ (A : Around) (outer : List Env) (s : Shared) (H : Hp) (args : Args) (us : List Value) (vs : List V) (Q : VK) (E : XK), Room k A → Env0 P w K mg base A outer s H → BindsTo s fd args (ps.zip us) → Vals vs us → sp vs H Q E →
    codeAny (model P w) A (.call (.ref f) args) (CR CX outer P w H s Q E) s
theorem FnOk.mono {P : Program} {w : World} {K : PySem.W.Frag} {mg : Str → Option Value} {base : Heap} {CX : CXT} {j k : Nat} {f : Addr} {fd : FuncData} {ps : List Str} {sp : Sp} (F : FnOk P w K mg base CX j f fd ps sp) (h : j ≤ k) :
    FnOk P w K mg base CX k f fd ps sp := ⟨F.len, fun A outer s H args us vs Q E hr => F.run A outer s H args us vs Q E (hr.mono h)⟩

theorem Env0.make {P : Program} {w : World} {K : PySem.W.Frag} {mg : Str → Option Value} {base : Heap} {A : Around} {outer : List Env} {s : Shared} {H : Hp} (e : Env0 P w K mg base A outer s H) (C : Addr) (us : List Value) (kw : List (Str × Value)) :
    Env0 P w K mg base (A.under (.builtin "type.__call__" ⟨.ref C :: us, kw⟩)) outer s H := ⟨by first | exact e.frames | (simpa [Around.under, Code.envs, Code.isFrame, pushEnvs] using e.frames), e.mod, e.bs, e.bsz, e.funs, e.frf, e.hok, e.bare⟩
theorem Env0.in1 {P : Program} {w : World} {K : PySem.W.Frag} {mg : Str → Option Value} {base : Heap} {A : Around} {outer : List Env} {s : Shared} {H : Hp} (e : Env0 P w K mg base A outer s H) :
    Env0 P w K mg base A.in1 outer s H := ⟨e.frames, e.mod, e.bs, e.bsz, e.funs, e.frf, e.hok, e.bare⟩

section
variable {X : Cx} {pins : List (Addr × Obj)} {σ : St} {H : Hp} {s s' : Shared}

theorem Inv.env0 (I : Inv X pins σ H s) : Env0 X.prog X.w X.K X.mg X.base X.A X.stack s H :=
  ⟨I.ok.frames, I.ok.mod, I.bs, Nat.le_trans I.ok.bsz I.sz, I.stack, I.stkFree, I.hok, I.bare⟩

theorem Inv.after {Q : VK} {u : Value} (I : Inv X pins σ H s) (h : CE X.stack X.prog X.w H s Q u s') : EP X pins σ Q u s' := by
  obtain ⟨v, H', os, bare, un, hok, r, q⟩ := h
  obtain ⟨hh, g, d, t, os'⟩ := s'
  obtain rfl : os' = s.os := os
  exact ⟨v, H', I.call (h' := hh) (g' := g) (d' := d) (t' := t) (ch := []) un hok bare (fun b z => absurd z (by simp)), r, q⟩
end



def tCall (sp : Sp) (dvs : List V) (E : XK) (t : TA) : TE := fun σ H Q => t σ H fun vs H1 => sp (vs ++ dvs) H1 Q E

def tMeth (C : Addr) (m : Str) (sp : Sp) (dvs : List V) (E : XK) (ta : TE) (t : TA) : TE := fun σ H Q => ta σ H fun x H1 => ∃ a dx fs, x = .ref a ∧ H1 a = some (.ins C dx fs) ∧ fs.lookup m = none ∧
  t σ H1 fun vs H2 => sp (x :: (vs ++ dvs)) H2 Q E

def tMake (C : Addr) (sp : Sp) (dvs : List V) (E : XK) (t : TA) : TE := fun σ H Q => t σ H fun vs H1 => ∀ x dx, H1 x = none → H1 dx = none → dx ≠ x →
  sp (.ref x :: (vs ++ dvs)) (upd (upd H1 dx (.own x)) x (.ins C dx [])) (fun v H2 => v = .non ∧ Q (.ref x) H2) E


def Binds (K : PySem.W.Frag) (fd : FuncData) (ps : List Str) (ds : List Value) : Prop :=
  ∀ (s : Shared) (us : List Value), K.In s.heap → (us ++ ds).length = ps.length → BindsTo s fd ⟨us, []⟩ (ps.zip (us ++ ds))

theorem Binds.all {K : PySem.W.Frag} {fd : FuncData} {ps : List Str} (h : ∀ us : List Value, us.length = ps.length → bindArgs fd ⟨us, []⟩ = pure (ps.zip us)) : Binds K fd ps [] := fun s us _ hl => by
  rw [List.append_nil] at hl ⊢
  exact .of_eq (h us hl)


def Passes (CX : CXT) (X : Cx) (E : XK) : Prop := ∀ (pins : List (Addr × Obj)) (σ : St) (H : Hp) (s : Shared) (e : Value) (s' : Shared), Inv X pins σ H s → CX X.stack H s E e s' → X.xe e s'

section
variable {X : Cx} {CX : CXT} {k : Nat} {f C : Addr} {fd : FuncData} {ps : List Str} {sp : Sp} {dvs : List V} {ds : List Value} {E : XK} {x m : Str} {p pos apos : Pos} {e o : Expr} {es : List Expr} {ta : TE} {t : TA}


theorem run_fn {pins : List (Addr × Obj)} {σ : St} {H : Hp} {s : Shared} {Q : VK} {us : List Value} {vs : List V} (F : FnOk X.prog X.w X.K X.mg X.base CX k f fd ps sp) (hr : Room k X.A) (hb : Binds X.K fd ps ds) (hd : Vals dvs ds) (hx : Passes CX X E)
    (I : Inv X pins σ H s) (r : Vals vs us) (h : sp (vs ++ dvs) H Q E) : wpAny (model X.prog X.w) X.A (call (.ref f) us) (EP X pins σ Q) X.xe s := by
  have r2 : Vals (vs ++ dvs) (us ++ ds) := r.append hd
  have hl : (us ++ ds).length = ps.length := by rw [← r2.length]; exact F.len _ _ _ _ h
  refine wpAny_call (codeAny_mono (F.run X.A X.stack s H ⟨us, []⟩ (us ++ ds) (vs ++ dvs) Q E hr I.env0 (hb s us I.kIn hl) r2 h) fun r s' hq => ?_)
  cases r with
  | error e => exact hx pins σ H s e s' I hq
  | ok fl =>
    cases fl with
    | ret u => exact I.after hq
    | next => exact False.elim hq
    | brk => exact False.elim hq
    | cont => exact False.elim hq

theorem pe_call (F : FnOk X.prog X.w X.K X.mg X.base CX k f fd ps sp) (hr : Room k X.A) (hg : Gl X x) (hm : X.mg x = some (.ref f)) (hk : PySem.W.keepIn X.K (.ref f) = true) (hb : Binds X.K fd ps ds) (hd : Vals dvs ds) (hx : Passes CX X E)
    (ha : PA X (e :: es) t) (hdb : (x == ("__debug__" : Str)) = false := by decide) (he : starEach (e :: es) X.env = (false, eval e X.env) :: starEach es X.env := by rfl) (hpl : (backTo pos (starEach es X.env)).any (·.1) = false := by rfl) :
    PE X (.Call (.Name x p) (e :: es) [] pos) (tCall sp dvs E t) := by
  intro pins s σ H Q I h
  refine wpAny_Call_Name_kw (ld_glob I hg hm ?_ hdb)
  refine PySem.W.callWith_K (h₀ := X.base) I.ok.mod.kin hk (thn (ha pos pins s σ H _ I h) fun us s1 ⟨vs, H1, I1, r, q⟩ => ⟨I1.kIn, ?_⟩) he hpl
  exact run_fn F hr hb hd hx I1 r q
structure Mk (K : PySem.W.Frag) (C f : Addr) : Prop where
  makes : PySem.W.makesIn K C = true
  init : PySem.W.findIn K (.ref C) "__init__" = some (some (.ref f))
  fn : PySem.W.isFn K (.ref f) = true
  kp : PySem.W.keepIn K (.ref C) = true

end



def PK (X : Cx) (kws : List Keyword) (t : TA) : Prop :=
  ∀ (pos : Pos) (pins : List (Addr × Obj)) (s : Shared) (σ : St) (H : Hp) (Q : List V → Hp → Prop), Inv X pins σ H s → t σ H Q → wpAny (model X.prog X.w) X.A (evalAll ((backToKw pos (keywordEach kws X.env)).map (·.2))) (AP X pins σ Q) X.xe s
section
variable {X : Cx} {CX : CXT} {k : Nat} {f C : Addr} {fd : FuncData} {ps ks : List Str} {sp : Sp} {E : XK} {x m : Str} {p pos apos kpos : Pos} {e o : Expr} {es : List Expr} {kws : List Keyword} {te ta : TE} {t tk : TA} {nm : Option Str}
structure KBinds (K : PySem.W.Frag) (fd : FuncData) (ps ks : List Str) (g : List Value → List Value → List Value) (gV : List V → List V → List V) : Prop where
  to : ∀ (s : Shared) (us ws : List Value), K.In s.heap → (g us ws).length = ps.length → BindsTo s fd ⟨us, ks.zip ws⟩ (ps.zip (g us ws))
  rel : ∀ {vs : List V} {us : List Value} {zs : List V} {ws : List Value}, Vals vs us → Vals zs ws → Vals (gV vs zs) (g us ws)
def tCallK (sp : Sp) (gV : List V → List V → List V) (E : XK) (t tk : TA) : TE := fun σ H Q => t σ H fun vs H1 => tk σ H1 fun zs H2 => sp (gV vs zs) H2 Q E
variable {g : List Value → List Value → List Value} {gV : List V → List V → List V}
end



structure FnScope (N P : List Str) (sc : Scope) : Prop where
  kind : sc.kind = .function
  co : sc.isCoroutine = false
  gen : sc.isGenerator = false
  nd : N.Nodup
  pre : N.take P.length = P
  par : ∀ x ∈ P, sc.names.lookup x = some .local ∨ sc.names.lookup x = some .cell
  nofree : ∀ y ∈ sc.names, y.2 ≠ .free

theorem bindL_out {kindOf : Str → Option NameKind} {x : Str} : ∀ {binds : List (Str × Value)} {m : Str → Option Value}, (∀ v, (x, v) ∉ binds) → bindL kindOf binds m x = m x
  | [], _, _ => rfl
  | (n, v) :: r, m, h => by
    unfold bindL
    rw [bindL_out fun w hw => h w (List.mem_cons_of_mem _ hw)]
    split
    · have : x ≠ n := by rintro rfl; exact h v List.mem_cons_self
      simp [this]
    · rfl
theorem bindC_out {kindOf : Str → Option NameKind} {x : Str} : ∀ {binds : List (Str × Value)} {m : Str → Option Value}, (∀ v, (x, v) ∉ binds) → bindC kindOf binds m x = m x
  | [], _, _ => rfl
  | (n, v) :: r, m, h => by
    unfold bindC
    rw [bindC_out fun w hw => h w (List.mem_cons_of_mem _ hw)]
    split
    · rfl
    · have : x ≠ n := by rintro rfl; exact h v List.mem_cons_self
      simp [this]
theorem bindL_get {kindOf : Str → Option NameKind} {x : Str} {v : Value} : ∀ {P : List Str} {vs : List Value} {i : Nat} {m : Str → Option Value}, P.Nodup → P[i]? = some x → vs[i]? = some v → kindOf x = some .local →
    bindL kindOf (P.zip vs) m x = some v
  | [], _, _, _, _, h, _, _ => by simp at h
  | _ :: _, [], _, _, _, _, h, _ => by simp at h
  | p :: P, w :: vs, 0, m, nd, h1, h2, hk => by
    simp at h1 h2; subst h1; subst h2
    show bindL kindOf ((p, w) :: P.zip vs) m p = _
    unfold bindL
    rw [bindL_out fun v hv => (List.nodup_cons.mp nd).1 (List.of_mem_zip hv).1, if_pos hk]
    simp
  | p :: P, w :: vs, i + 1, m, nd, h1, h2, hk => by
    show bindL kindOf ((p, w) :: P.zip vs) m x = _
    unfold bindL
    exact bindL_get (i := i) (List.nodup_cons.mp nd).2 (by simpa using h1) (by simpa using h2) hk
theorem bindC_get {kindOf : Str → Option NameKind} {x : Str} {v : Value} : ∀ {P : List Str} {vs : List Value} {i : Nat} {m : Str → Option Value}, P.Nodup → P[i]? = some x → vs[i]? = some v → kindOf x ≠ some .local →
    bindC kindOf (P.zip vs) m x = some v
  | [], _, _, _, _, h, _, _ => by simp at h
  | _ :: _, [], _, _, _, _, h, _ => by simp at h
  | p :: P, w :: vs, 0, m, nd, h1, h2, hk => by
    simp at h1 h2; subst h1; subst h2
    show bindC kindOf ((p, w) :: P.zip vs) m p = _
    unfold bindC
    rw [bindC_out fun v hv => (List.nodup_cons.mp nd).1 (List.of_mem_zip hv).1, if_neg hk]
    simp
  | p :: P, w :: vs, i + 1, m, nd, h1, h2, hk => by
    show bindC kindOf ((p, w) :: P.zip vs) m x = _
    unfold bindC
    exact bindC_get (i := i) (List.nodup_cons.mp nd).2 (by simpa using h1) (by simpa using h2) hk


def start (N : List Str) (vs : List V) : St := vs.map some ++ List.replicate (N.length - vs.length) none


def cxOf (CX : CXT) (P : Program) (w : World) (K : PySem.W.Frag) (mg : Str → Option Value) (base : Heap) (N : List Str) (qual : Str) (scope : Scope) (f : Addr) (cd : Value) (A : Around) (outer : List Env) (s : Shared) (H : Hp) (E : XK) : Cx where
  prog := P
  w := w
  K := K
  mg := mg
  base := base
  A := A.deeper (envOfC qual scope s.heap.objs.size f cd)
  N := N
  s₀ := s
  H₀ := H
  env := envOfC qual scope s.heap.objs.size f cd
  outer := outer
  stack := envOfC qual scope s.heap.objs.size f cd :: outer
  ex := []
  calm := true
  fn := fun _ => true
  pn := []
  xe := fun e s' => wpAny (model P w) (A.deeper (envOfC qual scope s.heap.objs.size f cd)) (leaving (envOfC qual scope s.heap.objs.size f cd) e) (fun _ s'' => CX outer H s E e s'') (fun e' s'' => CX outer H s E e' s'') s'

theorem cell_has {sc : Scope} {n : Nat} {x : Str} (h : sc.names.lookup x = some .cell) : ∃ c, (cellsFrom n sc.names []).lookup x = some c := by
  have q := PySem.W.cellsFrom_some sc.names n [] (.inl h)
  exact Option.isSome_iff_exists.mp q

theorem inv_start {CX : CXT} {P : Program} {w : World} {K : PySem.W.Frag} {mg : Str → Option Value} {base : Heap} {N ps : List Str} {qual : Str} {scope : Scope} {f : Addr} {cd : Value} {A : Around} {outer : List Env} {s s1 : Shared} {H : Hp} {E : XK} {us : List Value} {vs : List V}
    (S : FnScope N ps scope) (hd : A.handled = none) (e0 : Env0 P w K mg base A outer s H) (hl : vs.length = ps.length) (r : Vals vs us)
    (x : InCallC s s.heap.objs.size (bindL (envOfC qual scope s.heap.objs.size f cd).kindOf (ps.zip us) fun _ => none) (cellsFrom (s.heap.objs.size + 1) scope.names []) (bindC (envOfC qual scope s.heap.objs.size f cd).kindOf (ps.zip us) fun _ => none) s1) :
    Inv (cxOf CX P w K mg base N qual scope f cd A outer s H E) [] (start N vs) H s1 := by
  have hpl : ps.length ≤ N.length := by have := congrArg List.length S.pre; rw [List.length_take] at this; omega
  obtain ⟨h1, tk, rfl, hk⟩ := x.done
  have noA : ∀ b : Addr, b ∉ (cxOf CX P w K mg base N qual scope f cd A outer s H E).ex := fun b z => absurd (show b ∈ ([] : List Addr) from z) (by simp)
  refine ⟨⟨e0.mod, S.kind, rfl, rfl, Nat.le_refl _, fun y z c h1 h2 => ?_, fun y hy => ?_, fun y c _ h => ?_, fun _ => hd, Around.frames_deeper e0.frames, .inr ⟨rfl, rfl⟩, fun b z => absurd z (noA b), e0.bs, e0.bsz, fun b _ _ => noA b, fun b z => absurd z (noA b), e0.funs, e0.frf⟩,
    rfl, e0.bare, Un.kept hk, ⟨_, x.toInCall.ns, fun i y v h1 h2 h3 => ?_⟩, fun y c h => ⟨_, x.cell y c h⟩, e0.hok.fresh (Nat.le_refl _), fun y c h => ?_, fun p hp => absurd (show p ∈ ([] : List (Addr × Obj)) from hp) (by simp), e0.hok.kept hk, ?_⟩
  · exact name_of_addr x.apart (PySem.mem_of_lookup h1) (PySem.mem_of_lookup h2)
  · have hy : scope.names.lookup y = some .cell ∨ scope.names.lookup y = some .free := hy
    rcases hy with hy | hy
    · exact cell_has hy
    · exact absurd rfl (S.nofree _ (PySem.mem_of_lookup hy))
  · exact Nat.le_of_lt (x.above y c (PySem.mem_of_lookup h))
  · have hi : i < vs.length := by
      unfold start at h2
      by_cases hi : i < vs.length
      · exact hi
      · rw [List.getElem?_append_right (by simpa using hi)] at h2
        rw [List.getElem?_replicate] at h2
        split at h2 <;> cases h2
    have ha : vs[i]? = some v := by
      unfold start at h2
      rw [List.getElem?_append_left (by simpa using hi), List.getElem?_map] at h2
      cases e : vs[i]? with
      | none => rw [e] at h2; cases h2
      | some a => rw [e] at h2; cases h2; rfl
    obtain ⟨u, hu, rv⟩ := r.get ha
    have hp : ps[i]? = some y := by
      rw [← S.pre, List.getElem?_take_of_lt (by omega)]; exact h1
    have ndP : ps.Nodup := by rw [← S.pre]; exact S.nd.sublist (List.take_sublist _ _)
    refine ⟨u, rv, ?_⟩
    rcases S.par y (List.mem_of_getElem? hp) with k | k
    · exact .inl ⟨k, bindL_get ndP hp hu k⟩
    · obtain ⟨c, e⟩ := cell_has (n := s.heap.objs.size + 1) k
      refine .inr ⟨.inl k, c, e, ?_⟩
      have q := x.cell y c e
      rw [bindC_get ndP hp hu (by show scope.names.lookup y ≠ _; rw [k]; decide)] at q
      exact q
  · exact e0.hok.fresh (Nat.le_of_lt (x.above y c (PySem.mem_of_lookup h)))
  · unfold start
    show _ = N.length
    rw [List.length_append, List.length_map, List.length_replicate]
    omega


theorem fn_of {CX : CXT} {P : Program} {w : World} {K : PySem.W.Frag} {mg : Str → Option Value} {base : Heap} {k : Nat} {f : Addr} {name qual : Str} {params : Arguments} {body : List Stmt} {scope : Scope} {dV kV doc pm cdv ct oc : Value} {an od : Option Addr}
    {osl : Array (Option Value)} {N ps : List Str} {sp : Sp} (lk : K.lookup f = some ⟨oc, od, .func (PySem.W.fnOf name qual params body scope dV kV doc pm an cdv ct), osl⟩) (hcd : PySem.W.codeIn K cdv qual = true) (S : FnScope N ps scope)
    (len : ∀ vs H Q E, sp vs H Q E → vs.length = ps.length)
    (hbody : ∀ (A : Around) (outer : List Env) (s : Shared) (H : Hp) (vs : List V) (Q : VK) (E : XK), Room k (A.deeper (envOfC qual scope s.heap.objs.size f cdv)) → sp vs H Q E →
      ∃ t, PSs (cxOf CX P w K mg base N qual scope f cdv A outer s H E) body t ∧ t { nx := fun _ H' => Q .non H', rt := Q } (start N vs) H) :
    FnOk P w K mg base CX (k + 1) f (PySem.W.fnOf name qual params body scope dV kV doc pm an cdv ct) ps sp := by
  refine ⟨len, fun A outer s H args us vs Q E hr e0 hb r hsp => ?_⟩
  have hl := len _ _ _ _ hsp
  have KX : K.In s.heap := e0.mod.kin.keeps fun b o e => (e0.bs b o e).1
  have lim : s.heap.NoLimit := e0.mod.nolimit.keeps fun b o e => (e0.bs b o e).1
  have hkind : ∀ y ∈ ps.zip us, scope.names.lookup y.1 = some .local ∨ (scope.names.lookup y.1 = some .cell ∧ ((cellsFrom (s.heap.objs.size + 1) scope.names []).lookup y.1).isSome = true) := fun ⟨n, v⟩ hy => by
    rcases S.par n (List.of_mem_zip hy).1 with q | q
    · exact .inl q
    · exact .inr ⟨q, PySem.W.cellsFrom_some _ _ _ (.inl q)⟩
  refine codeAny_call_function hr.depth (KX _ _ lk) rfl S.co S.gen rfl (PySem.W.codeRec_of KX hcd) (hb _ _ _ _ ?_)
  refine wpAny_newFunctionEnv_cells S.kind hkind fun env he s1 x => ?_
  subst he
  refine ⟨lim.keeps x.toInCall.keep, codeAny_func ?_⟩
  obtain ⟨t, ht, hq⟩ := hbody A outer s H vs Q E (hr.deeper _) hsp
  have I : Inv (cxOf CX P w K mg base N qual scope f cdv A outer s H E) [] (start N vs) H s1 := inv_start S hr.hd e0 hl r x
  refine wpAny_mono (ht [] s1 (start N vs) H _ I hq) (fun fl s' hs => ?_) fun e s' hs => hs
  have fin : ∀ {σ' : St} {H' : Hp} {v : V} {u : Value}, Inv (cxOf CX P w K mg base N qual scope f cdv A outer s H E) [] σ' H' s' → RelV v u → Q v H' → CE outer P w H s Q u s' :=
    fun {σ' H' v u} J rv q => ⟨v, H', J.os, J.bare, J.base, J.hok, rv, q⟩
  cases fl with
  | ret u =>
    obtain ⟨v, σ', H', J, rv, q⟩ := hs
    exact fin J rv q
  | next =>
    obtain ⟨σ', H', J, q⟩ := hs
    exact fin (v := V.non) (u := Value.none) J rfl q
  | brk =>
    obtain ⟨_, _, _, q⟩ := hs
    exact False.elim q
  | cont =>
    obtain ⟨_, _, _, q⟩ := hs
    exact False.elim q
end L2

namespace L2
open PySem PySem.Spec PyProof.Rows
section
variable {X : Cx} {x : Str} {p pos : Pos} {e : Expr} {es : List Expr} {t : TA} {id T : String} {r : List V → Hp → VK → Prop}

def tCB (r : List V → Hp → VK → Prop) (t : TA) : TE := fun σ H Q => t σ H fun vs H1 => r vs H1 Q

theorem pe_callB (hc : CallR X (.builtin id) r) (hg : Gl X x) (hm : X.mg x = none) (hv : bootBuiltins x = some (.builtin id)) (ha : PA X (e :: es) t) (hn : x ≠ "__name__" := by decide) (hdb : (x == ("__debug__" : Str)) = false := by decide)
    (he : starEach (e :: es) X.env = (false, eval e X.env) :: starEach es X.env := by rfl) (hpl : (backTo pos (starEach es X.env)).any (·.1) = false := by rfl) : PE X (.Call (.Name x p) (e :: es) [] pos) (tCB r t) := by
  intro pins s σ H Q I h
  refine wpAny_Call_Name_kw (ld_blt I hg hm hv ?_ hn hdb)
  exact PyProof.Rows.callWith_builtin1 (thn (ha pos pins s σ H _ I h) fun us s1 ⟨vs, H1, I1, r1, q1⟩ => hc pins s1 σ H1 vs us Q I1 r1 q1) he hpl

theorem pe_callTy (hc : CallR X (.type T) r) (hg : Gl X x) (hm : X.mg x = none) (hv : bootBuiltins x = some (.type T)) (ha : PA X (e :: es) t) (hn : x ≠ "__name__" := by decide) (hdb : (x == ("__debug__" : Str)) = false := by decide)
    (he : starEach (e :: es) X.env = (false, eval e X.env) :: starEach es X.env := by rfl) (hpl : (backTo pos (starEach es X.env)).any (·.1) = false := by rfl) : PE X (.Call (.Name x p) (e :: es) [] pos) (tCB r t) := by
  intro pins s σ H Q I h
  refine wpAny_Call_Name_kw (ld_blt I hg hm hv ?_ hn hdb)
  exact PyProof.Rows.callWith_type1 (thn (ha pos pins s σ H _ I h) fun us s1 ⟨vs, H1, I1, r1, q1⟩ => hc pins s1 σ H1 vs us Q I1 r1 q1) he hpl

end
end L2

namespace HT
open PySem PyProof.Rows


def lexLt : List Int → List Int → Bool
  | [], [] => false
  | [], _ :: _ => true
  | _ :: _, [] => false
  | x :: xs, y :: ys => if x = y then lexLt xs ys else decide (x < y)
section
open PySem.SeqAt
open PySem.AutoSeq1 (wpAny_loadPart')
open PySem.MeetsSeq PySem.MeetsSeq2 PySem.MeetsSeq3

end

section
variable {prog : Program} {w : World} {A : Around} {E : Value → Shared → Prop} {s : Shared}

theorem cat_tup {t b : Addr} {vs ws : List Value} {Q : Value → Shared → Prop} (ht : IsTup s.heap t vs.toArray) (hb : IsTup s.heap b ws.toArray) (hv : vs ≠ [])
    (h1 : ws = [] → Q (.ref t) s) (h2 : ws ≠ [] → Q (.ref s.heap.objs.size) { s with heap := s.heap.push { cls := .type "tuple", data := .seq (vs ++ ws).toArray } })
    (hsz : vs.length + ws.length ≤ sizeLine) : wpAny (model prog w) A (binaryOp .Add (.ref t) (.ref b)) Q E s := by
  obtain ⟨⟨cls, dd, data, sl⟩, ho, hc, n, hd⟩ := id ht
  obtain ⟨⟨cls2, dd2, data2, sl2⟩, ho2, hc2, n2, hd2⟩ := id hb
  simp only at hc hd hc2 hd2
  subst hc hd hc2 hd2
  have e : vs.toArray ++ ws.toArray = (vs ++ ws).toArray := by simp
  by_cases hw : ws = []
  · exact concat_meets ⟨_, ho, rfl⟩ ⟨_, ho2, rfl⟩ noFill_tuple_add seq_tuple_add PySem.F.slot_tuple_add PySem.F.entry_tuple_add (PySem.F.args_tuple_add_2 _ _)
      (tuple_addW1 t b vs.toArray ws.toArray n n2 dd dd2 sl sl2 (by simpa using hv) (by simp [hw])) ⟨ho, ho2, h1 hw⟩
  · refine concat_meets ⟨_, ho, rfl⟩ ⟨_, ho2, rfl⟩ noFill_tuple_add seq_tuple_add PySem.F.slot_tuple_add PySem.F.entry_tuple_add (PySem.F.args_tuple_add_2 _ _)
      (tuple_addW2 t b vs.toArray ws.toArray n n2 dd dd2 sl sl2 (by simpa using hv) (by simpa using hw) (by rw [List.size_toArray, List.size_toArray]; exact hsz)) ⟨ho, ho2, ?_⟩
    rw [e]
    exact h2 hw



def sIx (n d : Nat) : Option Int → Nat
  | none => d
  | some v => if v < 0 then (v + (n : Int)).toNat else min v.toNat n
theorem sIx_none (n d : Nat) : sIx n d none = d := rfl
theorem sIx_nat (n d k : Nat) : sIx n d (some (k : Int)) = min k n := by
  show (if (k : Int) < 0 then ((k : Int) + (n : Int)).toNat else min (k : Int).toNat n) = min k n
  rw [if_neg (by omega), Int.toNat_natCast]
theorem sIx_le (n d : Nat) (hd : d ≤ n) (o : Option Int) : sIx n d o ≤ n := by
  cases o with
  | none => exact hd
  | some v =>
    show (if v < 0 then (v + (n : Int)).toNat else min v.toNat n) ≤ n
    by_cases hv : v < 0
    · rw [if_pos hv]; omega
    · rw [if_neg hv]; exact Nat.min_le_right _ _
theorem clip_eq (v : Int) (n d : Nat) : (if v < 0 then max (v + (n : Int)) 0 else min v (n : Int)) = ((sIx n d (some v) : Nat) : Int) := by
  show (if v < 0 then max (v + (n : Int)) 0 else min v (n : Int)) = (((if v < 0 then (v + (n : Int)).toNat else min v.toNat n) : Nat) : Int)
  by_cases hv : v < 0
  · simp only [if_pos hv]; omega
  · simp only [if_neg hv]; omega
theorem adjust_gen (lo hi : Option Int) (n : Nat) : Builtin.Slice.sliceAdjust lo hi 1 (n : Int) = (((sIx n 0 lo : Nat) : Int), ((sIx n n hi : Nat) : Int)) := by
  have h1 : ¬ ((1 : Int) < 0) := by omega
  unfold Builtin.Slice.sliceAdjust
  simp only [h1, if_false]
  refine Prod.ext ?_ ?_
  · cases lo with
    | none => rfl
    | some v => exact clip_eq v n 0
  · cases hi with
    | none => rfl
    | some v => exact clip_eq v n n
theorem places_gen (i j : Nat) : Builtin.Slice.slicePlaces (i : Int) (j : Int) 1 = j - i := by
  unfold Builtin.Slice.slicePlaces
  have h1 : (1 : Int) > 0 := by omega
  simp only [h1, if_true, Int.ediv_one]
  split <;> omega
theorem slicePart_ {v : Value} {o : Option Int} {Q : Option Int → Shared → Prop} (p : IsPart v o) (h : Q o s) : wpAny (model prog w) A (Builtin.Slice.slicePartIndex v) Q E s := by
  cases p with
  | none => exact slicePart_none h
  | int i t => exact slicePart_int h
theorem sliceApplied_gen {sl : Addr} {vl vu : Value} {lo hi : Option Int} {n : Nat} {Q : Int × Int × Nat → Shared → Prop} (hs : s.heap.IsSliceOf sl vl vu .none) (pl : IsPart vl lo) (pu : IsPart vu hi)
    (h : Q (((sIx n 0 lo : Nat) : Int), 1, sIx n n hi - sIx n 0 lo) s) : wpAny (model prog w) A (Builtin.Slice.sliceApplied (.ref sl) (pure (n : Int))) Q E s := by
  obtain ⟨os, hos, hcs, hds⟩ := id hs
  unfold Builtin.Slice.sliceApplied Builtin.Slice.sliceFields
  refine wpAny_bind (wpAny_bind (wpAny_field hos hds (x := vl) rfl (wpAny_bind (wpAny_field hos hds (x := vu) rfl (wpAny_bind (wpAny_field hos hds (x := .none) rfl (wpAny_pure ?_)))))))
  refine wpAny_bind (slicePart_none ?_)
  show wpAny _ _ (if ((1 : Int) == 0) = true then _ else _) _ _ s
  rw [if_neg (by decide)]
  refine wpAny_bind (slicePart_ pl (wpAny_bind (slicePart_ pu (wpAny_bind (wpAny_pure ?_)))))
  show wpAny _ _ (match Builtin.Slice.sliceAdjust lo hi 1 (n : Int) with | (lo, hi) => pure (lo, (1 : Int), Builtin.Slice.slicePlaces lo hi 1)) _ _ s
  rw [adjust_gen lo hi n]
  show wpAny _ _ (pure (((sIx n 0 lo : Nat) : Int), (1 : Int), Builtin.Slice.slicePlaces ((sIx n 0 lo : Nat) : Int) ((sIx n n hi : Nat) : Int) 1)) _ _ s
  rw [places_gen]
  exact wpAny_pure h
theorem pick_gen (xs : Array Value) (i k : Nat) : ((List.range k).filterMap fun (m : Nat) => xs[((i : Int) + (m : Int) * 1).toNat]?).toArray = ((xs.toList.drop i).take k).toArray := by
  have e : (fun (m : Nat) => xs[((i : Int) + (m : Int) * 1).toNat]?) = fun m => xs[i + m]? := by
    funext m
    have : ((i : Int) + (m : Int) * 1).toNat = i + m := by omega
    rw [this]
  rw [e]
  have := pick_run xs i k
  rw [List.filterMap_map] at this
  have e2 : ((fun x => xs[x]?) ∘ fun x => i + x) = fun m => xs[i + m]? := rfl
  rw [e2] at this
  rw [this]

theorem getItem_tuple_cut {t sl : Addr} {items : Array Value} {vl vu : Value} {lo hi : Option Int} {Q : Value → Shared → Prop} (ht : IsTup s.heap t items) (hs : s.heap.IsSliceOf sl vl vu .none) (pl : IsPart vl lo) (pu : IsPart vu hi)
    (hw : ¬ (sIx items.size 0 lo = 0 ∧ sIx items.size items.size hi = items.size))
    (h : Q (.ref s.heap.objs.size) { s with heap := s.heap.push { cls := .type "tuple", data := .seq ((items.toList.drop (sIx items.size 0 lo)).take (sIx items.size items.size hi - sIx items.size 0 lo)).toArray } })
    (hsz : items.size ≤ sizeLine) : wpAny (model prog w) A (getItem (.ref t) (.ref sl)) Q E s := by
  have htake : sizeOk (.seq ((items.toList.drop (sIx items.size 0 lo)).take (sIx items.size items.size hi - sIx items.size 0 lo)).toArray) := by
    show ((items.toList.drop (sIx items.size 0 lo)).take (sIx items.size items.size hi - sIx items.size 0 lo)).toArray.size ≤ sizeLine
    rw [List.size_toArray, List.length_take, List.length_drop, Array.length_toList]
    omega
  have hj : sIx items.size items.size hi ≤ items.size := sIx_le _ _ (Nat.le_refl _) hi
  obtain ⟨os, hos, hcs, hds⟩ := id hs
  have hTs : s.TypeIs (.ref sl) "slice" := ⟨os, hos, hcs⟩
  unfold getItem
  try with_reducible refine wpAny_holding ?_
  first | refine wpAny_bind (wpAny_pure ?_) | skip
  refine wpAny_bind (wpAny_sequenceKey ht.typeIs (by decide) ?_)
  refine wpAny_bind (wpAny_callSpecial?_slot (name := Str.ofString "__getitem__") ht.typeIs PyProof.Rows.slot_tuple_getitem
    (wpAny_call_entry PyProof.Rows.slot_tuple_getitem ht.typeIs entry_tuple_getitem ?_ (args_tuple_getitem _ _)))
  show wpAny _ _ (Builtin.Tuple.tupleItemsOf (.ref t) >>= _) _ _ s
  refine wpAny_bind (tupleItemsOf_ ht ?_)
  refine wpAny_bind (wpAny_typeOf hTs ?_)
  rw [if_pos (by decide)]
  refine wpAny_bind (sliceApplied_gen hs pl pu ?_)
  have hno : ¬ ((((sIx items.size 0 lo : Nat) : Int) == 0 && (1 : Int) == 1 && (sIx items.size items.size hi - sIx items.size 0 lo) == items.size) = true) := by
    intro q
    rw [Bool.and_eq_true, Bool.and_eq_true] at q
    have q1 : ((sIx items.size 0 lo : Nat) : Int) = 0 := eq_of_beq q.1.1
    have q2 : sIx items.size items.size hi - sIx items.size 0 lo = items.size := eq_of_beq q.2
    exact hw ⟨by omega, by omega⟩
  show wpAny _ _ (if (((sIx items.size 0 lo : Nat) : Int) == 0 && (1 : Int) == 1 && (sIx items.size items.size hi - sIx items.size 0 lo) == items.size) = true then _ else _) _ _ s
  rw [if_neg hno, pick_gen]
  first
    | exact wpAny_bind (m := Builtin.Tuple.tupleExact _) (wpAny_newObj_type (wpAny_pure ⟨_, rfl, wpAny_pure h⟩) htake)
    | exact wpAny_bind (m := Builtin.Tuple.tupleExact _) (wpAny_newObj_type (wpAny_bind (wpAny_pure (wpAny_pure ⟨_, rfl, wpAny_pure h⟩))) htake)
    | exact wpAny_bind (wpAny_bind (m := Builtin.Tuple.tupleExact _) (wpAny_newObj_type (wpAny_pure (wpAny_pure ⟨_, rfl, wpAny_pure h⟩)) htake))
    | exact wpAny_bind (wpAny_bind (m := Builtin.Tuple.tupleExact _) (wpAny_newObj_type (wpAny_pure ⟨_, rfl, wpAny_pure h⟩) htake))
end
end HT

namespace L2
open PySem PySem.Spec PyProof.Rows


abbrev TO := St → Hp → (Option Int → Hp → Prop) → Prop

def PO (X : Cx) (e : Option Expr) (t : TO) : Prop :=
  ∀ (pins : List (Addr × Obj)) (s : Shared) (σ : St) (H : Hp) (Q : Option Int → Hp → Prop), Inv X pins σ H s → t σ H Q →
    wpAny (model X.prog X.w) X.A (evalPart e X.env) (fun u s' => ∃ o H', Inv X pins σ H' s' ∧ IsPart u o ∧ Q o H') X.xe s
def tNoPart : TO := fun _ H Q => Q none H
def tPart (t : TE) : TO := fun σ H Q => t σ H fun x H1 => ∃ i, x = .int i ∧ Q (some i) H1

section
variable {X : Cx} {e : Expr} {te : TE} {lo hi : Option Expr} {tl th : TO} {pos p2 : Pos}

theorem po_none : PO X none tNoPart := by
  intro pins s σ H Q I h
  rw [evalPart_none]
  exact wpAny_pure ⟨none, H, I, .none, h⟩
theorem po_some (h : PE X e te) : PO X (some e) (tPart te) := by
  intro pins s σ H Q I hw
  rw [evalPart_some]
  refine thn (h pins s σ H _ I hw) fun u s1 ⟨x, H1, I1, r1, q1⟩ => ?_
  obtain ⟨i, rfl, q⟩ := q1
  obtain ⟨t, rfl⟩ := r1
  exact ⟨some i, H1, I1, .int i t, q⟩


def SlR (X : Cx) (r : V → Option Int → Option Int → Hp → VK → Prop) : Prop :=
  ∀ (pins : List (Addr × Obj)) (s : Shared) (σ : St) (H : Hp) (x : V) (v vl vu : Value) (lo hi : Option Int) (sl : Addr) (Q : VK), Inv X pins σ H s → RelV x v → s.heap.IsSliceOf sl vl vu .none → IsPart vl lo → IsPart vu hi → r x lo hi H Q →
    ∃ T id, typeLookup (.type T) "__getitem__" = pure (some (.builtin id)) ∧ s.TypeIs v T ∧ wpAny (model X.prog X.w) X.A (getItem v (.ref sl)) (EP X pins σ Q) X.xe s
def tSl (r : V → Option Int → Option Int → Hp → VK → Prop) (te : TE) (tl th : TO) : TE := fun σ H Q => te σ H fun x H1 => tl σ H1 fun l H2 => th σ H2 fun u H3 => r x l u H3 Q

theorem pe_slice {r : V → Option Int → Option Int → Hp → VK → Prop} (hr : SlR X r) (he : PE X e te) (hl : PO X lo tl) (hu : PO X hi th) : PE X (.Subscript e (.Slice lo hi none p2) pos) (tSl r te tl th) := by
  intro pins s σ H Q I h
  refine Subscript_ (thn (he pins s σ H _ I h) fun v s1 ⟨x, H1, I1, r1, q1⟩ => ?_)
  refine wpAny_Slice (thn (hl pins s1 σ H1 _ I1 q1) fun vl s2 ⟨l, H2, I2, pl, q2⟩ => thn (hu pins s2 σ H2 _ I2 q2) fun vu s3 ⟨u, H3, I3, pu, q3⟩ => ?_)
  rw [evalPart_none]
  refine wpAny_pure ?_
  have I4 : Inv X pins σ H3 { s3 with heap := s3.heap.push { cls := .type "slice", data := .fields #[vl, vu, .none] } } := I3.kept (t' := s3.toks) fun b ob q => Heap.get?_push_of_some _ q
  obtain ⟨T, id, hT, ht, hg⟩ := hr pins { s3 with heap := s3.heap.push { cls := .type "slice", data := .fields #[vl, vu, .none] } } σ H3 x v vl vu l u s3.heap.objs.size Q I4 r1 (Heap.IsSliceOf.new ..) pl pu q3
  show wpAny (model X.prog X.w) X.A (subscriptTail e (.Slice lo hi none p2) v (.ref s3.heap.objs.size)) (EP X pins σ Q) X.xe { s3 with heap := s3.heap.push { cls := .type "slice", data := .fields #[vl, vu, .none] } }
  exact tail_any (ops := [.ref s3.heap.objs.size, v]) ht hT hg (by with_unfolding_all rfl)


def cutV (xs : List V) (lo hi : Option Int) : List V := (xs.drop (HT.sIx xs.length 0 lo)).take (HT.sIx xs.length xs.length hi - HT.sIx xs.length 0 lo)
theorem cutV_length (xs : List V) (lo hi : Option Int) : (cutV xs lo hi).length ≤ xs.length := by
  unfold cutV
  rw [List.length_take, List.length_drop]
  omega

def rSlT (K : PySem.W.Frag) : V → Option Int → Option Int → Hp → VK → Prop := fun x lo hi H Q => ∃ a xs, x = .ref a ∧ SqT K H a xs ∧
  ¬ (HT.sIx xs.length 0 lo = 0 ∧ HT.sIx xs.length xs.length hi = xs.length) ∧ ∀ p, H p = none → Q (.ref p) (upd H p (.tup (cutV xs lo hi)))
theorem sl_tup : SlR X (rSlT X.K) := by
  intro pins s σ H x v vl vu lo hi sl Q I rx hs pl pu h
  obtain ⟨a, xs, rfl, hx, hw, q⟩ := h
  cases rx
  obtain ⟨its, r, ht, hz⟩ := I.tuple hx
  have hlen : its.toArray.size = xs.length := by rw [List.size_toArray]; exact r.length.symm
  refine ⟨"tuple", _, PyProof.Rows.slot_tuple_getitem.lookup, ht.typeIs, ?_⟩
  refine HT.getItem_tuple_cut ht hs pl pu (by rw [hlen]; exact hw) ?_ (by rw [hlen]; exact hz)
  rw [hlen]
  refine ⟨.ref s.heap.objs.size, _, I.laid (t' := s.toks) (o := .tup (cutV xs lo hi)) (fun b ob q => Heap.get?_push_of_some _ q) (Nat.le_refl _) ?_, rfl, q _ (I.hok.fresh (Nat.le_refl _))⟩
  exact ⟨Nat.le_trans (cutV_length xs lo hi) hz, _, (r.drop (HT.sIx xs.length 0 lo)).take (HT.sIx xs.length xs.length hi - HT.sIx xs.length 0 lo), IsTupN.new _ _⟩


def rLtT (K : PySem.W.Frag) : R2 := fun x y H Q => ∃ a b ns ms, x = .ref a ∧ y = .ref b ∧ SqT K H a (ns.map V.int) ∧ SqT K H b (ms.map V.int) ∧ Q (.bl (HT.lexLt ns ms)) H
def rCatT (K : PySem.W.Frag) : R2 := fun x y H Q => ∃ a b xs ys, x = .ref a ∧ y = .ref b ∧ SqT K H a xs ∧ SqT K H b ys ∧ xs ≠ [] ∧ xs.length + ys.length ≤ sizeLine ∧
  (ys = [] → Q (.ref a) H) ∧ (ys ≠ [] → ∀ p, H p = none → Q (.ref p) (upd H p (.tup (xs ++ ys))))
theorem Vals.nil_iff {xs : List V} {us : List Value} (r : Vals xs us) : us = [] ↔ xs = [] := by
  cases r with
  | nil => simp
  | cons _ _ => simp
theorem op_catT : OpR X (binaryOp .Add) (rCatT X.K) := by
  intro pins s σ H x y v u Q I rx ry h
  obtain ⟨a, b, xs, ys, rfl, rfl, ha, hb, hx, hz, q1, q2⟩ := h
  cases rx
  cases ry
  obtain ⟨its, r1, p1, _⟩ := I.tuple ha
  obtain ⟨its2, r2, p2, _⟩ := I.tuple hb
  refine HT.cat_tup p1 p2 (fun z => hx (r1.nil_iff.mp z)) (fun z => ⟨.ref a, H, I, rfl, q1 (r2.nil_iff.mp z)⟩) (fun z => ?_) (by rw [← r1.length, ← r2.length]; exact hz)
  refine ⟨.ref s.heap.objs.size, _, I.laid (t' := s.toks) (o := .tup (xs ++ ys)) (fun b ob q => Heap.get?_push_of_some _ q) (Nat.le_refl _) ?_, rfl, q2 (fun w => z (r2.nil_iff.mpr w)) _ (I.hok.fresh (Nat.le_refl _))⟩
  exact ⟨by rw [List.length_append]; exact hz, _, r1.append r2, IsTupN.new _ _⟩

end
end L2

namespace L2
open PySem PySem.Spec PyProof.Rows



def ixN (n : Nat) (i : Int) : Option Nat := if 0 ≤ i then (if i < n then some i.toNat else none) else if -(n : Int) ≤ i then some (i + n).toNat else none
def atI {α : Type} (xs : List α) (i : Int) : Option α := (ixN xs.length i).bind fun j => xs[j]?
theorem ixN_seq {n : Nat} {i : Int} {j : Nat} (h : ixN n i = some j) : seqIndex? i n = some j ∧ j < n ∧ -(n : Int) ≤ i ∧ i < n := by
  unfold ixN at h
  by_cases h0 : 0 ≤ i
  · rw [if_pos h0] at h
    by_cases h1 : i < n
    · rw [if_pos h1] at h
      have e : i.toNat = j := Option.some.inj h
      exact ⟨by rw [seqIndex_of h0 h1, e], by omega, by omega, h1⟩
    · rw [if_neg h1] at h; cases h
  · rw [if_neg h0] at h
    by_cases h1 : -(n : Int) ≤ i
    · rw [if_pos h1] at h
      have e : (i + n).toNat = j := Option.some.inj h
      exact ⟨by rw [seqIndex_neg (by omega) h1, e], by omega, h1, by omega⟩
    · rw [if_neg h1] at h; cases h
theorem atI_get {α : Type} {xs : List α} {i : Int} {v : α} (h : atI xs i = some v) : ∃ j, seqIndex? i xs.length = some j ∧ xs[j]? = some v ∧ j < xs.length ∧ -(xs.length : Int) ≤ i ∧ i < xs.length := by
  unfold atI at h
  cases e : ixN xs.length i with
  | none => rw [e] at h; cases h
  | some j =>
    rw [e] at h
    obtain ⟨h1, h2, h3, h4⟩ := ixN_seq e
    exact ⟨j, h1, h, h2, h3, h4⟩
theorem atI_nat {α : Type} {xs : List α} {j : Nat} {v : α} (h : xs[j]? = some v) : atI xs (j : Int) = some v := by
  have hj : j < xs.length := (List.getElem?_eq_some_iff.mp h).1
  have e : ixN xs.length (j : Int) = some j := by
    unfold ixN
    rw [if_pos (by omega), if_pos (by omega)]; simp
  unfold atI; rw [e]; exact h
def PlainIx (b : Expr) : Prop := ∀ o i, subscripted b false o i = operate [o, i] (getItem o i)

def IxR (X : Cx) (r : R2) : Prop :=
  ∀ (value slice : Expr) (pins : List (Addr × Obj)) (s : Shared) (σ : St) (H : Hp) (x y : V) (v u : Value) (Q : VK), Inv X pins σ H s → RelV x v → RelV y u → r x y H Q →
    subscripted slice false v u = operate [v, u] (getItem v u) → wpAny (model X.prog X.w) X.A (subscriptTail value slice v u) (EP X pins σ Q) X.xe s

def MtR (X : Cx) (id : String) (r : V → List V → Hp → VK → Prop) : Prop :=
  ∀ (pins : List (Addr × Obj)) (s : Shared) (σ : St) (H : Hp) (x : V) (xs : List V) (v : Value) (us : List Value) (Q : VK), Inv X pins σ H s → RelV x v → Vals xs us → r x xs H Q →
    wpAny (model X.prog X.w) X.A (call (.builtin id) (v :: us)) (EP X pins σ Q) X.xe s
section
variable {X : Cx} {a b : Expr} {ta tb : TE} {pos : Pos}
theorem pe_ix {r : R2} (hr : IxR X r) (ha : PE X a ta) (hb : PE X b tb) (hs : PlainIx b) : PE X (.Subscript a b pos) (tOp r ta tb) := by
  intro pins s σ H Q I h
  exact Subscript_ (binT ha hb I h fun v u s2 x y H2 I2 rx ry q => hr a b pins s2 σ H2 x y v u Q I2 rx ry q (hs _ _))

def rIxL (K : PySem.W.Frag) : R2 := fun x y H Q => ∃ p xs i v, x = .ref p ∧ y = .int i ∧ SqL K H p xs ∧ atI xs i = some v ∧ Q v H
def rIxT (K : PySem.W.Frag) : R2 := fun x y H Q => ∃ p xs i v, x = .ref p ∧ y = .int i ∧ SqT K H p xs ∧ atI xs i = some v ∧ Q v H
def rIxS : R2 := fun x y H Q => ∃ z i c, x = .str z ∧ y = .int i ∧ z.length ≤ sizeLine ∧ atI z.cps.toList i = some c ∧ Q (.str ⟨#[c]⟩) H
theorem ix_list : IxR X (rIxL X.K) := by
  intro value slice pins s σ H x y v u Q I rx ry h hs
  obtain ⟨p, xs, i, z, rfl, rfl, hq, he, q⟩ := h
  cases rx
  obtain ⟨t, rfl⟩ := ry
  obtain ⟨its, r, pl, hz⟩ := I.list hq
  obtain ⟨j, h1, h2, h3, h4, h5⟩ := atI_get he
  obtain ⟨w, ew, rw'⟩ := r.get h2
  have hl := r.length
  have hn := line63
  have fin : EP X pins σ Q w s := ⟨z, H, I, rw', q⟩
  by_cases h0 : 0 ≤ i
  · have hj : i.toNat = j := by
      rw [seqIndex_of h0 h5] at h1
      exact Option.some.inj h1
    exact item_listR pl.isList h0 (by omega) (by rw [hj]; simpa using ew) fin hs
  · have hj : (i + (its.toArray.size : Int)).toNat = j := by
      rw [seqIndex_neg (by omega) h4] at h1
      rw [List.size_toArray, ← hl]
      exact Option.some.inj h1
    exact subscriptTail_builtinR (x := w) pl.isList.typeIs slot_list_getitem.lookup
      (wpAny_getItem_list_neg (Q := fun r s' => r = w ∧ EP X pins σ Q r s') pl.isList (by omega) (by rw [List.size_toArray] <;> omega) (by omega) (by rw [hj]; simpa using ew) ⟨rfl, fin⟩) hs
theorem ix_tup : IxR X (rIxT X.K) := by
  intro value slice pins s σ H x y v u Q I rx ry h hs
  obtain ⟨p, xs, i, z, rfl, rfl, hq, he, q⟩ := h
  cases rx
  obtain ⟨t, rfl⟩ := ry
  obtain ⟨its, r, pl, hz⟩ := I.tuple hq
  obtain ⟨j, h1, h2, h3, h4, h5⟩ := atI_get he
  obtain ⟨w, ew, rw'⟩ := r.get h2
  have hl := r.length
  have hn := line63
  have fin : EP X pins σ Q w s := ⟨z, H, I, rw', q⟩
  exact subscriptTail_builtinR (x := w) pl.typeIs slot_tuple_getitem.lookup
    (getItem_tuple (j := j) (Q := fun r s' => r = w ∧ EP X pins σ Q r s') pl (by omega) (by omega) (by rw [List.size_toArray, ← hl]; exact h1) (by simpa using ew) ⟨rfl, fin⟩) hs
def rIx (K : PySem.W.Frag) : R2 := fun x y H Q => rIxL K x y H Q ∨ rIxT K x y H Q ∨ rIxS x y H Q
theorem mapSeq_set (its : List Value) (n j : Nat) (u : Value) : Obj.mapSeq (·.setIfInBounds j u) { cls := .type "list", data := .seq its.toArray n } = { cls := .type "list", data := .seq (its.set j u).toArray n } := by
  simp [Obj.mapSeq]
theorem Inv.lst {pins : List (Addr × Obj)} {σ : St} {H : Hp} {s : Shared} {p : Addr} {xs : List V} (I : Inv X pins σ H s) (h : H p = some (.lst xs)) :
    ∃ (its : List Value) (n : Nat), Vals xs its ∧ s.heap.get? p = some { cls := .type "list", data := .seq its.toArray n } ∧ xs.length ≤ sizeLine := by
  obtain ⟨z, its, n, r, e⟩ := I.hok p _ h
  exact ⟨its, n, r, e, z⟩

theorem Inv.lstUpd {pins : List (Addr × Obj)} {σ : St} {H : Hp} {s : Shared} {p : Addr} {xs ys : List V} {its its' : List Value} {n n' : Nat} {f : Obj → Obj} (I : Inv X pins σ H s) (h : H p = some (.lst xs))
    (ho : s.heap.get? p = some { cls := .type "list", data := .seq its.toArray n }) (hf : f { cls := .type "list", data := .seq its.toArray n } = { cls := .type "list", data := .seq its'.toArray n' }) (r : Vals ys its') (hz : ys.length ≤ sizeLine) (t : Nat) :
    Inv X pins σ (upd H p (.lst ys)) { s with heap := s.heap.update p f, toks := t } := by
  have e : (s.heap.update p f).get? p = some { cls := .type "list", data := .seq its'.toArray n' } := by
    rw [Heap.get?_update_self f ho (by rw [hf] <;> rfl), hf]
  refine I.write (x := p) (e := p) (by rw [h]; trivial) (.inl rfl) (fun b u hb q => (Heap.get?_update_other _ _ (Ne.symm hb)).trans q) ⟨_, e⟩ ?_
  exact ⟨hz, its', n', r, e⟩
def rSetL : V → V → V → Hp → (Hp → Prop) → Prop := fun o i v H Q => ∃ p xs k j, o = .ref p ∧ i = .int k ∧ H p = some (.lst xs) ∧ ixN xs.length k = some j ∧ Q (upd H p (.lst (xs.set j v)))
theorem set_list : PSet X rSetL := by
  intro pins s σ H o i v ov iv u Q I ro ri rv h
  obtain ⟨p, xs, k, j, rfl, rfl, hp, hj, q⟩ := h
  cases ro
  obtain ⟨t, rfl⟩ := ri
  obtain ⟨its, n, r, ho, hz⟩ := I.lst hp
  obtain ⟨h1, h2, h3, h4⟩ := ixN_seq hj
  have hl := r.length
  have hn := line63
  have I' : Inv X pins σ (upd H p (.lst (xs.set j v))) { s with heap := s.heap.update p (Obj.mapSeq (·.setIfInBounds j u)) } :=
    I.lstUpd hp ho (mapSeq_set its n j u) (r.set rv j) (by rw [List.length_set]; exact hz) s.toks
  by_cases h0 : 0 ≤ k
  · have hk : k.toNat = j := by
      rw [seqIndex_of h0 h4] at h1
      exact Option.some.inj h1
    exact PySem.W.ki_setAt ho h0 (by omega) (by rw [List.size_toArray, ← hl]; exact h4) (by rw [hk]; exact ⟨_, I', q⟩)
  · have hk : (k + (its.toArray.size : Int)).toNat = j := by
      rw [seqIndex_neg (by omega) h3] at h1
      rw [List.size_toArray, ← hl]
      exact Option.some.inj h1
    exact PySem.W.ki_setBack ho (by omega) (by rw [List.size_toArray, ← hl]; exact h3) (by omega) (by rw [hk]; exact ⟨_, I', q⟩)


theorem slice_bounds (lo hi : Option Int) (n : Nat) : (sliceBounds lo hi none n).1 = ((HT.sIx n 0 lo : Nat) : Int) ∧ (sliceBounds lo hi none n).2.1 = ((HT.sIx n n hi : Nat) : Int) ∧ (sliceBounds lo hi none n).2.2 = 1 := by
  refine ⟨?_, ?_, rfl⟩
  · cases lo with
    | none => simp [sliceBounds, HT.sIx]
    | some i =>
      simp only [sliceBounds, HT.sIx, Option.getD_none, show (1 : Int) > 0 by decide, if_true]
      by_cases h : i < 0
      · simp only [h, if_true] <;> omega
      · simp only [h, if_false] <;> omega
  · cases hi with
    | none => simp [sliceBounds, HT.sIx]
    | some i =>
      simp only [sliceBounds, HT.sIx, Option.getD_none, show (1 : Int) > 0 by decide, if_true]
      by_cases h : i < 0
      · simp only [h, if_true] <;> omega
      · simp only [h, if_false] <;> omega
theorem slicePick_cut (its : List Value) (lo hi : Option Int) : slicePick its.toArray lo hi none = ((its.drop (HT.sIx its.length 0 lo)).take (HT.sIx its.length its.length hi - HT.sIx its.length 0 lo)).toArray := by
  obtain ⟨h1, h2, h3⟩ := slice_bounds lo hi its.toArray.size
  unfold slicePick
  rw [h1, h2, h3]
  simp only [sliceRange_one, pick_run, List.size_toArray] <;> rfl

def rSlL (K : PySem.W.Frag) : V → Option Int → Option Int → Hp → VK → Prop := fun x lo hi H Q => ∃ a xs, x = .ref a ∧ SqL K H a xs ∧ ∀ p, H p = none → Q (.ref p) (upd H p (.lst (cutV xs lo hi)))
theorem sl_list : SlR X (rSlL X.K) := by
  intro pins s σ H x v vl vu lo hi sl Q I rx hs pl pu h
  obtain ⟨a, xs, rfl, hx, q⟩ := h
  cases rx
  obtain ⟨its, r, ht, hz⟩ := I.list hx
  have hlen := r.length
  refine ⟨"list", _, slot_list_getitem.lookup, ht.isList.typeIs, ?_⟩
  refine wpAny_getItem_list_slice ht.isList hs pl pu .none (by simp) ?_ (by rw [List.size_toArray] <;> omega)
  rw [slicePick_cut, ← hlen]
  refine ⟨.ref s.heap.objs.size, _, I.laid (t' := s.toks) (o := .lst (cutV xs lo hi)) (fun b ob q => Heap.get?_push_of_some _ q) (Nat.le_refl _) ?_, rfl, q _ (I.hok.fresh (Nat.le_refl _))⟩
  exact ⟨Nat.le_trans (cutV_length xs lo hi) hz, _, 0, (r.drop (HT.sIx xs.length 0 lo)).take (HT.sIx xs.length xs.length hi - HT.sIx xs.length 0 lo), Heap.get?_push_size _ rfl⟩


def flatV : V → Bool
  | .non => true
  | .bl _ => true
  | .int _ => true
  | .str _ => true
  | _ => false

def eqV : V → V → Bool
  | .non, .non => true
  | .bl a, .bl b => a == b
  | .bl a, .int b => (if a then 1 else 0) == b
  | .int a, .bl b => a == (if b then 1 else 0)
  | .int a, .int b => a == b
  | .str a, .str b => a == b
  | _, _ => false
def eqU (x : V) (u : Value) : Bool := match u with
  | .none => eqV .non x
  | .bool b => eqV (.bl b) x
  | .int i _ => eqV (.int i) x
  | .str z _ => eqV (.str z) x
  | _ => false
def inV (x : V) (xs : List V) : Bool := xs.any fun y => eqV y x

def rIn (K : PySem.W.Frag) (neg : Bool) : R2 := fun x y H Q => ∃ p xs, y = .ref p ∧ (SqL K H p xs ∨ SqT K H p xs) ∧ flatV x = true ∧ xs.all flatV = true ∧ Q (.bl (if neg then !inV x xs else inV x xs)) H
theorem call_len_seq : CallR X (.builtin "len") (fun xs H Q => ∃ p ys, xs = [.ref p] ∧ (SqL X.K H p ys ∨ SqT X.K H p ys) ∧ Q (.int ys.length) H) := by
  intro pins s σ H xs us Q I r h
  obtain ⟨p, ys, rfl, hq, q⟩ := h
  obtain ⟨u, rfl, rx⟩ := vals1 r
  cases rx
  have hn := line63
  rcases hq with hq | hq
  · obtain ⟨its, r', pl, hz⟩ := I.list hq
    have hlen := r'.length
    exact Calls.call_len_list pl.isList (by simp only [List.size_toArray] <;> omega) ⟨.int ys.length, H, I.tok _, ⟨s.toks + 1, by rw [List.size_toArray, hlen]⟩, q⟩
  · obtain ⟨its, r', pl, hz⟩ := I.tuple hq
    have hlen := r'.length
    exact len_tuple pl (by simp only [List.size_toArray] <;> omega) ⟨.int ys.length, H, I.tok _, ⟨s.toks + 1, by rw [List.size_toArray, hlen]⟩, q⟩
theorem call_list_of : CallR X (.type "list") (fun xs H Q => ∃ p ys, xs = [.ref p] ∧ (SqL X.K H p ys ∨ SqT X.K H p ys) ∧ ∀ l, H l = none → Q (.ref l) (upd H l (.lst ys))) := by
  intro pins s σ H xs us Q I r h
  obtain ⟨p, ys, rfl, hq, q⟩ := h
  obtain ⟨u, rfl, rx⟩ := vals1 r
  cases rx
  have fin : ∀ (its : List Value), Vals ys its → ys.length ≤ sizeLine → ∀ (h' : Heap) (c' : Nat), (∀ b o', s.heap.get? b = some o' → h'.get? b = some o') →
      h'.get? s.heap.objs.size = some { cls := .type "list", dict := none, data := .seq its.toArray c', slots := #[] } → EP X pins σ Q (.ref s.heap.objs.size) { s with heap := h' } := fun its r' hz h' c' kp e =>
    ⟨.ref s.heap.objs.size, _, I.laid (t' := s.toks) kp (Nat.le_refl _) (show ObjOk X.prog X.w _ h' _ (.lst ys) from ⟨hz, its, c', r', e⟩), rfl, q _ (I.hok.fresh (Nat.le_refl _))⟩
  rcases hq with hq | hq
  · obtain ⟨its, r', pl, hz⟩ := I.list hq
    have hlen := r'.length
    obtain ⟨o, ho, hc, n, hd⟩ := pl.isList
    exact call_list_seq p (.inl rfl) ho hc hd (fun h' c' kp e => fin its r' hz h' c' kp e) (by simp only [List.size_toArray] <;> omega)
  · obtain ⟨its, r', pl, hz⟩ := I.tuple hq
    have hlen := r'.length
    obtain ⟨o, ho, hc, n, hd⟩ := pl
    exact call_list_seq p (.inr rfl) ho hc hd (fun h' c' kp e => fin its r' hz h' c' kp e) (by simp only [List.size_toArray] <;> omega)
theorem call_tuple_of : CallR X (.type "tuple") (fun xs H Q => ∃ p ys, xs = [.ref p] ∧ ((SqL X.K H p ys ∧ ∀ l, H l = none → Q (.ref l) (upd H l (.tup ys))) ∨ (SqT X.K H p ys ∧ Q (.ref p) H))) := by
  intro pins s σ H xs us Q I r h
  obtain ⟨p, ys, rfl, h⟩ := h
  obtain ⟨u, rfl, rx⟩ := vals1 r
  cases rx
  rcases h with ⟨hq, q⟩ | ⟨hq, q⟩
  · obtain ⟨its, r', pl, hz⟩ := I.list hq
    have hlen := r'.length
    refine call_tuple_list pl.isList (fun h' kp => ?_) (by simp only [List.size_toArray] <;> omega)
    have I1 : Inv X pins σ H { s with heap := h' } := I.kept (t' := s.toks) kp
    have I2 : Inv X pins σ (upd H h'.objs.size (.tup ys)) { s with heap := h'.push { cls := .type "tuple", data := .seq its.toArray } } :=
      I1.laid (t' := s.toks) (fun b o e => Heap.get?_push_of_some _ e) (Nat.le_refl _) (show ObjOk X.prog X.w _ _ _ (.tup ys) from ⟨hz, its, r', IsTupN.new _ _⟩)
    exact ⟨.ref h'.objs.size, _, I2, rfl, q _ (I1.hok.fresh (Nat.le_refl _))⟩
  · obtain ⟨its, r', pl, hz⟩ := I.tuple hq
    exact call_tuple_same pl ⟨.ref p, H, I, rfl, q⟩



def tyV (K : PySem.W.Frag) (T : String) (x : V) (H : Hp) : Prop := match x with
  | .str _ => T = "str"
  | .int _ => T = "int"
  | .ref p => (T = "list" ∧ ∃ xs, SqL K H p xs) ∨ (T = "tuple" ∧ ∃ o, K.lookup p = some o ∧ o.cls = .type "tuple" ∧ o.dict = none) ∨
      (T = "dict" ∧ ((∃ kvs, H p = some (.dK kvs)) ∨ ∃ kvs, H p = some (.dT kvs))) ∨ (T = "set" ∧ ∃ S n, H p = some (.set S n))
  | _ => False
theorem tyV_is {pins : List (Addr × Obj)} {σ : St} {H : Hp} {s : Shared} {T : String} {x : V} {v : Value} (I : Inv X pins σ H s) (r : RelV x v) (ty : tyV X.K T x H) :
    s.TypeIs v T ∧ ∀ a, v = .ref a → ∃ ob, s.heap.get? a = some ob ∧ ob.dict = none := by
  cases x with
  | str z =>
    obtain ⟨t, rfl⟩ := r
    cases (show T = "str" from ty)
    exact ⟨typeIs_str s z t, fun _ e => nomatch e⟩
  | int i =>
    obtain ⟨t, rfl⟩ := r
    cases (show T = "int" from ty)
    exact ⟨typeIs_int s i t, fun _ e => nomatch e⟩
  | ref p =>
    cases r
    rcases ty with ⟨rfl, xs, hq⟩ | ⟨rfl, o, hk, hc, hd⟩ | ⟨rfl, hk⟩ | ⟨rfl, S, n, hk⟩
    · obtain ⟨its, _, pl, _⟩ := I.list hq
      refine ⟨pl.isList.typeIs, fun a e => ?_⟩
      cases e
      obtain ⟨o, n, e, c, hd, _⟩ := pl
      exact ⟨o, e, hd⟩
    · refine ⟨⟨o, I.kIn p o hk, hc⟩, fun a e => ?_⟩
      cases e
      exact ⟨o, I.kIn _ o hk, hd⟩
    · have z : ∃ o, s.heap.get? p = some o ∧ o.ExactDict := by
        rcases hk with ⟨kvs, hk⟩ | ⟨kvs, hk⟩
        · obtain ⟨_, _, _, _, o, _, _, e, ex, _⟩ := I.hok p _ hk
          exact ⟨o, e, ex⟩
        · obtain ⟨_, _, _, _, o, _, _, e, ex, _⟩ := I.hok p _ hk
          exact ⟨o, e, ex⟩
      obtain ⟨o, e, ex⟩ := z
      refine ⟨⟨o, e, ex.1⟩, fun a e2 => ?_⟩
      cases e2
      exact ⟨o, e, ex.2.1⟩
    · obtain ⟨o, _, _, _, e, ex, _⟩ := I.hok p _ hk
      refine ⟨⟨o, e, ex.1⟩, fun a e2 => ?_⟩
      cases e2
      exact ⟨o, e, ex.2.1⟩
  | _ => exact False.elim ty
def tBM0 (K : PySem.W.Frag) (T : String) (r : V → List V → Hp → VK → Prop) (to : TE) : TE := fun σ H Q => to σ H fun x H1 => tyV K T x H1 ∧ r x [] H1 Q
def tBM (K : PySem.W.Frag) (T : String) (r : V → List V → Hp → VK → Prop) (to : TE) (t : TA) : TE := fun σ H Q => to σ H fun x H1 => tyV K T x H1 ∧ t σ H1 fun xs H2 => r x xs H2 Q
variable {o e : Expr} {es : List Expr} {to : TE} {t : TA} {name : Str} {apos cpos : Pos} {T id : String} {r : V → List V → Hp → VK → Prop}
theorem pe_bm (pa : PlainAttrs T) (slot : Slot T name id) (hty : typeOf (.builtin id) = pure (.type "method_descriptor")) (hm : MtR X id r) (ho : PE X o to) (ha : PA X (e :: es) t)
    (hbase : attributeBase o name X.env (eval o X.env) = eval o X.env := by rfl)
    (hfew : ((backTo cpos (starEach (e :: es) X.env)).all (fun x => !x.1) && (backToKw cpos (keywordEach [] X.env)).all (fun x => x.1.isSome)
      && decide ((e :: es).length + ([] : List Keyword).length + (if ([] : List Keyword).isEmpty then 0 else 1) < 30)) = true := by rfl)
    (hline : (apos.endLine == cpos.line) = true := by rfl) (hs : starEach (e :: es) X.env = (false, eval e X.env) :: starEach es X.env := by rfl) (hplain : (backTo cpos (starEach es X.env)).any (·.1) = false := by rfl) :
    PE X (.Call (.Attribute o name apos) (e :: es) [] cpos) (tBM X.K T r to t) := by
  intro pins s σ H Q I h
  refine wpAny_Call_method_late hbase hfew hline rfl (thn (ho pins s σ H _ I h) fun v s1 ⟨x, H1, I1, r1, ty, q1⟩ => ?_)
  obtain ⟨h1, h2⟩ := tyV_is I1 r1 ty
  refine ⟨T, id, pa, slot, hty, h1, h2, ?_⟩
  have hA := ha cpos pins s1 σ H1 _ I1 q1
  rw [hs] at hA ⊢
  refine Calls.callWith_builtin (by show (false || (backTo cpos (starEach es X.env)).any (·.1)) = false; rw [hplain] <;> rfl) (Calls.evalArgs_plain ?_)
  exact thn hA fun us s2 ⟨vs, H2, I2, r2, q2⟩ => hm pins s2 σ H2 x vs v us Q I2 r1 r2 q2

end
end L2

namespace L2
open PySem PySem.Spec PyProof.Rows

def MtM (X : Cx) (id : String) (r : V → List V → Hp → VK → Prop) : Prop :=
  ∀ (pins : List (Addr × Obj)) (s : Shared) (σ : St) (H : Hp) (x : V) (xs : List V) (v : Value) (us : List Value) (Q : VK), Inv X pins σ H s → RelV x v → Vals xs us → r x xs H Q →
    wpAny (model X.prog X.w) X.A (call (.builtin id) (v :: us)) (EP X pins σ Q) X.xe s


theorem Vals.one : ∀ {x : V} {us : List Value}, Vals [x] us → ∃ u, us = [u] ∧ RelV x u
  | _, _, .cons r .nil => ⟨_, rfl, r⟩
theorem Vals.zero : ∀ {us : List Value}, Vals [] us → us = []
  | _, .nil => rfl
theorem Vals.dropLast {xs : List V} {us : List Value} (h : Vals xs us) : Vals xs.dropLast us.dropLast := by
  induction h with
  | nil => exact .nil
  | cons r t ih =>
    cases t with
    | nil => exact .nil
    | cons q t' => exact .cons r ih
theorem Vals.eraseIdx : ∀ {xs : List V} {us : List Value} (i : Nat), Vals xs us → Vals (xs.eraseIdx i) (us.eraseIdx i)
  | _, _, _, .nil => .nil
  | _, _, 0, .cons _ t => t
  | _, _, i + 1, .cons r t => .cons r (Vals.eraseIdx i t)
theorem Vals.reverse {xs : List V} {us : List Value} (h : Vals xs us) : Vals xs.reverse us.reverse := by
  induction h with
  | nil => exact .nil
  | cons r t ih => rw [List.reverse_cons, List.reverse_cons]; exact Vals.append ih (.cons r .nil)
section
variable {X : Cx} {pins : List (Addr × Obj)} {σ : St} {H : Hp} {s : Shared} {l b : Addr} {xs ys zs : List V}


theorem Inv.lset {its its' : List Value} {n : Nat} {f : Array Value → Array Value} {t' : Nat} (I : Inv X pins σ H s) (hH : H l = some (.lst xs))
    (e : s.heap.get? l = some { cls := .type "list", data := .seq its.toArray n }) (hf : f its.toArray = its'.toArray) (hv : Vals ys its') (hz : ys.length ≤ sizeLine) :
    Inv X pins σ (upd H l (.lst ys)) { s with heap := s.heap.update l (Obj.mapSeq f), toks := t' } := by
  have q := PySem.IsL.update e f
  rw [hf] at q
  refine I.write (x := l) (e := l) (by rw [hH]; exact trivial) (.inl rfl) (fun b' u hb hu => (Heap.get?_update_other s.heap (Obj.mapSeq f) (Ne.symm hb)).trans hu) ⟨_, q⟩ ?_
  exact ⟨hz, its', _, hv, q⟩
theorem Inv.lnew {its : List Value} {t' : Nat} (I : Inv X pins σ H s) (hv : Vals ys its) (hz : ys.length ≤ sizeLine) :
    Inv X pins σ (upd H s.heap.objs.size (.lst ys)) { s with heap := s.heap.push { cls := .type "list", data := .seq its.toArray }, toks := t' } :=
  I.laid (fun _ _ q => Heap.get?_push_of_some _ q) (Nat.le_refl _) ⟨hz, its, 0, hv, Heap.get?_push_size _ rfl⟩
theorem Inv.fresh (I : Inv X pins σ H s) : H s.heap.objs.size = none := I.hok.fresh (Nat.le_refl _)
theorem Inv.lstM (I : Inv X pins σ H s) (hH : H l = some (.lst xs)) : xs.length ≤ sizeLine ∧ ∃ (its : List Value) (n : Nat), Vals xs its ∧ xs.length = its.length ∧ s.heap.get? l = some { cls := .type "list", data := .seq its.toArray n } := by
  obtain ⟨z, its, n, r, e⟩ := I.hok l _ hH
  exact ⟨z, its, n, r, r.length, e⟩

end

section
variable {X : Cx}


def rAppend : V → List V → Hp → VK → Prop := fun x vs H Q => ∃ l xs y, x = .ref l ∧ vs = [y] ∧ H l = some (.lst xs) ∧ xs.length < sizeLine ∧ Q .non (upd H l (.lst (xs ++ [y])))
theorem mt_append : MtM X "list.append" rAppend := by
  intro pins s σ H x vs v us Q I rx rv h
  obtain ⟨l, xs, y, rfl, rfl, hH, hz, q⟩ := h
  cases rx
  obtain ⟨u, rfl, ru⟩ := rv.one
  obtain ⟨z, its, n, r, hl, e⟩ := I.lstM hH
  refine call_meets F.slot_list_append ⟨_, e, rfl⟩ F.entry_list_append (F.args_list_append_2 _ _) (PySem.list_append l its.toArray n u (by rw [List.size_toArray]; omega)) ⟨e, ?_⟩
  refine ⟨.non, _, I.lset (its' := its ++ [u]) hH e (by simp) (r.append (.cons ru .nil)) ?_, rfl, q⟩
  rw [List.length_append, List.length_singleton]
  omega

def rExtend : V → List V → Hp → VK → Prop := fun x vs H Q => ∃ l b xs zs, x = .ref l ∧ vs = [.ref b] ∧ H l = some (.lst xs) ∧ H b = some (.lst zs) ∧ xs.length + zs.length ≤ sizeLine ∧ Q .non (upd H l (.lst (xs ++ zs)))
def rPop : V → List V → Hp → VK → Prop := fun x vs H Q => ∃ l xs y, x = .ref l ∧ vs = [] ∧ H l = some (.lst xs) ∧ xs[xs.length - 1]? = some y ∧ Q y (upd H l (.lst xs.dropLast))
def rPopAt : V → List V → Hp → VK → Prop := fun x vs H Q => ∃ l xs i k y, x = .ref l ∧ vs = [.int i] ∧ H l = some (.lst xs) ∧ -(2 ^ 63) ≤ i ∧ i < 2 ^ 63 ∧ seqIndex? i xs.length = some k ∧ xs[k]? = some y ∧ Q y (upd H l (.lst (xs.eraseIdx k)))
def rReverse : V → List V → Hp → VK → Prop := fun x vs H Q => ∃ l xs, x = .ref l ∧ vs = [] ∧ H l = some (.lst xs) ∧ Q .non (upd H l (.lst xs.reverse))
def rClear : V → List V → Hp → VK → Prop := fun x vs H Q => ∃ l xs, x = .ref l ∧ vs = [] ∧ H l = some (.lst xs) ∧ Q .non (upd H l (.lst []))
def rCat : R2 := fun x y H Q => ∃ l b xs zs, x = .ref l ∧ y = .ref b ∧ H l = some (.lst xs) ∧ H b = some (.lst zs) ∧ xs.length + zs.length ≤ sizeLine ∧ ∀ p, H p = none → Q (.ref p) (upd H p (.lst (xs ++ zs)))
def rRep : R2 := fun x y H Q => ∃ l k xs, x = .ref l ∧ y = .int k ∧ H l = some (.lst xs) ∧ -(2 ^ 63) ≤ k ∧ k < 2 ^ 63 ∧ xs.length * k.toNat ≤ sizeLine ∧
  ∀ p, H p = none → Q (.ref p) (upd H p (.lst (List.replicate k.toNat xs).flatten))
end


section
variable {prog : Program} {w : World} {A : Around} {E : Value → Shared → Prop} {s : Shared}
end

section
variable {X : Cx}

end
end L2

namespace Att
open PySem PySem.W PySem.Calls PyProof.Rows


theorem ints_of_wellAll {P : Params} {h : Heap} : ∀ (ns : List Int) (vs : List Value), WellAll P h vs (ns.map WData.int) → IntsAre vs ns := by
  intro ns
  induction ns with
  | nil =>
    intro vs w
    rw [List.map_nil] at w
    cases w
    exact .nil
  | cons n ns ih =>
    intro vs w
    rw [List.map_cons] at w
    cases w with
    | cons a b =>
      cases a
      exact .cons _ _ (ih _ b)

theorem script_of {l : OpenLaw} {n : Nat} (hn : l.most = some n) {P : Params} {h : Heap} {args : List WData} {vals : List Value}
    (hpre : l.row.toRowW.claim.pre args = true) (hwl : WellAll P h vals args) :
    ∃ a vs ns, vals = [Value.ref a] ∧ args = [WData.list (ns.map WData.int)] ∧ h.get? a = some { cls := .type "list", data := .seq vs.toArray } ∧ IntsAre vs ns ∧ ns.length ≤ n := by
  have hsh : WShape.hasAll [] args [.list .int] = true := (pre_splitW hpre).1
  have hc : l.pre.holds [] { args := args } = true := (pre_splitW hpre).2
  obtain ⟨d, r, rfl, h1, h2⟩ := hasAllW_cons hsh
  obtain rfl := hasAllW_nil h2
  obtain ⟨xs, rfl, h3⟩ := hasW_list h1
  obtain ⟨ns, rfl⟩ := items_int h3
  have hlen : ns.length ≤ n := by
    unfold OpenLaw.pre at hc
    have h4 : (WTm.not (.lt (.lit (.int (n : Int))) (.len (.arg 0)))).holds [] { args := [.list (ns.map .int)] } = true := by
      have h4 := (holds_andW hc).1
      rw [hn] at h4
      exact h4
    have h5 := condW_of h4 (w_not (w_lt w_lit (w_len_list (w_arg rfl))))
    rw [List.length_map] at h5
    refine Nat.le_of_not_lt fun q => ?_
    have q' : (n : Int) < ((ns.length : Nat) : Int) := by omega
    first
      | (rw [decide_eq_true q'] at h5; exact absurd h5 (by decide))
      | (simp at h5; omega)
  cases hwl with
  | cons w1 w2 =>
    cases w2
    cases w1 with
    | list ho hall => exact ⟨_, _, ns, rfl, rfl, ho, ints_of_wellAll ns _ hall, hlen⟩

theorem post_true (l : OpenLaw) (args : List WData) : l.row.toRowW.claim.post args (.bool true) args = true :=
  postW_of (r := l.row.toRowW) (X := (true == true))
    (show WShape.has [] (.bool true) .bool = true by first | rfl | decide | simp [WShape.has, WShape.arms, WShape.armsAll])
    (show (WTm.eq .res (.lit (.bool true))).value [] { args := args, res := some (.bool true), after := args } = some (.bool (true == true)) from w_eq_bool (w_res rfl) w_lit) rfl


theorem attach_call {l : OpenLaw} {n : Nat} {q : Program} {loose : List Str} {XP : (Str → Option Value) → Heap → Prop} {YP : World → Heap → Prop} {d : DefRec}
    (hn : l.most = some n) (hdf : d.params.defaults = [])
    (call : ∀ (w : World) (s₀ s₁ : Shared) (mg mb : Str → Option Value) (fa : Addr) (o : Obj) (pm cd doc : Value) (a : Addr) (vs : List Value) (ns : List Int),
      Ground q loose [] XP w s₀ mg mb s₁.heap → YP w s₁.heap →
      s₁.heap.get? fa = some o → o.data = .func (docDef d.name d.params d.body d.scope pm cd doc) → s₁.heap.CodeRec cd d.name → mg d.name = some (.ref fa) →
      s₁.heap.get? a = some { cls := .type "list", data := .seq vs.toArray } → IntsAre vs ns → ns.length ≤ n → s₁.gens = #[] →
      codeAny (model l.prog w) callerA (.call (.ref fa) ⟨[.ref a], []⟩) (fun r s' => r = .ok (.ret (.bool true)) ∧ OldK s₁.heap s'.heap ∧ s'.os = s₁.os ∧ AllBare s'.gens) s₁) :
    WalkO q loose XP YP l.row.toRowW d [] (fun f vs => PySem.call f vs) := by
  intro w s₀ s₁ mg mb G Y fa o pm cd doc dV kV ho hd hcd hD hmg hg args vals as hpre hlay hrd hwl hlo
  obtain rfl : dV = .none := Dflts.none hD hdf
  obtain rfl : kV = .none := Dflts.noKw hD
  obtain ⟨a, vs, ns, rfl, rfl, hobj, hints, hlen⟩ := script_of hn hpre hwl
  refine enter_call (codeAny_mono (call w s₀ s₁ mg mb fa o pm cd doc a vs ns G Y ho (fd_plain hd) hcd hmg hobj hints hlen hg) fun r s' hq => ?_)
  obtain ⟨rfl, h2, h3, h4⟩ := hq
  exact ⟨.inl ⟨.bool true, .bool true, [], rfl, fun _ => rfl, .bool true, post_true l _, fun _ => ⟨List.Pairwise.nil, fun _ hm => (nomatch hm)⟩⟩, h2, h3, h4⟩


section
variable {prog : Program} {w : World} {A : Around} {E : Value → Shared → Prop} {s : Shared} {K : Frag}


def noObjs (h : Heap) : Heap := { h with objs := #[] }
def ledger (h : Heap) (L d : Addr) : List (Addr × Obj) := (List.range h.objs.size).filterMap fun a => if a = L ∨ a = d then none else (h.get? a).map fun o => (a, o)
end
end Att

namespace L2
open PySem PySem.Spec PyProof.Rows

theorem vals_ints : ∀ {vs : List Value} {ns : List Int}, IntsAre vs ns → Vals (ns.map V.int) vs
  | _, _, .nil => .nil
  | _, _, .cons n t h => .cons ⟨t, rfl⟩ (vals_ints h)


def Only (H : Hp) : Prop := ∀ b, H b = none ∨ ∃ o xs, H b = some (.frz o (.lst xs))


theorem law_call {P : Program} {w : World} {K : PySem.W.Frag} {mg mb : Str → Option Value} {CX : CXT} {k : Nat} {fa a : Addr} {fd : FuncData} {x : Str} {sp : Sp} {s₁ : Shared} {vs : List Value} {ns : List Int}
    (KX : K.In s₁.heap) (hns : s₁.heap.Ns mainGlobals mg) (hb : s₁.heap.Ns builtinsNs mb) (hbb : ∀ x : Str, x ≠ "__name__" → mb x = bootBuiltins x) (hlim : s₁.heap.NoLimit) (hg : s₁.gens = #[])
    (ha : s₁.heap.get? a = some { cls := .type "list", data := .seq vs.toArray }) (hi : IntsAre vs ns) (hl : ns.length ≤ sizeLine) (hr : Room k callerA)
    (F : ∀ base : Heap, K.In base → base.Ns mainGlobals mg → FnOk P w K mg base CX k fa fd [x] sp) (hbind : ∀ (s : Shared) (u : Value), BindsTo s fd ⟨[u], []⟩ [(x, u)])
    (hsp : ∀ H : Hp, Only H → SqL K H a (ns.map V.int) → sp [.ref a] H (fun v _ => v = .bl true) fun _ _ _ => False)
    (hCX : ∀ H e s', CX [] H s₁ (fun _ _ _ => False) e s' → False) :
    codeAny (model P w) callerA (.call (.ref fa) ⟨[.ref a], []⟩) (fun r s' => r = .ok (.ret (.bool true)) ∧ OldK s₁.heap s'.heap ∧ s'.os = s₁.os ∧ AllBare s'.gens) s₁ := by
  have rv := vals_ints hi
  have lenV := hi.length
  have core : ∀ H : Hp, Only H → SqL K H a (ns.map V.int) → HOk P w H s₁.heap → (∀ b, H b ≠ none → b = a) → (H a ≠ none → K.lookup a = none) →
      codeAny (model P w) callerA (.call (.ref fa) ⟨[.ref a], []⟩) (fun r s' => r = .ok (.ret (.bool true)) ∧ OldK s₁.heap s'.heap ∧ s'.os = s₁.os ∧ AllBare s'.gens) s₁ := by
    intro H hO hS hok hA hK
    have base_of : ∀ {b : Addr} {o : Obj}, s₁.heap.get? b = some o → H b = none → (hidT s₁.heap H).get? b = some o := fun e n => hidT_get e n
    have noA : ∀ {b : Addr} {o : Obj} {es : Array DictEntry} {ep : Nat}, s₁.heap.get? b = some o → o.data = .dict es ep → H b = none := fun {b o es ep} e d => by
      cases q : H b with
      | none => rfl
      | some u =>
        have e' : b = a := hA b (by rw [q]; simp)
        subst e'
        rw [ha] at e; cases e
        have d' : Data.seq vs.toArray _ = Data.dict es ep := d
        cases d'
    have nsK : ∀ {b : Addr} {m : Str → Option Value}, s₁.heap.Ns b m → (hidT s₁.heap H).Ns b m := fun {b m} ⟨o, es, ep, e, d, r⟩ => ⟨o, es, ep, base_of e (noA e d), d, r⟩
    have hKb : K.In (hidT s₁.heap H) := fun b o e => base_of (KX b o e) (by
      cases q : H b with
      | none => rfl
      | some u =>
        have e' : b = a := hA b (by rw [q]; simp)
        subst e'
        rw [hK (by rw [q]; simp)] at e; cases e)
    have hM : Mod K mg (hidT s₁.heap H) := ⟨hKb, nsK hns, ⟨mb, nsK hb, hbb⟩, let ⟨mc, h1, h2⟩ := hlim; ⟨mc, nsK h1, h2⟩⟩
    have e0 : Env0 P w K mg (hidT s₁.heap H) callerA [] s₁ H := ⟨rfl, hM, fun b o e => of_hidT e, Nat.le_of_eq (hidT_size _ _), trivial, fun b hb => absurd (show b ∈ ([] : List Addr) from hb) (by simp), hok, .of_eq hg⟩
    refine codeAny_mono ((F _ hKb (nsK hns)).run callerA [] s₁ H ⟨[.ref a], []⟩ [.ref a] [.ref a] _ _ hr e0 (hbind s₁ (.ref a)) (.cons rfl .nil) (hsp H hO hS)) fun r s' h => ?_
    cases r with
    | error e => exact (hCX H e s' h).elim
    | ok fl =>
      cases fl with
      | next => exact False.elim h
      | brk => exact False.elim h
      | cont => exact False.elim h
      | ret u =>
        obtain ⟨v, H', os, bare, un, hok', r', q⟩ := h
        have q' : v = .bl true := q
        subst q'
        obtain rfl : u = Value.bool true := r'
        refine ⟨rfl, OldK.of_keep fun b o e => ?_, os, bare⟩
        cases q : H b with
        | none => exact un.keep b o e q (by intro z; exact absurd (show b ∈ ([] : List Addr) from z) (by simp)) (by simp)
        | some u =>
          rcases hO b with z | ⟨ob, xs, z⟩
          · rw [q] at z; cases z
          · have z2 := un.frzs b ob _ z
            obtain ⟨e1, _⟩ := hok b _ z
            obtain ⟨e2, _⟩ := hok' b _ z2
            rw [e] at e1; cases e1
            exact e2
  cases hk : K.lookup a with
  | some o =>
    have e := KX a o hk
    rw [ha] at e
    cases e
    refine core (fun _ => none) (fun _ => .inl rfl) (.inr ⟨_, vs.toArray, _, hk, rfl, rfl, rfl, by rw [List.size_toArray, lenV]; exact hl, by simpa using rv⟩) (fun b u z => by have z' : (none : Option HO) = some u := z; cases z') (fun b z => absurd rfl z) fun z => absurd rfl z
  | none =>
    refine core (fun b => if b = a then some (.frz { cls := .type "list", data := .seq vs.toArray } (.lst (ns.map V.int))) else none) (fun b => ?_) (.inl (.inr ⟨{ cls := .type "list", data := .seq vs.toArray }, if_pos rfl⟩)) (fun b u z => ?_) (fun b z => ?_) fun _ => hk
    · by_cases hb : b = a
      · exact .inr ⟨_, _, if_pos hb⟩
      · exact .inl (if_neg hb)
    · by_cases hb : b = a
      · have z' := (if_pos hb).symm.trans z
        cases z'
        subst hb
        exact ⟨ha, by rw [List.length_map]; exact hl, vs, _, rv, ha⟩
      · have z' := (if_neg hb).symm.trans z
        cases z'
    · by_cases hb : b = a
      · exact hb
      · exact absurd (if_neg hb) z
end L2

namespace L2
open PySem PySem.Spec PyProof.Rows

abbrev KOf {K : PySem.W.Frag} {h : Heap} (_ : K.In h) : PySem.W.Frag := K


theorem walk_of {l : PySem.W.OpenLaw} {n k : Nat} {q : Program} {loose : List Str} {XP : (Str → Option Value) → Heap → Prop} {YP : World → Heap → Prop} {d : DefRec} {K : Params → PySem.W.Frag} {CX : World → CXT} {sp : World → Sp} {x : Str}
    (hn : l.most = some n) (hn2 : n ≤ sizeLine) (hdf : d.params.defaults = []) (hr : Room k callerA)
    (hY : ∀ (w : World) (h : Heap), YP w h → (K w.params).In h)
    (F : ∀ (w : World) (mg : Str → Option Value) (fa : Addr) (h : Heap), (K w.params).In h → h.Ns mainGlobals mg → mg d.name = some (.ref fa) →
      ∃ fd : FuncData, (∀ (s : Shared) (u : Value), BindsTo s fd ⟨[u], []⟩ [(x, u)]) ∧
        ∀ base : Heap, (K w.params).In base → base.Ns mainGlobals mg → FnOk l.prog w (K w.params) mg base (CX w) k fa fd [x] (sp w))
    (hsp : ∀ (w : World) (H : Hp) (a : Addr) (ns : List Int), ns.length ≤ n → Only H → SqL (K w.params) H a (ns.map V.int) → sp w [.ref a] H (fun v _ => v = .bl true) fun _ _ _ => False)
    (hCX : ∀ (w : World) (H : Hp) (s : Shared) (e : Value) (s' : Shared), CX w [] H s (fun _ _ _ => False) e s' → False) :
    PySem.W.WalkO q loose XP YP l.row.toRowW d [] (fun f vs => PySem.call f vs) := by
  refine Att.attach_call hn hdf fun w s₀ s₁ mg mb fa o pm cd doc a vs ns G Y ho hd hcd hmg hobj hints hlen hg => ?_
  have KX := hY w _ Y
  obtain ⟨fd, hb, hF⟩ := F w mg fa _ KX G.T.g hmg
  exact law_call KX G.T.g G.T.b G.T.builtins G.T.nolimit hg hobj hints (Nat.le_trans hlen hn2) hr hF hb (fun H hO hS => hsp w H a ns hlen hO hS) fun H e s' => hCX w H s₁ e s'

end L2




namespace L2
open PySem PySem.Spec PyProof.Rows



def inClass (s : Stmt) (j : Nat) : Stmt := match s with
  | .ClassDef _ _ _ body _ _ _ _ _ _ _ => body.getD j (.Pass ⟨0, 0, 0, 0⟩)
  | _ => .Pass ⟨0, 0, 0, 0⟩
def defArgs (s : Stmt) : Arguments := match s with
  | .FunctionDef _ a _ _ _ _ _ _ _ _ => a
  | _ => { posonlyargs := [], args := [], vararg := none, kwonlyargs := [], kw_defaults := [], kwarg := none, defaults := [] }
def defBody (s : Stmt) : List Stmt := match s with
  | .FunctionDef _ _ b _ _ _ _ _ _ _ => b
  | _ => []
def defScope (s : Stmt) : Scope := match s with
  | .FunctionDef _ _ _ _ _ _ sc _ _ _ => sc
  | _ => { kind := .function, names := [], isGenerator := false, isCoroutine := false }


abbrev CX0 : CXT := fun _ _ _ _ _ _ => False
abbrev E0 : XK := fun _ _ _ => False
theorem pass0 {X : Cx} : Passes CX0 X E0 := fun _ _ _ _ _ _ _ h => h.elim


structure Fun (K : PySem.W.Frag) (x qual : Str) (st : Stmt) (f : Addr) (fd : FuncData) : Prop where
  ex : ∃ (oc : Value) (od : Option Addr) (kV doc pm : Value) (an : Option Addr) (cdv ct : Value) (osl : Array (Option Value)),
    fd = PySem.W.fnOf x qual (defArgs st) (defBody st) (defScope st) .none kV doc pm an cdv ct ∧ K.lookup f = some ⟨oc, od, .func fd, osl⟩ ∧ PySem.W.codeIn K cdv qual = true
  kp : PySem.W.keepIn K (.ref f) = true
section
variable {P : Program} {w : World} {K : PySem.W.Frag} {mg : Str → Option Value} {base : Heap}

theorem Fun.ok {x qual : Str} {st : Stmt} {f : Addr} {fd : FuncData} {N ps : List Str} {k : Nat} {sp : Sp} (F : Fun K x qual st f fd) (S : FnScope N ps (defScope st)) (len : ∀ vs H Q E, sp vs H Q E → vs.length = ps.length)
    (hbody : ∀ (cdv : Value) (A : Around) (outer : List Env) (s : Shared) (H : Hp) (vs : List V) (Q : VK) (E : XK), Room k (A.deeper (envOfC qual (defScope st) s.heap.objs.size f cdv)) → sp vs H Q E →
      ∃ t, PSs (cxOf CX0 P w K mg base N qual (defScope st) f cdv A outer s H E).nox (defBody st) t ∧ t { nx := fun _ H' => Q .non H', rt := Q } (start N vs) H) : FnOk P w K mg base CX0 (k + 1) f fd ps sp := by
  obtain ⟨oc, od, kV, doc, pm, an, cdv, ct, osl, rfl, lk, hcd⟩ := F.ex
  refine fn_of lk hcd S len fun A outer s H vs Q E hr hsp => ?_
  obtain ⟨t, h, q⟩ := hbody cdv A outer s H vs Q E hr hsp
  exact ⟨t, h.nox, q⟩

theorem Fun.binds {x qual : Str} {st : Stmt} {f : Addr} {fd : FuncData} {ps : List Str} (F : Fun K x qual st f fd)
    (h : ∀ (kV doc pm : Value) (an : Option Addr) (cdv ct : Value) (us : List Value), us.length = ps.length → bindArgs (PySem.W.fnOf x qual (defArgs st) (defBody st) (defScope st) .none kV doc pm an cdv ct) ⟨us, []⟩ = pure (ps.zip us)) : Binds K fd ps [] := by
  obtain ⟨oc, od, kV, doc, pm, an, cdv, ct, osl, rfl, lk, hcd⟩ := F.ex
  exact .all (h kV doc pm an cdv ct)
theorem fun_mk {x qual : Str} {st : Stmt} {f : Addr} {oc : Value} {od an : Option Addr} {osl : Array (Option Value)} {kV doc pm cdv ct : Value} (l : K.lookup f = some ⟨oc, od, .func (PySem.W.fnOf x qual (defArgs st) (defBody st) (defScope st) .none kV doc pm an cdv ct), osl⟩)
    (c : PySem.W.codeIn K cdv qual = true) (k : PySem.W.keepIn K (.ref f) = true) : Fun K x qual st f (PySem.W.fnOf x qual (defArgs st) (defBody st) (defScope st) .none kV doc pm an cdv ct) := ⟨⟨oc, od, kV, doc, pm, an, cdv, ct, osl, rfl, l, c⟩, k⟩
end
section
variable {X : Cx}
theorem pv (i : Nat) {x : Str} {pos : Pos} (hN : X.N[i]? = some x := by rfl) (hv : Vis X.env.scope x := by first | exact Or.inl rfl | exact Or.inr (Or.inl rfl) | exact Or.inr (Or.inr rfl)) (hd : (x == ("__debug__" : Str)) = false := by decide)
    (hcd : (x == ("__classdict__" : Str)) = false := by decide) : PE X (.Name x pos) (tVar i) := pe_var hN hv hd hcd
end


theorem ite2 {c A B : Prop} [Decidable c] (h1 : c → A) (h2 : ¬ c → B) : if c then A else B := by
  by_cases h : c
  · rw [if_pos h]
    exact h1 h
  · rw [if_neg h]
    exact h2 h
def Same (H H' : Hp) : Prop := ∀ b o, H b = some o → H' b = some o
theorem Same.refl (H : Hp) : Same H H := fun _ _ h => h
theorem Same.trans {H H1 H2 : Hp} (a : Same H H1) (b : Same H1 H2) : Same H H2 := fun c o h => b c o (a c o h)
theorem Same.free {H H' : Hp} (e : Same H H') {l : Addr} (h : H' l = Option.none) : H l = Option.none := by
  cases q : H l with
  | none => rfl
  | some o =>
    rw [e l o q] at h
    cases h
theorem Same.seq {K : PySem.W.Frag} {H H' : Hp} {a : Addr} {xs : List V} (e : Same H H') (h : SqL K H a xs) : SqL K H' a xs := by
  rcases h with (h | ⟨o, h⟩) | h
  · exact .inl (.inl (e _ _ h))
  · exact .inl (.inr ⟨o, e _ _ h⟩)
  · exact .inr h

end L2

set_option Elab.async false
set_option linter.all false
set_option maxRecDepth 100000
set_option maxHeartbeats 4000000

namespace L2
open PySem PySem.Spec PyProof.Rows


def clOf (cells : List (Str × Addr)) : List (Str × NameKind) → List (Str × Addr) → List (Str × Addr)
  | [], acc => acc
  | (n, k) :: r, acc => clOf cells r (if (k == NameKind.free) = true then (n, (cells.lookup n).getD 0) :: acc else acc)

theorem closure_ok {sc : Scope} {env : Env} (h : ∀ n, (n, NameKind.free) ∈ sc.names → ∃ c, env.cells.lookup n = some c) : closureFor sc env = pure (clOf env.cells sc.names []) := by
  have all : ∀ (l : List (Str × NameKind)) (acc : List (Str × Addr)), (∀ n, (n, NameKind.free) ∈ l → ∃ c, env.cells.lookup n = some c) →
      (forIn l acc fun (x : Str × NameKind) (cs : List (Str × Addr)) => match x with
        | (name, kind) => if (kind == NameKind.free) = true then (do let c ← cellOf env name; pure (ForInStep.yield ((name, c) :: cs))) else pure (ForInStep.yield cs)) = (pure (clOf env.cells l acc) : Sem _) := by
    intro l
    induction l with
    | nil => intro acc _; rfl
    | cons x r ih =>
      intro acc hl
      obtain ⟨n, k⟩ := x
      rw [List.forIn_cons]
      by_cases hk : (k == NameKind.free) = true
      · have hk' : k = NameKind.free := by simpa using hk
        subst hk'
        obtain ⟨c, hc⟩ := hl n List.mem_cons_self
        have e1 : cellOf env n = pure c := by unfold cellOf; rw [hc]
        simp only [beq_self_eq_true, if_true, e1, pure_bind]
        rw [ih _ fun m hm => hl m (List.mem_cons_of_mem _ hm)]
        show _ = (pure (clOf env.cells r (if (NameKind.free == NameKind.free) = true then (n, (env.cells.lookup n).getD 0) :: acc else acc)) : Sem _)
        rw [if_pos (by simp), hc]
        rfl
      · have hk2 : (k == NameKind.free) = false := by simpa using hk
        simp only [hk2, Bool.false_eq_true, if_false, pure_bind]
        rw [ih _ fun m hm => hl m (List.mem_cons_of_mem _ hm)]
        show _ = (pure (clOf env.cells r (if (k == NameKind.free) = true then (n, (env.cells.lookup n).getD 0) :: acc else acc)) : Sem _)
        rw [if_neg hk]
  have := all sc.names [] h
  unfold closureFor
  dsimp only
  rw [this, pure_bind]

theorem lookup_clOf {cells : List (Str × Addr)} {x : Str} {c : Addr} : ∀ {l : List (Str × NameKind)} {acc : List (Str × Addr)}, (∀ n, (n, NameKind.free) ∈ l → ∃ c, cells.lookup n = some c) →
    (acc.lookup x = some c → cells.lookup x = some c) → (clOf cells l acc).lookup x = some c → cells.lookup x = some c
  | [], _, _, ha, h => ha h
  | (n, k) :: r, acc, hl, ha, h => by
    refine lookup_clOf (l := r) (fun m hm => hl m (List.mem_cons_of_mem _ hm)) ?_ h
    by_cases hk : (k == NameKind.free) = true
    · rw [if_pos hk]
      have hk' : k = NameKind.free := by simpa using hk
      subst hk'
      obtain ⟨d, hd⟩ := hl n List.mem_cons_self
      intro e
      rw [List.lookup_cons] at e
      cases hx : x == n with
      | true =>
        rw [hx] at e
        have hxn : x = n := by simpa using hx
        subst hxn
        rw [hd] at e ⊢
        exact e
      | false => rw [hx] at e; exact ha e
    · rw [if_neg hk]; exact ha

theorem clOf_has {cells : List (Str × Addr)} {x : Str} : ∀ {l : List (Str × NameKind)} {acc : List (Str × Addr)}, ((x, NameKind.free) ∈ l ∨ ∃ c, acc.lookup x = some c) → ∃ c, (clOf cells l acc).lookup x = some c
  | [], _, h => by
    rcases h with h | h
    · exact nomatch h
    · exact h
  | (n, k) :: r, acc, h => by
    refine clOf_has (l := r) ?_
    by_cases hk : (k == NameKind.free) = true
    · rw [if_pos hk]
      by_cases hx : (x == n) = true
      · exact .inr ⟨(cells.lookup n).getD 0, by rw [List.lookup_cons, hx]⟩
      · have hx2 : (x == n) = false := by simpa using hx
        rcases h with h | ⟨c, h⟩
        · rcases List.mem_cons.mp h with e | e
          · have e1 : x = n := congrArg Prod.fst e
            exact absurd (by simp [e1]) hx
          · exact .inl e
        · exact .inr ⟨c, by rw [List.lookup_cons, hx2]; exact h⟩
    · rw [if_neg hk]
      rcases h with h | h
      · rcases List.mem_cons.mp h with e | e
        · have e2 : NameKind.free = k := congrArg Prod.snd e
          exact absurd (by simp [← e2]) hk
        · exact .inl e
      · exact .inr h


def compCx (X : Cx) (sc : Scope) (N' : List Str) (C : Addr) (s₀ : Shared) (H₀ : Hp) (fp : List Addr) : Cx where
  prog := X.prog
  w := X.w
  K := X.K
  mg := X.mg
  base := X.base
  A := X.A
  N := N'
  s₀ := s₀
  H₀ := H₀
  env := compEnvC sc (clOf X.env.cells sc.names []) C X.env
  outer := X.stack
  stack := X.stack
  ex := fp
  fn := fun _ => false
  calm := X.calm
  pn := []
  xe := fun _ _ => False


def capS (cap : List (Option Nat)) (σ : St) : St := cap.map fun o => o.bind fun j => (σ[j]?).join

structure CapOk (X : Cx) (sc : Scope) (N' : List Str) (cap : List (Option Nat)) : Prop where
  kind : sc.kind = .function
  len : cap.length = N'.length
  nocell : ∀ x ∈ sc.names, x.2 ≠ NameKind.cell
  locals : ∀ x ∈ sc.names, x.2 = NameKind.local → sc.names.lookup x.1 = some NameKind.local
  free : ∀ n, (n, NameKind.free) ∈ sc.names → X.env.kindOf n = some .cell ∨ X.env.kindOf n = some .free
  slots : ∀ (i j : Nat) (x : Str), N'[i]? = some x → cap[i]? = some (some j) → X.N[j]? = some x ∧ ((relabel sc X.env).names.lookup x = some .cell ∨ (relabel sc X.env).names.lookup x = some .free) ∧ Vis X.env.scope x

section
variable {X : Cx} {sc : Scope} {N' : List Str} {cap : List (Option Nat)} {pins : List (Addr × Obj)} {σ : St} {H : Hp} {s : Shared} {C : Addr} {fp : List Addr}

theorem CapOk.cells (c : CapOk X sc N' cap) (ok : X.Ok) : ∀ n, (n, NameKind.free) ∈ sc.names → ∃ c, X.env.cells.lookup n = some c := fun n hn => ok.has n (c.free n hn)

theorem relabel_mem {env : Env} {x : Str} {k : NameKind} (hnc : ∀ x ∈ sc.names, x.2 ≠ NameKind.cell) (h : (relabel sc env).names.lookup x = some k) (hk : k = .cell ∨ k = .free) : (x, NameKind.free) ∈ sc.names := by
  have all : ∀ (l : List (Str × NameKind)), (∀ x ∈ l, x.2 ≠ NameKind.cell) → (l.map fun (n, k) => if (k == NameKind.free && env.scope.kind == .function && env.kindOf n == some .cell) then (n, NameKind.cell) else (n, k)).lookup x = some k → (x, NameKind.free) ∈ l := by
    intro l
    induction l with
    | nil => intro _ h; exact nomatch h
    | cons p r ih =>
      intro hn h
      obtain ⟨n, q⟩ := p
      rw [List.map_cons, List.lookup_cons] at h
      by_cases hc : (q == NameKind.free && env.scope.kind == .function && env.kindOf n == some .cell) = true
      · have hq : q = NameKind.free := by
          have := hc
          simp only [Bool.and_eq_true] at this
          simpa using this.1.1
        simp only [hc, if_true] at h
        cases hx : x == n with
        | true =>
          have e : x = n := by simpa using hx
          rw [e, hq]
          exact List.mem_cons_self
        | false =>
          rw [hx] at h
          exact List.mem_cons_of_mem _ (ih (fun y hy => hn y (List.mem_cons_of_mem _ hy)) h)
      · simp only [hc] at h
        cases hx : x == n with
        | true =>
          have e : x = n := by simpa using hx
          simp only [Bool.false_eq_true, if_false, hx] at h
          have e2 : q = k := by simpa using h
          rcases hk with z | z
          · exact absurd (e2.trans z) (hn (n, q) List.mem_cons_self)
          · rw [e, ← z, ← e2]
            exact List.mem_cons_self
        | false =>
          simp only [Bool.false_eq_true, if_false, hx] at h
          exact List.mem_cons_of_mem _ (ih (fun y hy => hn y (List.mem_cons_of_mem _ hy)) h)
  exact all sc.names hnc h

theorem comp_ok (c : CapOk X sc N' cap) (I : Inv X pins σ H s) (hC : s.heap.objs.size ≤ C) (hf : ∀ b ∈ fp, FpOk X pins H b) (hb : ∀ b ∈ fp, b < s.heap.objs.size) : (compCx X sc N' C s H fp).Ok where
  mod := I.ok.mod
  kind := c.kind
  glob := I.ok.glob
  blt := I.ok.blt
  above := hC
  inj := fun x y a hx hy => I.ok.inj x y a (lookup_clOf (c.cells I.ok) (fun z => by simp at z) hx) (lookup_clOf (c.cells I.ok) (fun z => by simp at z) hy)
  has := fun x hx => by
    refine clOf_has (.inl ?_)
    rcases hx with hx | hx
    · exact relabel_mem c.nocell hx (.inl rfl)
    · exact relabel_mem c.nocell hx (.inr rfl)
  cab := fun _ _ h => nomatch h
  hd := I.ok.hd
  frames := I.ok.frames
  stk := .inl rfl
  exf := fun b hb' => ⟨Nat.ne_of_lt (Nat.lt_of_lt_of_le (hb b hb') hC), fun x a e => (hf b hb').2.2.2.2.1 x a (lookup_clOf (c.cells I.ok) (fun z => by simp at z) e)⟩
  bs := I.bs
  bsz := Nat.le_trans I.ok.bsz I.sz
  noex := fun b o e hb' => by
    rcases (hf b hb').2.2.2.1 with z | z
    · exact I.ok.noex b o e z
    · exact absurd (Nat.lt_of_lt_of_le (Heap.lt_size e) (Nat.le_trans I.ok.bsz z)) (Nat.lt_irrefl _)
  exfs := fun b hb' z => by
    obtain ⟨_, f1, f2, _⟩ := hf b hb'
    rcases List.mem_cons.mp (I.stkSub b z) with e | e
    · exact f1 e
    · exact f2 e
  funs := I.stack
  frf := I.stkFree


theorem comp_inv (c : CapOk X sc N' cap) (I : Inv X pins σ H s) {D : Addr} {h1 : Heap} {t : Nat} (hC : C = s.heap.objs.size + 1) (hD : D = s.heap.objs.size) (hf : ∀ b ∈ fp, FpOk X pins H b) (hb : ∀ b ∈ fp, b < s.heap.objs.size)
    (hn : h1.Ns C fun _ => none) (hl : h1.get? D = some { cls := .type "list", data := .seq #[] 0 }) (k : ∀ b o, s.heap.get? b = some o → h1.get? b = some o) :
    Inv (compCx X sc N' C s H fp) [] (capS cap σ) (upd H D (.lst [])) { s with heap := h1, toks := t } := by
  have hCs : s.heap.objs.size ≤ C := by rw [hC]; exact Nat.le_succ _
  have hCD : C ≠ D := by rw [hC, hD]; exact Nat.succ_ne_self _
  have ok := comp_ok (C := C) (fp := fp) c I hCs hf hb
  have hDn : H D = none := by rw [hD]; exact I.fresh
  have ltc : ∀ x a, (clOf X.env.cells sc.names []).lookup x = some a → X.env.cells.lookup x = some a := fun x a e => lookup_clOf (c.cells I.ok) (fun z => by simp at z) e
  have cel : ∀ a v, s.heap.IsCell a v → h1.IsCell a v := fun a v ⟨o, ho, hd⟩ => ⟨o, k a o ho, hd⟩
  have ltD : ∀ a v, s.heap.IsCell a v → a ≠ D := fun a v ⟨o, ho, hd⟩ => by rw [hD]; exact Nat.ne_of_lt (Heap.lt_size ho)
  refine ⟨ok, rfl, I.bare, Un.laid k (by rw [hD]; exact Nat.le_refl _) hDn, ⟨_, hn, fun i x v e1 e2 e3 => ?_⟩, fun x a e => ?_, ?_, fun x a e => ?_, fun p hp => absurd hp (by simp [compCx]), ?_, ?_⟩
  · have e2' : cap[i]?.map (fun o => o.bind fun j => (σ[j]?).join) = some (some v) := by
      have := e2
      unfold capS at this
      rw [List.getElem?_map] at this
      exact this
    cases hc : cap[i]? with
    | none => rw [hc] at e2'; cases e2'
    | some o =>
      rw [hc] at e2'
      cases o with
      | none => cases e2'
      | some j =>
        have e4 : (σ[j]?).join = some v := by simpa using e2'
        obtain ⟨q1, q2', q3⟩ := c.slots i j x e1 hc
        have q2 : (x, NameKind.free) ∈ sc.names := q2'.elim (fun z => relabel_mem c.nocell z (.inl rfl)) fun z => relabel_mem c.nocell z (.inr rfl)
        obtain ⟨m, hm, hl'⟩ := I.loc
        have e5 : σ[j]? = some (some v) := by
          cases z : σ[j]? with
          | none => rw [z] at e4; cases e4
          | some y => rw [z] at e4; cases y with
            | none => cases e4
            | some y' => cases e4; rfl
        obtain ⟨u, r, l⟩ := hl' j x v q1 e5 q3
        refine ⟨u, r, ?_⟩
        obtain ⟨a, ha⟩ := clOf_has (cells := X.env.cells) (l := sc.names) (acc := []) (x := x) (.inl q2)
        have kd : X.env.kindOf x = some .cell ∨ X.env.kindOf x = some .free := c.free x q2
        rcases l with ⟨hk, _⟩ | ⟨hk, a', ha', hcell⟩
        · rcases kd with z | z <;> rw [z] at hk <;> cases hk
        · have e6 : a' = a := by
            have := ltc x a ha
            rw [ha'] at this
            exact Option.some.inj this
          refine .inr ⟨q2', a, ha, ?_⟩
          rw [← e6]
          exact cel _ _ hcell
  · obtain ⟨v, z⟩ := I.cell x a (ltc x a e)
    exact ⟨v, cel a v z⟩
  · show upd H D (.lst []) C = none
    rw [upd_ne hCD]
    exact I.hok.fresh hCs
  · show upd H D (.lst []) a = none
    obtain ⟨v, z⟩ := I.cell x a (ltc x a e)
    rw [upd_ne (ltD a v z)]
    exact I.freeC x a (ltc x a e)
  · exact I.hok.laid k (by rw [hD]; exact Nat.le_refl _) ⟨Nat.zero_le _, [], 0, .nil, hl⟩
  · show (capS cap σ).length = N'.length
    unfold capS
    rw [List.length_map, c.len]
end
end L2

set_option Elab.async false
set_option linter.all false
set_option maxRecDepth 100000
set_option maxHeartbeats 4000000
namespace L2
open PySem PySem.Spec PyProof.Rows


def capB (osc : Scope) (N : List Str) (sc : Scope) (N' : List Str) (cap : List (Option Nat)) : Bool :=
  decide (sc.kind = .function) && decide (cap.length = N'.length) && sc.names.all (fun x => decide (x.2 ≠ NameKind.cell)) && sc.names.all (fun x => decide (x.2 = NameKind.local → sc.names.lookup x.1 = some NameKind.local)) &&
  sc.names.all (fun x => decide (x.2 = NameKind.free → (osc.names.lookup x.1 = some .cell ∨ osc.names.lookup x.1 = some .free))) &&
  (N'.zip cap).all (fun p => match p.2 with
    | none => true
    | some j => decide (N[j]? = some p.1) && decide (((sc.names.map fun (n, k) => if (k == .free && osc.kind == .function && osc.names.lookup n == some .cell) then (n, NameKind.cell) else (n, k)).lookup p.1 = some .cell) ∨
        ((sc.names.map fun (n, k) => if (k == .free && osc.kind == .function && osc.names.lookup n == some .cell) then (n, NameKind.cell) else (n, k)).lookup p.1 = some .free)) &&
      decide (osc.names.lookup p.1 = some .local ∨ osc.names.lookup p.1 = some .cell ∨ osc.names.lookup p.1 = some .free))
theorem capB_ok {X : Cx} {sc : Scope} {N' : List Str} {cap : List (Option Nat)} (h : capB X.env.scope X.N sc N' cap = true) : CapOk X sc N' cap := by
  unfold capB at h
  rw [Bool.and_eq_true, Bool.and_eq_true, Bool.and_eq_true, Bool.and_eq_true, Bool.and_eq_true, List.all_eq_true, List.all_eq_true, List.all_eq_true, List.all_eq_true] at h
  obtain ⟨⟨⟨⟨⟨h1, h2⟩, h3⟩, h4⟩, h5⟩, h6⟩ := h
  refine ⟨of_decide_eq_true h1, of_decide_eq_true h2, fun x hx => of_decide_eq_true (h3 x hx), fun x hx => of_decide_eq_true (h4 x hx), fun n hn => of_decide_eq_true (h5 _ hn) rfl, fun i j x e1 e2 => ?_⟩
  have hm : (x, some j) ∈ N'.zip cap := by
    have e : (N'.zip cap)[i]? = some (x, some j) := by
      rw [List.getElem?_zip_eq_some]
      exact ⟨e1, e2⟩
    exact List.mem_of_getElem? e
  have h7 := h6 _ hm
  dsimp only at h7
  rw [Bool.and_eq_true, Bool.and_eq_true] at h7
  obtain ⟨⟨h8, h9⟩, h10⟩ := h7
  exact ⟨of_decide_eq_true h8, of_decide_eq_true (p := (relabel sc X.env).names.lookup x = some .cell ∨ (relabel sc X.env).names.lookup x = some .free) h9, of_decide_eq_true (p := X.env.scope.names.lookup x = some .local ∨ X.env.scope.names.lookup x = some .cell ∨ X.env.scope.names.lookup x = some .free) h10⟩


def PTs (X : Cx) (ifs : List Expr) (t : TT) : Prop :=
  ∀ (pins : List (Addr × Obj)) (s : Shared) (σ : St) (H : Hp) (Q : Bool → Hp → Prop), Inv X pins σ H s → t σ H Q →
    wpAny (model X.prog X.w) X.A (forIn ifs true fun c r => if r = true then do let ok ← isTrue c X.env (eval c X.env); pure (ForInStep.yield ok) else pure (ForInStep.yield r)) (TP X pins σ Q) X.xe s
def tYes : TT := fun _ H Q => Q true H
theorem pts_nil {X : Cx} : PTs X [] tYes := fun _ _ _ H _ I h => wpAny_tests_nil ⟨H, I, h⟩
def RunC (J : It) (g : TG) (tc : TT) (te : TE) (D : Addr) (Q : Hp → Prop) (τ : St) (H : Hp) : Prop :=
  ∃ W : Nat → Nat → List V → St → Hp → Prop, (∃ m, W 0 m [] τ H) ∧ ∀ i m ys τ H, W i m ys τ H →
    (J.stop i H ∧ Q H) ∨
    (J.go i H ∧ ∃ N : List V → St → Hp → Prop, (∀ ys' τ' H', N ys' τ' H' → ∃ m', m' < m ∧ W (i + 1) m' ys' τ' H') ∧
      ∀ x H', J.yld i H x H' → g x τ H' fun τ2 H2 => tc τ2 H2 fun b H3 => if b = true then te τ2 H3 fun y H4 => H4 D = some (.lst ys) ∧ ys.length < sizeLine ∧ N (ys ++ [y]) τ2 (upd H4 D (.lst (ys ++ [y]))) else N ys τ2 H3)

section
variable {X : Cx} {sc : Scope} {N' : List Str} {cap : List (Option Nat)} {tg elt iter : Expr} {ifs : List Expr} {pos : Pos} {g : TG} {tc : TT} {te : TE}

theorem comp_loop {Y : Cx} {J : It} {fp : List Addr} {it D : Addr} {tn : Nat → Heap → Prop} {R : Result → Shared → Prop} {Q : Hp → Prop} {τ : St} {H : Hp} {s : Shared}
    (hx : Y.xe = fun _ _ => False) (hc : Y.calm = true) (hg : PG Y tg g) (ht : PTs Y ifs tc) (he : PE Y elt te) (T : Turn Y.prog Y.w Y.K tg J fp it tn) (st : tn 0 s.heap) (hf : ∀ b ∈ fp, FpOk Y [] H b) (I : Inv Y [] τ H s)
    (h : RunC J g tc te D Q τ H) (hR : ∀ τ' H' s', Inv Y [] τ' H' s' → Q H' → R (.ok .next) s') :
    codeAny (model Y.prog Y.w) Y.A (.compLoop (.ListComp elt [⟨tg, iter, ifs, 0⟩] sc pos) 0 (.ref it) (.ref D) Y.env) R s := by
  obtain ⟨W, ⟨m0, w0⟩, turn⟩ := h
  have stat : ∀ {H' : Hp}, (∀ b ∈ fp, H' b = none) → ∀ b ∈ fp, FpOk Y [] H' b := fun hn b hb => ⟨hn b hb, (hf b hb).2⟩
  have no : ∀ {P : Prop} {e : Value} {s' : Shared}, Y.xe e s' → P := fun z => by rw [hx] at z; exact z.elim
  refine codeAny_loop rfl (fun n s' => ∃ i ys τ' H', Inv Y [] τ' H' s' ∧ tn i s'.heap ∧ (∀ b ∈ fp, H' b = none) ∧ W i n ys τ' H') ?_ m0 ⟨0, [], τ, H, I, st, fun b hb => (hf b hb).1, w0⟩
  rintro n s3 ⟨i, ys, τ3, H3, I3, st3, fr3, w3⟩
  show wpAny _ Y.A ((compTurn (.ListComp elt [⟨tg, iter, ifs, 0⟩] sc pos) 0 (.ref it) (.ref D) Y.env).onRaise (fun x => do noteFrame x Y.env; theTreesLotGoes x)) _ _ s3
  refine wpAny_noted ?_
  rw [compTurn_list]
  refine wpAny_bind (wpAny_standAt (wpAny_bind ?_))
  rcases turn i n ys τ3 H3 w3 with ⟨stop, qn⟩ | ⟨go, N, hN, step⟩
  · refine wpAny_mono (T.done Y rfl rfl rfl hc i [] s3 τ3 H3 (fun _ _ => False) I3 (stat fr3) st3 stop) (fun r s4 ⟨hr, I4⟩ => ?_) fun _ _ z => z.elim
    subst hr
    exact wpAny_pure (hR _ _ _ I4 qn)
  · refine wpAny_mono (T.item Y rfl rfl rfl hc i [] s3 τ3 H3 (fun _ _ => False) I3 (stat fr3) st3 go) (fun r s4 ⟨u, hr, h4⟩ => ?_) fun _ _ z => z.elim
    subst hr
    refine wpAny_bind (wpAny_mono h4 (fun _ s5 ⟨x, H5, I5, r5, y5, st5, fr5⟩ => ?_) fun _ _ z => z.elim)
    have I5' := I5.pinned (stat fr5) (T.obj _ _ st5)
    have again : ∀ {τ7 : St} {H7 : Hp} {ys7 : List V} {s7 : Shared}, Inv Y ([] ++ pinsAt fp s5.heap) τ7 H7 s7 → N ys7 τ7 H7 → ∃ m, m < n ∧ ∃ i ys τ' H', Inv Y [] τ' H' s7 ∧ tn i s7.heap ∧ (∀ b ∈ fp, H' b = none) ∧ W i m ys τ' H' := fun {τ7 H7 ys7 s7} I7 n7 => by
      obtain ⟨m', hm, w7⟩ := hN ys7 τ7 H7 n7
      refine ⟨m', hm, i + 1, ys7, τ7, H7, I7.unpinned, T.keep _ _ _ st5 fun b hb o e => (I7.pin (b, o) (List.mem_append_right _ (List.mem_append_right _ (mem_pinsAt hb e)))).1, fun b hb => ?_, w7⟩
      obtain ⟨o, e, d⟩ := T.obj _ _ st5 b hb
      exact (I7.pin (b, o) (List.mem_append_right _ (List.mem_append_right _ (mem_pinsAt hb e)))).2.1
    refine wpAny_bind (wpAny_mono (hg _ s5 τ3 H5 x u _ I5' r5 (step x H5 y5)) (fun _ s6 ⟨τ6, H6, I6, q6⟩ => ?_) fun _ _ z => no z)
    refine wpAny_bind (wpAny_mono (ht _ s6 τ6 H6 _ I6 q6) (fun ok s7 ⟨H7, I7, q7⟩ => ?_) fun _ _ z => no z)
    cases ok with
    | false =>
      have q8 : N ys τ6 H7 := by simpa using q7
      exact wpAny_pure ⟨rfl, again I7 q8⟩
    | true =>
      have q8 : te τ6 H7 fun y H4 => H4 D = some (.lst ys) ∧ ys.length < sizeLine ∧ N (ys ++ [y]) τ6 (upd H4 D (.lst (ys ++ [y]))) := by simpa using q7
      refine wpAny_bind (wpAny_bind (wpAny_mono (he _ s7 τ6 H7 _ I7 q8) (fun y s8 ⟨v8, H8, I8, r8, hD, hl, n8⟩ => ?_) fun _ _ z => no z))
      refine wpAny_bind (wpAny_mono (mt_append _ s8 τ6 H8 (.ref D) [v8] (.ref D) [y] (fun _ H9 => N (ys ++ [v8]) τ6 H9) I8 rfl (.cons r8 .nil) ⟨D, ys, v8, rfl, rfl, hD, hl, n8⟩) (fun _ s9 ⟨_, H9, I9, _, n9⟩ => ?_) fun _ _ z => no z)
      exact wpAny_pure (wpAny_pure ⟨rfl, again I9 n9⟩)


theorem comp_block {pins : List (Addr × Obj)} {σ : St} {H : Hp} {s : Shared} {J : It} {fp : List Addr} {it : Addr} {tn : Nat → Heap → Prop} {RR : Value → Addr → Result → Shared → Prop} {Q : Addr → Hp → Prop} {E : Value → Shared → Prop}
    (c : CapOk X sc N' cap) (hc : X.calm = true) (hg : ∀ C s₀ H₀ fp, PG (compCx X sc N' C s₀ H₀ fp) tg g) (ht : ∀ C s₀ H₀ fp, PTs (compCx X sc N' C s₀ H₀ fp) ifs tc) (he : ∀ C s₀ H₀ fp, PE (compCx X sc N' C s₀ H₀ fp) elt te)
    (I : Inv X pins σ H s) (T : Turn X.prog X.w X.K tg J fp it tn) (st : tn 0 s.heap) (hf : ∀ b ∈ fp, FpOk X pins H b)
    (h : ∀ D, H D = none → RunC J g tc te D (Q D) (capS cap σ) (upd H D (.lst [])))
    (hR : ∀ D C s' H' m', H D = none → s.heap.objs.size ≤ C → s'.os = s.os → AllBare s'.gens → Un (frs X.stack) fp H H' s.heap s'.heap → HOk X.prog X.w H' s'.heap → s'.heap.Ns C m' → H' C = none → C ∉ fp → Q D H' → RR (.ref D) C (.ok .next) s') :
    wpAny (model X.prog X.w) X.A (newList []) (fun acc s₃ => wpAny (model X.prog X.w) X.A (newFunctionEnv sc X.env.globals (clOf X.env.cells sc.names []) [] X.env.qual none .none (some X.env)) (fun cenv s₄ =>
      codeAny (model X.prog X.w) X.A (.compStart (.ListComp elt [⟨tg, iter, ifs, 0⟩] sc pos) 0 (.ref it) acc { cenv with scope := relabel sc X.env }) (RR acc cenv.locals) s₄) E s₃) E s := by
  have hb : ∀ b ∈ fp, b < s.heap.objs.size := fun b hb => by
    obtain ⟨o, e, _⟩ := T.obj _ _ st b hb
    exact Heap.lt_size e
  refine wpAny_newObj_type (wpAny_newFunctionEnv c.nocell (by intro y hy; simp at hy) (fun h₁ hns₁ hsb₁ => ?_) c.kind)
  dsimp only at hns₁ hsb₁ ⊢
  generalize hH2 : s.heap.push { cls := .type "list", dict := none, data := .seq ([] : List Value).toArray } = H2 at hns₁ hsb₁ ⊢
  have hC : H2.objs.size = s.heap.objs.size + 1 := by rw [← hH2, Heap.size_push]
  have hCl : s.heap.objs.size ≤ H2.objs.size := by rw [hC]; exact Nat.le_succ _
  have hCn : s.heap.objs.size ≠ H2.objs.size := by rw [hC]; exact (Nat.succ_ne_self _).symm
  have old : ∀ b o, s.heap.get? b = some o → h₁.get? b = some o := fun b o e => by
    have l1 := Heap.lt_size e
    exact hsb₁.extBut b o (Nat.ne_of_lt (Nat.lt_of_lt_of_le l1 hCl)) (Heap.get?_push_of_some _ (hH2 ▸ Heap.get?_push_of_some _ e))
  have hl : h₁.get? s.heap.objs.size = some { cls := .type "list", data := .seq #[] 0 } := hsb₁.extBut _ _ hCn (Heap.get?_push_of_some _ (hH2 ▸ Heap.get?_push_size _ rfl))
  have hns₂ : h₁.Ns H2.objs.size fun _ => none := by simpa using hns₁
  have I4 : Inv (compCx X sc N' H2.objs.size s H fp) [] (capS cap σ) (upd H s.heap.objs.size (.lst [])) { s with heap := h₁, toks := s.toks + ([] : List (Str × Value)).length } := comp_inv c I hC rfl hf hb hns₂ hl old
  have hfr : H s.heap.objs.size = none := I.fresh
  have f4 : ∀ b ∈ fp, FpOk (compCx X sc N' H2.objs.size s H fp) [] (upd H s.heap.objs.size (.lst [])) b := fun b hb' => by
    obtain ⟨f0, f1, f2, f3, f4, f5⟩ := hf b hb'
    have lb := hb b hb'
    refine ⟨by rw [upd_ne (Nat.ne_of_lt lb)]; exact f0, (Nat.ne_of_lt (Nat.lt_of_lt_of_le lb hCl) : b ≠ H2.objs.size), fun z => ?_, .inl hb', fun x a e => f4 x a (lookup_clOf (c.cells I.ok) (fun z => by simp at z) e), fun p hp => absurd hp (by simp [compCx])⟩
    rcases List.mem_cons.mp (I.stkSub b z) with e | e
    · exact f1 e
    · exact f2 e
  have st4 : tn 0 h₁ := T.keep _ _ _ st fun b _ o e => old b o e
  have loop : ∀ s₅ : Shared, s₅ = { s with heap := h₁, toks := s.toks + ([] : List (Str × Value)).length } →
      codeAny (model X.prog X.w) X.A (.compLoop (.ListComp elt [⟨tg, iter, ifs, 0⟩] sc pos) 0 (.ref it) (.ref s.heap.objs.size) (compCx X sc N' H2.objs.size s H fp).env) (RR (.ref s.heap.objs.size) H2.objs.size) s₅ := by
    rintro s₅ rfl
    refine comp_loop (Y := compCx X sc N' H2.objs.size s H fp) (J := J) (fp := fp) (tn := tn) (Q := Q s.heap.objs.size) rfl hc (hg _ _ _ _) (ht _ _ _ _) (he _ _ _ _) T st4 f4 I4 (h _ hfr) fun τ' H' s' I' q' => ?_
    obtain ⟨m', hn', _⟩ := I'.loc
    exact hR _ _ s' H' m' hfr hCl I'.os I'.bare I'.base I'.hok hn' I'.free (fun z => absurd (Nat.lt_of_lt_of_le (hb _ z) hCl) (Nat.lt_irrefl _)) q'
  exact codeAny_compStart_list (loop _ rfl) (T.self _ 0 _ _ _ st4 (loop _ rfl))

def tComp (wi : TI) (cap : List (Option Nat)) (g : TG) (tc : TT) (te : TE) : TE := fun σ H Q => wi σ H fun J H1 => ∀ D, H1 D = none → RunC J g tc te D (fun H' => Q (.ref D) H') (capS cap σ) (upd H1 D (.lst []))

theorem Inv.fpCh {pins : List (Addr × Obj)} {H : Hp} {fp : List Addr} (hf : ∀ b ∈ fp, FpOk X pins H b) : ∀ b ∈ fp, (b ∈ X.ex ∨ X.s₀.heap.objs.size ≤ b) ∧ b ≠ X.env.locals ∧ (∀ x c, X.env.cells.lookup x = some c → c ≠ b) ∧ ∀ p ∈ X.pn ++ pins, p.1 ≠ b :=
  fun b hb => let ⟨_, f1, _, f3, f4, f5⟩ := hf b hb; ⟨f3, f1, f4, f5⟩

theorem pe_comp {wi : TI} (hc : X.calm = true) (hcap : capB X.env.scope X.N sc N' cap = true) (hi : PI X tg iter wi) (hg : ∀ C s₀ H₀ fp, PG (compCx X sc N' C s₀ H₀ fp) tg g) (ht : ∀ C s₀ H₀ fp, PTs (compCx X sc N' C s₀ H₀ fp) ifs tc)
    (he : ∀ C s₀ H₀ fp, PE (compCx X sc N' C s₀ H₀ fp) elt te) (hs : ∀ x, foldedSetIterable iter X.env x = pure x := by intro _; rfl) : PE X (.ListComp elt [⟨tg, iter, ifs, 0⟩] sc pos) (tComp wi cap g tc te) := by
  intro pins s σ H Q I h
  have c : CapOk X sc N' cap := capB_ok hcap
  rw [eval_ListComp]
  refine wpAny_comprehension_free (use := none) rfl hs (closure_ok (c.cells I.ok)) c.kind c.locals (thn (hi pins s σ H _ I h) fun v s1 h1 => thn h1 fun itv s2 h2 => ?_)
  obtain ⟨it, fp, tn, J, H2, e, I2, T, st2, f2, hW⟩ := h2
  subst e
  refine comp_block (RR := fun acc C => compPost (model X.prog X.w) X.A X.xe none (EP X pins σ Q) acc C) (Q := fun D H' => Q (.ref D) H') c hc hg ht he I2 T st2 f2 hW ?_
  intro D C s' H' m' hD hC hos hbare hun hok hn hHC hCf q
  refine ⟨m', hn, fun h' hsb => ?_⟩
  have I3 : Inv X pins σ H' s' := I2.call' hos hun hok hbare (Inv.fpCh f2)
  have f3 : FpOk X pins H' C := I2.fpOk hC hHC
  obtain ⟨_, k1, _, k3, k4, k5⟩ := f3
  have I4 : Inv X pins σ H' { s' with heap := h' } := I3.turned (t' := s'.toks) (fun b o hb e => (hsb.2 b hb).trans e) hHC k1 k3 k4 k5
  exact ⟨.ref D, H', I4, rfl, q⟩


end


section
variable {g : TG} {tc : TT} {te : TE} {D : Addr} {Q : Hp → Prop} {τ : St} {H : Hp}
theorem comp_list {K : PySem.W.Frag} {a : Addr} {xs : List V} (Pv : Nat → List V → St → Hp → Prop) (h0 : Pv 0 [] τ H) (hl : ∀ i ys τ H, i ≤ xs.length → Pv i ys τ H → SqL K H a xs)
    (hs : ∀ i x ys τ H, xs[i]? = some x → Pv i ys τ H → g x τ H fun τ2 H2 => tc τ2 H2 fun b H3 => if b = true then te τ2 H3 fun y H4 => H4 D = some (.lst ys) ∧ ys.length < sizeLine ∧ Pv (i + 1) (ys ++ [y]) τ2 (upd H4 D (.lst (ys ++ [y]))) else Pv (i + 1) ys τ2 H3)
    (hd : ∀ ys τ H, Pv xs.length ys τ H → Q H) : RunC (Itl K a) g tc te D Q τ H := by
  refine ⟨fun i m ys τ H => m = xs.length - i ∧ i ≤ xs.length ∧ Pv i ys τ H, ⟨xs.length, by simp, Nat.zero_le _, h0⟩, ?_⟩
  rintro i m ys τ H ⟨rfl, hi, p⟩
  have q := hl i ys τ H hi p
  by_cases hlt : i < xs.length
  · refine .inr ⟨⟨xs, xs[i], q, by simp [hlt]⟩, Pv (i + 1), fun ys' τ' H' p' => ⟨xs.length - (i + 1), by omega, rfl, hlt, p'⟩, fun x H' y => ?_⟩
    obtain ⟨e, y⟩ := y
    subst e
    exact hs i x ys τ _ (y xs q) p
  · have e : i = xs.length := by omega
    subst e
    exact .inl ⟨⟨xs, q, Nat.le_refl _⟩, hd ys τ H p⟩
theorem comp_tup {K : PySem.W.Frag} {a : Addr} {xs : List V} (Pv : Nat → List V → St → Hp → Prop) (h0 : Pv 0 [] τ H) (hl : ∀ i ys τ H, i ≤ xs.length → Pv i ys τ H → SqT K H a xs)
    (hs : ∀ i x ys τ H, xs[i]? = some x → Pv i ys τ H → g x τ H fun τ2 H2 => tc τ2 H2 fun b H3 => if b = true then te τ2 H3 fun y H4 => H4 D = some (.lst ys) ∧ ys.length < sizeLine ∧ Pv (i + 1) (ys ++ [y]) τ2 (upd H4 D (.lst (ys ++ [y]))) else Pv (i + 1) ys τ2 H3)
    (hd : ∀ ys τ H, Pv xs.length ys τ H → Q H) : RunC (Itt K a) g tc te D Q τ H := by
  refine ⟨fun i m ys τ H => m = xs.length - i ∧ i ≤ xs.length ∧ Pv i ys τ H, ⟨xs.length, by simp, Nat.zero_le _, h0⟩, ?_⟩
  rintro i m ys τ H ⟨rfl, hi, p⟩
  have q := hl i ys τ H hi p
  by_cases hlt : i < xs.length
  · refine .inr ⟨⟨xs, xs[i], q, by simp [hlt]⟩, Pv (i + 1), fun ys' τ' H' p' => ⟨xs.length - (i + 1), by omega, rfl, hlt, p'⟩, fun x H' y => ?_⟩
    obtain ⟨e, y⟩ := y
    subst e
    exact hs i x ys τ _ (y xs q) p
  · have e : i = xs.length := by omega
    subst e
    exact .inl ⟨⟨xs, q, Nat.le_refl _⟩, hd ys τ H p⟩
theorem comp_range {lo : Int} {n : Nat} (Pv : Nat → List V → St → Hp → Prop) (h0 : Pv 0 [] τ H)
    (hs : ∀ i ys τ H, i < n → Pv i ys τ H → g (.int (lo + i)) τ H fun τ2 H2 => tc τ2 H2 fun b H3 => if b = true then te τ2 H3 fun y H4 => H4 D = some (.lst ys) ∧ ys.length < sizeLine ∧ Pv (i + 1) (ys ++ [y]) τ2 (upd H4 D (.lst (ys ++ [y]))) else Pv (i + 1) ys τ2 H3)
    (hd : ∀ ys τ H, Pv n ys τ H → Q H) : RunC (Itr lo n) g tc te D Q τ H := by
  refine ⟨fun i m ys τ H => m = n - i ∧ i ≤ n ∧ Pv i ys τ H, ⟨n, by simp, Nat.zero_le _, h0⟩, ?_⟩
  rintro i m ys τ H ⟨rfl, hi, p⟩
  by_cases hlt : i < n
  · refine .inr ⟨hlt, Pv (i + 1), fun ys' τ' H' p' => ⟨n - (i + 1), by omega, rfl, hlt, p'⟩, fun x H' y => ?_⟩
    obtain ⟨e, y⟩ := y
    subst e y
    exact hs i ys τ _ hlt p
  · have e : i = n := by omega
    subst e
    exact .inl ⟨Nat.le_refl _, hd ys τ H p⟩
end
end L2

set_option Elab.async false
set_option linter.all false
set_option maxRecDepth 100000
set_option maxHeartbeats 4000000

namespace L2
open PySem PySem.Spec PyProof.Rows PySem.SeqAt

inductive D where
  | non | bl (b : Bool) | int (i : Int) | str (x : Str) | tup (ds : List D) | lst (ds : List D)

mutual
def Rep (K : PySem.W.Frag) (H : Hp) : V → D → Prop
  | v, .non => v = .non
  | v, .bl b => v = .bl b
  | v, .int i => v = .int i
  | v, .str x => v = .str x
  | v, .tup ds => ∃ a vs, v = .ref a ∧ SqT K H a vs ∧ Reps K H vs ds
  | v, .lst ds => ∃ a vs, v = .ref a ∧ SqL K H a vs ∧ Reps K H vs ds
def Reps (K : PySem.W.Frag) (H : Hp) : List V → List D → Prop
  | vs, [] => vs = []
  | vs, d :: ds => ∃ v r, vs = v :: r ∧ Rep K H v d ∧ Reps K H r ds
end
mutual
def imm : D → Bool
  | .lst _ => false
  | .tup ds => imms ds
  | _ => true
def imms : List D → Bool
  | [] => true
  | d :: ds => imm d && imms ds
end
mutual
def dep : D → Nat
  | .lst ds => deps ds + 1
  | .tup ds => deps ds + 1
  | _ => 0
def deps : List D → Nat
  | [] => 0
  | d :: ds => max (dep d) (deps ds)
end
mutual
def eqD : D → D → Bool
  | .non, .non => true
  | .bl a, .bl b => a == b
  | .bl a, .int b => (if a then 1 else 0) == b
  | .int a, .bl b => a == (if b then 1 else 0)
  | .int a, .int b => a == b
  | .str a, .str b => a == b
  | .tup a, .tup b => eqDs a b
  | .lst a, .lst b => eqDs a b
  | _, _ => false
def eqDs : List D → List D → Bool
  | [], [] => true
  | a :: r, b :: q => eqD a b && eqDs r q
  | _, _ => false
end
mutual
theorem eqD_refl (d : D) : eqD d d = true := by
  cases d with
  | non => rfl
  | bl b => simp [eqD]
  | int b => simp [eqD]
  | str b => simp [eqD]
  | tup ds => simp only [eqD]; exact eqDs_refl ds
  | lst ds => simp only [eqD]; exact eqDs_refl ds
theorem eqDs_refl (ds : List D) : eqDs ds ds = true := by
  cases ds with
  | nil => rfl
  | cons d r => simp only [eqDs, Bool.and_eq_true]; exact ⟨eqD_refl d, eqDs_refl r⟩
end
theorem eqDs_len : ∀ {a b : List D}, eqDs a b = true → a.length = b.length
  | [], [], _ => rfl
  | [], _ :: _, h => by simp [eqDs] at h
  | _ :: _, [], h => by simp [eqDs] at h
  | x :: a, y :: b, h => by
    simp only [eqDs, Bool.and_eq_true] at h
    rw [List.length_cons, List.length_cons, eqDs_len h.2]
theorem eqDs_all : ∀ (a b : List D), a.length = b.length → eqDs a b = (List.range a.length).all fun j => match a[j]?, b[j]? with | some x, some y => eqD x y | _, _ => true
  | [], [], _ => by simp [eqDs]
  | [], _ :: _, h => by simp at h
  | _ :: _, [], h => by simp at h
  | x :: a, y :: b, h => by
    have h' : a.length = b.length := by simpa using h
    rw [List.length_cons, List.range_succ_eq_map, List.all_cons, List.all_map]
    simp only [eqDs, eqDs_all a b h']
    congr 1


structure TSame (H H' : Hp) : Prop where
  tup : ∀ b xs, H b = some (.tup xs) → H' b = some (.tup xs)
  frz : ∀ b o u, H b = some (.frz o u) → H' b = some (.frz o u)
section
variable {K : PySem.W.Frag} {H H' H1 H2 : Hp} {a l p : Addr} {xs : List V} {o : HO}
theorem TSame.refl : TSame H H := ⟨fun _ _ h => h, fun _ _ _ h => h⟩
theorem TSame.trans (x : TSame H H1) (y : TSame H1 H2) : TSame H H2 := ⟨fun b xs h => y.tup b xs (x.tup b xs h), fun b o u h => y.frz b o u (x.frz b o u h)⟩
theorem Same.t (x : Same H H') : TSame H H' := ⟨fun b xs h => x b _ h, fun b o u h => x b _ h⟩
theorem TSame.new (h : H l = none) : TSame H (upd H l o) := ⟨fun b xs e => by rw [upd_ne (ne_of_none e h)]; exact e, fun b ob u e => by rw [upd_ne (ne_of_none e h)]; exact e⟩
theorem TSame.lst (h : H l = some (.lst xs)) : TSame H (upd H l o) := ⟨fun b ys e => by rw [upd_ne (ne_of e h (by intro z; cases z))]; exact e, fun b ob u e => by rw [upd_ne (ne_of e h (by intro z; cases z))]; exact e⟩
theorem Same.new (h : H l = none) : Same H (upd H l o) := fun b u e => by rw [upd_ne (ne_of_none e h)]; exact e

theorem Same.turn (x : Same H H1) (h : H l = none) : Same H (upd H1 l o) := fun b u e => by rw [upd_ne (ne_of_none e h)]; exact x b u e
theorem SqT.t (x : TSame H H') (h : SqT K H a xs) : SqT K H' a xs := by
  rcases h with (h | ⟨o, h⟩) | h
  · exact .inl (.inl (x.tup _ _ h))
  · exact .inl (.inr ⟨o, x.frz _ _ _ h⟩)
  · exact .inr h
theorem Same.seqT (x : Same H H') (h : SqT K H a xs) : SqT K H' a xs := h.t x.t
theorem SqL.up (h : SqL K H a xs) (hn : H l = none ∨ (∃ ys, H l = some (.tup ys))) : SqL K (upd H l o) a xs := by
  rcases h with (h | ⟨o, h⟩) | h
  · refine .inl (.inl ?_)
    rw [upd_ne]
    · exact h
    · rcases hn with z | ⟨ys, z⟩
      · exact ne_of_none h z
      · exact ne_of h z (by intro q; cases q)
  · refine .inl (.inr ⟨o, ?_⟩)
    rw [upd_ne]
    · exact h
    · rcases hn with z | ⟨ys, z⟩
      · exact ne_of_none h z
      · exact ne_of h z (by intro q; cases q)
  · exact .inr h
mutual
theorem Rep.t (x : TSame H H') {v : V} {d : D} (hi : imm d = true) (h : Rep K H v d) : Rep K H' v d := by
  cases d with
  | non => exact h
  | bl b => exact h
  | int i => exact h
  | str x => exact h
  | tup ds =>
    obtain ⟨a, vs, e, q, r⟩ := h
    exact ⟨a, vs, e, q.t x, Reps.t x (by simpa [imm] using hi) r⟩
  | lst ds => simp [imm] at hi
theorem Reps.t (x : TSame H H') {vs : List V} {ds : List D} (hi : imms ds = true) (h : Reps K H vs ds) : Reps K H' vs ds := by
  cases ds with
  | nil => exact h
  | cons d r =>
    obtain ⟨v, q, e, h1, h2⟩ := h
    simp only [imms, Bool.and_eq_true] at hi
    exact ⟨v, q, e, Rep.t x hi.1 h1, Reps.t x hi.2 h2⟩
end
mutual
theorem Rep.same (x : Same H H') {v : V} {d : D} (h : Rep K H v d) : Rep K H' v d := by
  cases d with
  | non => exact h
  | bl b => exact h
  | int i => exact h
  | str x => exact h
  | tup ds =>
    obtain ⟨a, vs, e, q, r⟩ := h
    exact ⟨a, vs, e, x.seqT q, Reps.same x r⟩
  | lst ds =>
    obtain ⟨a, vs, e, q, r⟩ := h
    exact ⟨a, vs, e, x.seq q, Reps.same x r⟩
theorem Reps.same (x : Same H H') {vs : List V} {ds : List D} (h : Reps K H vs ds) : Reps K H' vs ds := by
  cases ds with
  | nil => exact h
  | cons d r =>
    obtain ⟨v, q, e, h1, h2⟩ := h
    exact ⟨v, q, e, Rep.same x h1, Reps.same x h2⟩
end
theorem Reps.length : ∀ {vs : List V} {ds : List D}, Reps K H vs ds → vs.length = ds.length
  | vs, [], h => by cases (show vs = [] from h); rfl
  | vs, d :: ds, h => by
    obtain ⟨v, r, rfl, _, h2⟩ := h
    rw [List.length_cons, List.length_cons, Reps.length h2]
theorem Reps.get : ∀ {vs : List V} {ds : List D} {i : Nat} {d : D}, Reps K H vs ds → ds[i]? = some d → ∃ v, vs[i]? = some v ∧ Rep K H v d
  | vs, [], i, d, h, e => by simp at e
  | vs, d0 :: ds, 0, d, h, e => by
    obtain ⟨v, r, rfl, h1, _⟩ := h
    simp only [List.getElem?_cons_zero, Option.some.injEq] at e
    subst e
    exact ⟨v, by simp, h1⟩
  | vs, d0 :: ds, i + 1, d, h, e => by
    obtain ⟨v, r, rfl, _, h2⟩ := h
    obtain ⟨u, e1, e2⟩ := Reps.get (i := i) h2 (by simpa using e)
    exact ⟨u, by simpa using e1, e2⟩
theorem Reps.getV : ∀ {vs : List V} {ds : List D} {i : Nat} {v : V}, Reps K H vs ds → vs[i]? = some v → ∃ d, ds[i]? = some d ∧ Rep K H v d := fun {vs ds i v} h e => by
  have hl := h.length
  have hi : i < vs.length := (List.getElem?_eq_some_iff.mp e).1
  obtain ⟨d, hd⟩ : ∃ d, ds[i]? = some d := ⟨ds[i]'(by omega), by simp <;> omega⟩
  obtain ⟨u, e1, e2⟩ := h.get hd
  rw [e] at e1
  cases e1
  exact ⟨d, hd, e2⟩
theorem Reps.append : ∀ {vs ws : List V} {ds es : List D}, Reps K H vs ds → Reps K H ws es → Reps K H (vs ++ ws) (ds ++ es)
  | vs, ws, [], es, h, h' => by cases (show vs = [] from h); exact h'
  | vs, ws, d :: ds, es, h, h' => by
    obtain ⟨v, r, rfl, h1, h2⟩ := h
    exact ⟨v, r ++ ws, rfl, h1, Reps.append h2 h'⟩
theorem Reps.one {v : V} {d : D} (h : Rep K H v d) : Reps K H [v] [d] := ⟨v, [], rfl, h, rfl⟩
theorem Reps.snoc {vs : List V} {ds : List D} {v : V} {d : D} (h : Reps K H vs ds) (h' : Rep K H v d) : Reps K H (vs ++ [v]) (ds ++ [d]) := h.append (.one h')
theorem Reps.take : ∀ {vs : List V} {ds : List D} (n : Nat), Reps K H vs ds → Reps K H (vs.take n) (ds.take n)
  | vs, ds, 0, h => by simp [Reps]
  | vs, [], n + 1, h => by cases (show vs = [] from h); simp [Reps]
  | vs, d :: ds, n + 1, h => by
    obtain ⟨v, r, rfl, h1, h2⟩ := h
    exact ⟨v, r.take n, rfl, h1, Reps.take n h2⟩
theorem Reps.drop : ∀ {vs : List V} {ds : List D} (n : Nat), Reps K H vs ds → Reps K H (vs.drop n) (ds.drop n)
  | vs, ds, 0, h => h
  | vs, [], n + 1, h => by cases (show vs = [] from h); simp [Reps]
  | vs, d :: ds, n + 1, h => by
    obtain ⟨v, r, rfl, h1, h2⟩ := h
    exact Reps.drop n h2

def cutD (ds : List D) (lo hi : Option Int) : List D := (ds.drop (HT.sIx ds.length 0 lo)).take (HT.sIx ds.length ds.length hi - HT.sIx ds.length 0 lo)
def nums (ns : List Int) : List D := ns.map D.int
abbrev tI (ns : List Int) : D := .tup (nums ns)
theorem imms_nums : ∀ ns : List Int, imms (nums ns) = true
  | [] => rfl
  | n :: ns => by show (imm (.int n) && imms (nums ns)) = true; rw [imms_nums ns]; rfl
theorem imm_tI (ns : List Int) : imm (tI ns) = true := imms_nums ns
theorem imms_tIs : ∀ xs : List (List Int), imms (xs.map tI) = true
  | [] => rfl
  | x :: xs => by show (imm (tI x) && imms (xs.map tI)) = true; rw [imms_tIs xs, imm_tI]; rfl
theorem eqDs_nums : ∀ a b : List Int, eqDs (nums a) (nums b) = decide (a = b)
  | [], [] => by simp [nums, eqDs]
  | [], _ :: _ => by simp [nums, eqDs]
  | _ :: _, [] => by simp [nums, eqDs]
  | x :: a, y :: b => by
    show (eqD (.int x) (.int y) && eqDs (nums a) (nums b)) = _
    rw [eqDs_nums a b]
    simp only [eqD]
    by_cases e : x = y
    · subst e; by_cases e2 : a = b <;> simp [e2]
    · simp [e]
theorem eqD_tI (a b : List Int) : eqD (tI a) (tI b) = decide (a = b) := by simp only [eqD]; exact eqDs_nums a b
theorem reps_nums : ∀ {vs : List V} {ns : List Int}, Reps K H vs (nums ns) ↔ vs = ns.map V.int
  | vs, [] => Iff.rfl
  | vs, n :: ns => by
    constructor
    · rintro ⟨v, r, rfl, h1, h2⟩
      have h1' : v = .int n := h1
      rw [h1', reps_nums.mp h2]; rfl
    · rintro rfl
      exact ⟨.int n, ns.map V.int, rfl, rfl, reps_nums.mpr rfl⟩
end


section
variable {X : Cx} {pins : List (Addr × Obj)} {σ : St} {H : Hp} {s : Shared}
theorem notBoth (I : Inv X pins σ H s) {a : Addr} {xs ys : List V} (h : SqT X.K H a xs) (h' : SqL X.K H a ys) : False := by
  obtain ⟨its, r, ⟨o, e, c, n, d⟩, _⟩ := I.tuple h
  obtain ⟨its', r', ⟨o', n', e', c', _, d'⟩, _⟩ := I.list h'
  rw [e] at e'; cases e'
  rw [c] at c'
  have z : ("tuple" : String) = "list" := by injection c'
  exact absurd z (by decide)
mutual
theorem Rep.inj (I : Inv X pins σ H s) {v : V} {d e : D} (h : Rep X.K H v d) (h' : Rep X.K H v e) : d = e := by
  cases d with
  | non => cases (show v = .non from h); cases e <;> first | rfl | (exfalso; first | (cases (show V.non = _ from h')) | (obtain ⟨_, _, z, _⟩ := h'; cases z))
  | bl b => cases (show v = .bl b from h); cases e <;> first | (cases (show V.bl b = _ from h'); rfl) | (exfalso; first | (cases (show V.bl b = _ from h')) | (obtain ⟨_, _, z, _⟩ := h'; cases z))
  | int b => cases (show v = .int b from h); cases e <;> first | (cases (show V.int b = _ from h'); rfl) | (exfalso; first | (cases (show V.int b = _ from h')) | (obtain ⟨_, _, z, _⟩ := h'; cases z))
  | str b => cases (show v = .str b from h); cases e <;> first | (cases (show V.str b = _ from h'); rfl) | (exfalso; first | (cases (show V.str b = _ from h')) | (obtain ⟨_, _, z, _⟩ := h'; cases z))
  | tup ds =>
    obtain ⟨a, vs, rfl, q, r⟩ := h
    cases e with
    | tup es =>
      obtain ⟨b, ws, z, q', r'⟩ := h'
      cases z
      have e1 := I.tuple_inj q q'
      subst e1
      rw [Reps.inj I r r']
    | lst es =>
      obtain ⟨b, ws, z, q', r'⟩ := h'
      cases z
      exact (notBoth I q q').elim
    | non => cases (show V.ref a = _ from h')
    | bl _ => cases (show V.ref a = _ from h')
    | int _ => cases (show V.ref a = _ from h')
    | str _ => cases (show V.ref a = _ from h')
  | lst ds =>
    obtain ⟨a, vs, rfl, q, r⟩ := h
    cases e with
    | lst es =>
      obtain ⟨b, ws, z, q', r'⟩ := h'
      cases z
      have e1 := I.list_inj q q'
      subst e1
      rw [Reps.inj I r r']
    | tup es =>
      obtain ⟨b, ws, z, q', r'⟩ := h'
      cases z
      exact (notBoth I q' q).elim
    | non => cases (show V.ref a = _ from h')
    | bl _ => cases (show V.ref a = _ from h')
    | int _ => cases (show V.ref a = _ from h')
    | str _ => cases (show V.ref a = _ from h')
theorem Reps.inj (I : Inv X pins σ H s) {vs : List V} {ds es : List D} (h : Reps X.K H vs ds) (h' : Reps X.K H vs es) : ds = es := by
  cases ds with
  | nil =>
    cases (show vs = [] from h)
    cases es with
    | nil => rfl
    | cons e es => obtain ⟨_, _, z, _⟩ := h'; cases z
  | cons d ds =>
    obtain ⟨v, r, rfl, h1, h2⟩ := h
    cases es with
    | nil => cases (show v :: r = [] from h')
    | cons e es =>
      obtain ⟨v', r', z, h1', h2'⟩ := h'
      cases z
      rw [Rep.inj I h1 h1', Reps.inj I h2 h2']
end


def EqD (X : Cx) (H : Hp) (s : Shared) (d : D) : Prop := ∀ (A : Around) (x y : V) (u v : Value) (e : D), A.units + dep d < cLine → Rep X.K H x d → Rep X.K H y e → RelV x u → RelV y v → RcAt A s u v (eqD d e) ∧ EqAt A s u v (eqD d e)
theorem seq_eq (I : Inv X pins σ H s) {ds es : List D} {vs ws : List V} {us us' : List Value} {A : Around} (hu : A.units + deps ds < cLine) (r : Reps X.K H vs ds) (r' : Reps X.K H ws es) (rv : Vals vs us) (rv' : Vals ws us')
    (ih : ∀ d ∈ ds, EqD X H s d) (hdm : ∀ d ∈ ds, dep d ≤ deps ds) : ∀ j (h1 : j < us.toArray.size) (h2 : j < us'.toArray.size), EqAt A s us.toArray[j] us'.toArray[j] (match ds[j]?, es[j]? with | some x, some y => eqD x y | _, _ => true) := by
  intro j h1 h2
  have l1 := r.length
  have l2 := r'.length
  have l3 := rv.length
  have l4 := rv'.length
  have h1' : j < us.length := by simpa using h1
  have h2' : j < us'.length := by simpa using h2
  have e1 : ds[j]? = some (ds[j]'(by omega)) := by simp <;> omega
  have e2 : es[j]? = some (es[j]'(by omega)) := by simp <;> omega
  obtain ⟨v, ev, rd⟩ := r.get e1
  obtain ⟨w, ew, re⟩ := r'.get e2
  obtain ⟨u, eu, ru⟩ := rv.get ev
  obtain ⟨u', eu', ru'⟩ := rv'.get ew
  have f1 : us.toArray[j] = u := by
    have : us[j]? = some us[j] := by simp
    rw [eu] at this
    have := (Option.some.inj this).symm
    simpa using this
  have f2 : us'.toArray[j] = u' := by
    have : us'[j]? = some us'[j] := by simp
    rw [eu'] at this
    have := (Option.some.inj this).symm
    simpa using this
  rw [f1, f2, e1, e2]
  have hm : ds[j]'(by omega) ∈ ds := List.getElem_mem _
  exact (ih _ hm A v w u u' _ (by have := hdm _ hm; omega) rd re ru ru').2
theorem deps_le : ∀ {ds : List D} {d : D}, d ∈ ds → dep d ≤ deps ds
  | d0 :: ds, d, h => by
    simp only [deps]
    rcases List.mem_cons.mp h with rfl | h
    · omega
    · have := deps_le h; omega
theorem range_min {a b : List D} (h : ¬ a.length = b.length) : eqDs a b = false := by
  cases q : eqDs a b with
  | false => rfl
  | true => exact absurd (eqDs_len q) h
mutual
theorem eqD_ok (I : Inv X pins σ H s) (d : D) : EqD X H s d := by
  intro A x y u v e hu hx hy rx ry
  cases d with
  | non =>
    cases (show x = .non from hx)
    cases (show u = Value.none from rx)
    cases e with
    | non => cases (show y = .non from hy); cases (show v = Value.none from ry); exact ⟨.none_none, .same _⟩
    | bl b => cases (show y = .bl b from hy); cases (show v = Value.bool b from ry); exact ⟨.none_bool b, .none_bool b⟩
    | int i => cases (show y = .int i from hy); obtain ⟨t, rfl⟩ := ry; exact ⟨.none_int i t, .none_int i t⟩
    | str z => cases (show y = .str z from hy); obtain ⟨t, rfl⟩ := ry; exact ⟨.none_str z t, .none_str z t⟩
    | tup es => obtain ⟨a, vs, rfl, q, r⟩ := hy; cases ry; obtain ⟨its, _, p, _⟩ := I.tuple q; exact ⟨.none_tuple p (by omega), .none_tuple p (by omega)⟩
    | lst es => obtain ⟨a, vs, rfl, q, r⟩ := hy; cases ry; obtain ⟨its, _, p, _⟩ := I.list q; exact ⟨.none_list p.isList (by omega), .none_list p.isList (by omega)⟩
  | bl c =>
    cases (show x = .bl c from hx)
    cases (show u = Value.bool c from rx)
    cases e with
    | non => cases (show y = .non from hy); cases (show v = Value.none from ry); exact ⟨.bool_none c, .bool_none c⟩
    | bl b => cases (show y = .bl b from hy); cases (show v = Value.bool b from ry); exact ⟨.bool_bool c b, .bool_bool c b⟩
    | int i => cases (show y = .int i from hy); obtain ⟨t, rfl⟩ := ry; exact ⟨.bool_int c i t, .bool_int c i t⟩
    | str z => cases (show y = .str z from hy); obtain ⟨t, rfl⟩ := ry; exact ⟨.bool_str c z t, .bool_str c z t⟩
    | tup es => obtain ⟨a, vs, rfl, q, r⟩ := hy; cases ry; obtain ⟨its, _, p, _⟩ := I.tuple q; exact ⟨.bool_tuple c p (by omega), .bool_tuple c p (by omega)⟩
    | lst es => obtain ⟨a, vs, rfl, q, r⟩ := hy; cases ry; obtain ⟨its, _, p, _⟩ := I.list q; exact ⟨.bool_list c p.isList (by omega), .bool_list c p.isList (by omega)⟩
  | int c =>
    cases (show x = .int c from hx)
    obtain ⟨t, rfl⟩ := rx
    cases e with
    | non => cases (show y = .non from hy); cases (show v = Value.none from ry); exact ⟨.int_none c t, .int_none c t⟩
    | bl b => cases (show y = .bl b from hy); cases (show v = Value.bool b from ry); exact ⟨.int_bool c t b, .int_bool c t b⟩
    | int i => cases (show y = .int i from hy); obtain ⟨t', rfl⟩ := ry; exact ⟨.int_int c t i t', .int_int c t i t'⟩
    | str z => cases (show y = .str z from hy); obtain ⟨t', rfl⟩ := ry; exact ⟨.int_str c t z t', .int_str c t z t'⟩
    | tup es => obtain ⟨a, vs, rfl, q, r⟩ := hy; cases ry; obtain ⟨its, _, p, _⟩ := I.tuple q; exact ⟨.int_tuple c t p (by omega), .int_tuple c t p (by omega)⟩
    | lst es => obtain ⟨a, vs, rfl, q, r⟩ := hy; cases ry; obtain ⟨its, _, p, _⟩ := I.list q; exact ⟨.int_list c t p.isList (by omega), .int_list c t p.isList (by omega)⟩
  | str c =>
    cases (show x = .str c from hx)
    obtain ⟨t, rfl⟩ := rx
    cases e with
    | non => cases (show y = .non from hy); cases (show v = Value.none from ry); exact ⟨.str_none c t, .str_none c t⟩
    | bl b => cases (show y = .bl b from hy); cases (show v = Value.bool b from ry); exact ⟨.str_bool c t b, .str_bool c t b⟩
    | int i => cases (show y = .int i from hy); obtain ⟨t', rfl⟩ := ry; exact ⟨.str_int c t i t', .str_int c t i t'⟩
    | str z => cases (show y = .str z from hy); obtain ⟨t', rfl⟩ := ry; exact ⟨.str_str c t z t', .str_str c t z t'⟩
    | tup es => obtain ⟨a, vs, rfl, q, r⟩ := hy; cases ry; obtain ⟨its, _, p, _⟩ := I.tuple q; exact ⟨.str_tuple c t p (by omega), .str_tuple c t p (by omega)⟩
    | lst es => obtain ⟨a, vs, rfl, q, r⟩ := hy; cases ry; obtain ⟨its, _, p, _⟩ := I.list q; exact ⟨.str_list c t p.isList (by omega), .str_list c t p.isList (by omega)⟩
  | tup ds =>
    have hx' := hx
    obtain ⟨a, vs, rfl, q, r⟩ := hx
    cases rx
    obtain ⟨its, rv, p, _⟩ := I.tuple q
    have hu' : A.units + 1 + deps ds < cLine := by simp only [dep] at hu; omega
    cases e with
    | non => cases (show y = .non from hy); cases (show v = Value.none from ry); exact ⟨.tuple_none p (by omega), .tuple_none p (by omega)⟩
    | bl b => cases (show y = .bl b from hy); cases (show v = Value.bool b from ry); exact ⟨.tuple_bool b p (by omega), .tuple_bool b p (by omega)⟩
    | int i => cases (show y = .int i from hy); obtain ⟨t', rfl⟩ := ry; exact ⟨.tuple_int i t' p (by omega), .tuple_int i t' p (by omega)⟩
    | str z => cases (show y = .str z from hy); obtain ⟨t', rfl⟩ := ry; exact ⟨.tuple_str z t' p (by omega), .tuple_str z t' p (by omega)⟩
    | lst es => obtain ⟨b, ws, rfl, q', r'⟩ := hy; cases ry; obtain ⟨its', _, p', _⟩ := I.list q'; exact ⟨.tuple_list p p'.isList (by omega), .tuple_list p p'.isList (by omega)⟩
    | tup es =>
      have hy' := hy
      obtain ⟨b, ws, rfl, q', r'⟩ := hy
      cases ry
      obtain ⟨its', rv', p', _⟩ := I.tuple q'
      have main : RcAt A s (.ref a) (.ref b) (eqD (.tup ds) (.tup es)) := by
        have := RcAt.tuples (A := A) p p' (by omega) (seq_eq I (A := A.in1) (by show A.units + 1 + deps ds < cLine; omega) r r' rv rv' (eqDs_ok I ds) fun d h => deps_le h)
        have l1 := r.length
        have l2 := r'.length
        have l3 := rv.length
        have l4 := rv'.length
        have e1 : its.toArray.size = ds.length := by simp <;> omega
        have e2 : its'.toArray.size = es.length := by simp <;> omega
        rw [e1, e2] at this
        simp only [eqD]
        by_cases hl : ds.length = es.length
        · rw [eqDs_all ds es hl]
          rw [← hl, Nat.min_self] at this
          simpa using this
        · rw [range_min hl]
          have z : (ds.length == es.length) = false := by simpa using hl
          rw [z, Bool.and_false] at this
          exact this
      refine ⟨main, ?_⟩
      by_cases hab : a = b
      · subst hab
        have e3 : D.tup ds = D.tup es := Rep.inj I hx' hy'
        rw [e3, eqD_refl]
        exact .same _
      · exact .of_refs hab main
  | lst ds =>
    have hx' := hx
    obtain ⟨a, vs, rfl, q, r⟩ := hx
    cases rx
    obtain ⟨its, rv, p, _⟩ := I.list q
    have hu' : A.units + 1 + deps ds < cLine := by simp only [dep] at hu; omega
    cases e with
    | non => cases (show y = .non from hy); cases (show v = Value.none from ry); exact ⟨.list_none p.isList (by omega), .list_none p.isList (by omega)⟩
    | bl b => cases (show y = .bl b from hy); cases (show v = Value.bool b from ry); exact ⟨.list_bool b p.isList (by omega), .list_bool b p.isList (by omega)⟩
    | int i => cases (show y = .int i from hy); obtain ⟨t', rfl⟩ := ry; exact ⟨.list_int i t' p.isList (by omega), .list_int i t' p.isList (by omega)⟩
    | str z => cases (show y = .str z from hy); obtain ⟨t', rfl⟩ := ry; exact ⟨.list_str z t' p.isList (by omega), .list_str z t' p.isList (by omega)⟩
    | tup es => obtain ⟨b, ws, rfl, q', r'⟩ := hy; cases ry; obtain ⟨its', _, p', _⟩ := I.tuple q'; exact ⟨.list_tuple p.isList p' (by omega), .list_tuple p.isList p' (by omega)⟩
    | lst es =>
      have hy' := hy
      obtain ⟨b, ws, rfl, q', r'⟩ := hy
      cases ry
      obtain ⟨its', rv', p', _⟩ := I.list q'
      have main : RcAt A s (.ref a) (.ref b) (eqD (.lst ds) (.lst es)) := by
        have l1 := r.length
        have l2 := r'.length
        have l3 := rv.length
        have l4 := rv'.length
        have e1 : its.toArray.size = ds.length := by simp <;> omega
        have e2 : its'.toArray.size = es.length := by simp <;> omega
        simp only [eqD]
        by_cases hl : ds.length = es.length
        · have := RcAt.lists (A := A) p.isList p'.isList (by omega) (by omega) (seq_eq I (A := A.in1) (by show A.units + 1 + deps ds < cLine; omega) r r' rv rv' (eqDs_ok I ds) fun d h => deps_le h)
          rw [e1] at this
          rw [eqDs_all ds es hl]
          exact this
        · rw [range_min hl]
          exact RcAt.lists_lengths p.isList p'.isList (by simpa [e1, e2] using hl) (by omega)
      refine ⟨main, ?_⟩
      by_cases hab : a = b
      · subst hab
        have e3 : D.lst ds = D.lst es := Rep.inj I hx' hy'
        rw [e3, eqD_refl]
        exact .same _
      · exact .of_refs hab main
theorem eqDs_ok (I : Inv X pins σ H s) (ds : List D) : ∀ d ∈ ds, EqD X H s d := by
  cases ds with
  | nil => exact fun _ h => nomatch h
  | cons d0 r =>
    intro d h
    rcases List.mem_cons.mp h with e | h
    · exact e ▸ eqD_ok I d0
    · exact eqDs_ok I r d h
end

def rEqD (K : PySem.W.Frag) (n : Nat) : R2 := fun x y H Q => ∃ d e, Rep K H x d ∧ Rep K H y e ∧ dep d ≤ n ∧ Q (.bl (eqD d e)) H
theorem op_eqD {n : Nat} (hu : X.A.units + n < cLine) : OpR X (compareOp .Eq) (rEqD X.K n) := by
  intro pins s σ H x y v u Q I rx ry h
  obtain ⟨d, e, hd, he, hn, q⟩ := h
  exact (eqD_ok I d X.A x y v u e (by omega) hd he rx ry).1 X.prog X.w X.xe _ ⟨.bl (eqD d e), H, I, rfl, q⟩
end
end L2

set_option Elab.async false
set_option linter.all false
set_option maxRecDepth 100000
set_option maxHeartbeats 4000000
namespace L2
open PySem PySem.Spec PyProof.Rows PySem.SeqAt

section
variable {X : Cx}



noncomputable def eqF (X : Cx) (H : Hp) (d : D) (u : Value) : Bool := @decide (∃ v e, RelV v u ∧ Rep X.K H v e ∧ eqD e d = true) (Classical.propDecidable _)
theorem eqF_of {pins : List (Addr × Obj)} {σ : St} {H : Hp} {s : Shared} (I : Inv X pins σ H s) {d e : D} {v : V} {u : Value} (r : RelV v u) (h : Rep X.K H v e) : eqF X H d u = eqD e d := by
  cases q : eqD e d with
  | true => exact @decide_eq_true _ (Classical.propDecidable _) ⟨v, e, r, h, q⟩
  | false =>
    refine @decide_eq_false _ (Classical.propDecidable _) ?_
    rintro ⟨v', e', r', h', q'⟩
    have := r.inj r'
    subst this
    rw [Rep.inj I h h'] at q
    rw [q] at q'
    cases q'
theorem eqF_at {pins : List (Addr × Obj)} {σ : St} {H : Hp} {s : Shared} (I : Inv X pins σ H s) {A : Around} {x : V} {v : Value} {d : D} {vs : List V} {us : List Value} {ds : List D} (hu : A.units + deps ds < cLine) (hx : Rep X.K H x d) (rx : RelV x v)
    (r : Reps X.K H vs ds) (rv : Vals vs us) : ∀ y, y ∈ us.toArray → EqAt A s y v (eqF X H d y) := by
  intro y hy
  have hy' : y ∈ us := by simpa using hy
  obtain ⟨i, hi⟩ := List.getElem?_of_mem hy'
  have hlt : i < us.length := (List.getElem?_eq_some_iff.mp hi).1
  have l1 := rv.length
  obtain ⟨w, hw⟩ : ∃ w, vs[i]? = some w := ⟨vs[i]'(by omega), by simp <;> omega⟩
  obtain ⟨u, hu2, ru⟩ := rv.get hw
  rw [hi] at hu2
  cases hu2
  obtain ⟨e, he, re⟩ := r.getV hw
  rw [eqF_of I ru re]
  have hm : e ∈ ds := List.mem_of_getElem? he
  exact (eqD_ok I e A w x y v d (by have := deps_le hm; omega) re hx ru rx).2
theorem any_eqF {pins : List (Addr × Obj)} {σ : St} {H : Hp} {s : Shared} (I : Inv X pins σ H s) {d : D} : ∀ {vs : List V} {us : List Value} {ds : List D}, Reps X.K H vs ds → Vals vs us → us.any (eqF X H d) = ds.any fun e => eqD e d
  | vs, us, [], r, rv => by
    cases (show vs = [] from r)
    cases rv
    rfl
  | vs, us, e :: ds, r, rv => by
    obtain ⟨v, q, rfl, h1, h2⟩ := r
    cases rv with
    | cons r1 r2 => rw [List.any_cons, List.any_cons, eqF_of I r1 h1, any_eqF I h2 r2]

def SeqD (K : PySem.W.Frag) (H : Hp) (y : V) (ds : List D) : Prop := Rep K H y (.lst ds) ∨ Rep K H y (.tup ds)
def rInD (K : PySem.W.Frag) (n : Nat) (neg : Bool) : R2 := fun x y H Q => ∃ d ds, Rep K H x d ∧ SeqD K H y ds ∧ deps ds + 1 ≤ n ∧ Q (.bl (if neg then !(ds.any fun e => eqD e d) else ds.any fun e => eqD e d)) H
theorem op_notInD {n : Nat} (hu : X.A.units + n < cLine) : OpR X (compareOp .NotIn) (rInD X.K n true) := by
  intro pins s σ H x y v u Q I rx ry h
  obtain ⟨d, ds, hx, hs, hn, q⟩ := h
  have fin : ∀ {us : List Value} {vs : List V}, Reps X.K H vs ds → Vals vs us → EP X pins σ Q (.bool (!us.toArray.any (eqF X H d))) s := fun r rv =>
    ⟨.bl (!(ds.any fun e => eqD e d)), H, I, by show Value.bool _ = Value.bool _; rw [List.any_toArray, any_eqF I r rv], q⟩
  rcases hs with ⟨a, vs, rfl, hq, r⟩ | ⟨a, vs, rfl, hq, r⟩
  · cases ry
    obtain ⟨its, rv, p, _⟩ := I.list hq
    exact notIn_listAt (eqF X H d) p.isList (eqF_at I (A := X.A.in1) (by show X.A.units + 1 + deps ds < cLine; omega) hx rx r rv) (fin r rv)
  · cases ry
    obtain ⟨its, rv, p, _⟩ := I.tuple hq
    exact notIn_tupleAt (eqF X H d) p (eqF_at I (A := X.A.in1) (by show X.A.units + 1 + deps ds < cLine; omega) hx rx r rv) (fin r rv)

def rIndex (K : PySem.W.Frag) (n : Nat) : V → List V → Hp → VK → Prop := fun x vs H Q => ∃ ds y d j, vs = [y] ∧ Rep K H x (.lst ds) ∧ Rep K H y d ∧ deps ds + 1 ≤ n ∧ ds.findIdx? (fun e => eqD e d) = some j ∧ Q (.int (j : Nat)) H
theorem mt_index {n : Nat} (hu : X.A.units + n < cLine) : MtR X "list.index" (rIndex X.K n) := by
  intro pins s σ H x vs v us Q I rx rv h
  obtain ⟨ds, y, d, j, rfl, ⟨a, ws, rfl, hq, r⟩, hy, hn, hj, q⟩ := h
  cases rx
  obtain ⟨u, rfl, ru⟩ := rv.one
  obtain ⟨its, rw', p, hz⟩ := I.list hq
  have l1 := r.length
  have l2 := rw'.length
  obtain ⟨hlt, hit, hno⟩ := List.findIdx?_eq_some_iff_getElem.mp hj
  have at' : ∀ m (hm : m < its.toArray.size) (hm' : m < ds.length), eqF X H d its.toArray[m] = eqD ds[m] d := fun m hm hm' => by
    obtain ⟨w, hw, re⟩ := r.get (i := m) (d := ds[m]) (by simp)
    obtain ⟨u', hu', ru'⟩ := rw'.get hw
    have e1 : its.toArray[m] = u' := by
      have hm2 : m < its.length := by simpa using hm
      have : its[m]? = some its[m] := by simp
      rw [hu'] at this
      have := (Option.some.inj this).symm
      simpa using this
    rw [e1]
    exact eqF_of I ru' re
  obtain ⟨o, k, ho, hc, hdn, hd⟩ := id p
  obtain ⟨cls, dd, data, sl⟩ := o
  simp only at hc hdn hd
  subst hc hdn hd
  have hsz : ds.length ≤ sizeLine := by omega
  have big : (sizeLine : Nat) < 2 ^ 62 := by rw [sizeLine_eq]; decide
  refine call_meets PySem.F.slot_list_index ⟨_, ho, rfl⟩ PySem.F.entry_list_index (PySem.F.args_list_index_2 _ _)
    (list_indexAt a its.toArray k none sl u (eqF X H d) j (by simp <;> omega) (by omega) ?_ ?_) ⟨ho, eqF_at I (A := X.A.in1) (by show X.A.units + 1 + deps ds < cLine; omega) hy ru r rw', ?_⟩
  · rw [at' j (by simp <;> omega) hlt]; exact hit
  · intro m hm hmj
    rw [at' m hm (by omega)]
    have := hno m hmj
    simpa using this
  · exact ⟨.int (j : Nat), H, I.tok _, ⟨_, rfl⟩, q⟩


def NeD (X : Cx) (H : Hp) : Prop := True
def rNeD (K : PySem.W.Frag) (n : Nat) : R2 := fun x y H Q => ∃ d e, Rep K H x d ∧ Rep K H y e ∧ dep d ≤ n ∧ Q (.bl (!eqD d e)) H
theorem op_neD {n : Nat} (hu : X.A.units + n < cLine) : OpR X (compareOp .NotEq) (rNeD X.K n) := by
  intro pins s σ H x y v u Q I rx ry h
  obtain ⟨d, e, hd, he, hn, q⟩ := h
  have fin : EP X pins σ Q (.bool (!eqD d e)) s := ⟨.bl (!eqD d e), H, I, rfl, q⟩
  have go : ∀ {k : Bool}, RcNeAt X.A s v u k → k = (!eqD d e) → wpAny (model X.prog X.w) X.A (compareOp .NotEq v u) (EP X pins σ Q) X.xe s := fun h1 h2 => by
    subst h2
    exact h1 X.prog X.w X.xe _ fin
  cases d with
  | non =>
    cases (show x = .non from hd)
    cases (show v = Value.none from rx)
    cases e with
    | non => cases (show y = .non from he); cases (show u = Value.none from ry); exact go .none_none rfl
    | bl b => cases (show y = .bl b from he); cases (show u = Value.bool b from ry); exact go (.none_bool b) rfl
    | int i => cases (show y = .int i from he); obtain ⟨t, rfl⟩ := ry; exact go (.none_int i t) rfl
    | str z => cases (show y = .str z from he); obtain ⟨t, rfl⟩ := ry; exact go (.none_str z t) rfl
    | tup es => obtain ⟨a, vs, rfl, q, r⟩ := he; cases ry; obtain ⟨its, _, p, _⟩ := I.tuple q; exact go (.none_tuple p (by omega)) rfl
    | lst es => obtain ⟨a, vs, rfl, q, r⟩ := he; cases ry; obtain ⟨its, _, p, _⟩ := I.list q; exact go (.none_list p.isList (by omega)) rfl
  | bl c =>
    cases (show x = .bl c from hd)
    cases (show v = Value.bool c from rx)
    cases e with
    | non => cases (show y = .non from he); cases (show u = Value.none from ry); exact go (.bool_none c) rfl
    | bl b => cases (show y = .bl b from he); cases (show u = Value.bool b from ry); exact go (.bool_bool c b) rfl
    | int i => cases (show y = .int i from he); obtain ⟨t, rfl⟩ := ry; exact go (.bool_int c i t) rfl
    | str z => cases (show y = .str z from he); obtain ⟨t, rfl⟩ := ry; exact go (.bool_str c z t) rfl
    | tup es => obtain ⟨a, vs, rfl, q, r⟩ := he; cases ry; obtain ⟨its, _, p, _⟩ := I.tuple q; exact go (.bool_tuple c p (by omega)) rfl
    | lst es => obtain ⟨a, vs, rfl, q, r⟩ := he; cases ry; obtain ⟨its, _, p, _⟩ := I.list q; exact go (.bool_list c p.isList (by omega)) rfl
  | int c =>
    cases (show x = .int c from hd)
    obtain ⟨t, rfl⟩ := rx
    cases e with
    | non => cases (show y = .non from he); cases (show u = Value.none from ry); exact go (.int_none c t) rfl
    | bl b => cases (show y = .bl b from he); cases (show u = Value.bool b from ry); exact go (.int_bool c t b) rfl
    | int i => cases (show y = .int i from he); obtain ⟨t', rfl⟩ := ry; exact go (.int_int c t i t') rfl
    | str z => cases (show y = .str z from he); obtain ⟨t', rfl⟩ := ry; exact go (.int_str c t z t') rfl
    | tup es => obtain ⟨a, vs, rfl, q, r⟩ := he; cases ry; obtain ⟨its, _, p, _⟩ := I.tuple q; exact go (.int_tuple c t p (by omega)) rfl
    | lst es => obtain ⟨a, vs, rfl, q, r⟩ := he; cases ry; obtain ⟨its, _, p, _⟩ := I.list q; exact go (.int_list c t p.isList (by omega)) rfl
  | str c =>
    cases (show x = .str c from hd)
    obtain ⟨t, rfl⟩ := rx
    cases e with
    | non => cases (show y = .non from he); cases (show u = Value.none from ry); exact go (.str_none c t) rfl
    | bl b => cases (show y = .bl b from he); cases (show u = Value.bool b from ry); exact go (.str_bool c t b) rfl
    | int i => cases (show y = .int i from he); obtain ⟨t', rfl⟩ := ry; exact go (.str_int c t i t') rfl
    | str z => cases (show y = .str z from he); obtain ⟨t', rfl⟩ := ry; exact go (.str_str c t z t') rfl
    | tup es => obtain ⟨a, vs, rfl, q, r⟩ := he; cases ry; obtain ⟨its, _, p, _⟩ := I.tuple q; exact go (.str_tuple c t p (by omega)) rfl
    | lst es => obtain ⟨a, vs, rfl, q, r⟩ := he; cases ry; obtain ⟨its, _, p, _⟩ := I.list q; exact go (.str_list c t p.isList (by omega)) rfl
  | tup ds =>
    obtain ⟨a, vs, rfl, q1, r⟩ := hd
    cases rx
    obtain ⟨its, rv, p, _⟩ := I.tuple q1
    have hu' : X.A.units + 1 + deps ds < cLine := by simp only [dep] at hn; omega
    cases e with
    | non => cases (show y = .non from he); cases (show u = Value.none from ry); exact go (.tuple_none p (by omega)) rfl
    | bl b => cases (show y = .bl b from he); cases (show u = Value.bool b from ry); exact go (.tuple_bool b p (by omega)) rfl
    | int i => cases (show y = .int i from he); obtain ⟨t', rfl⟩ := ry; exact go (.tuple_int i t' p (by omega)) rfl
    | str z => cases (show y = .str z from he); obtain ⟨t', rfl⟩ := ry; exact go (.tuple_str z t' p (by omega)) rfl
    | lst es => obtain ⟨b, ws, rfl, q', r'⟩ := he; cases ry; obtain ⟨its', _, p', _⟩ := I.list q'; exact go (.tuple_list p p'.isList (by omega)) rfl
    | tup es =>
      obtain ⟨b, ws, rfl, q', r'⟩ := he
      cases ry
      obtain ⟨its', rv', p', _⟩ := I.tuple q'
      refine go (RcNeAt.tuples p p' (by omega) (seq_eq I (A := X.A.in1) (by show X.A.units + 1 + deps ds < cLine; omega) r r' rv rv' (eqDs_ok I ds) fun d h => deps_le h)) ?_
      have l1 := r.length
      have l2 := r'.length
      have l3 := rv.length
      have l4 := rv'.length
      have e1 : its.toArray.size = ds.length := by simp <;> omega
      have e2 : its'.toArray.size = es.length := by simp <;> omega
      rw [e1, e2]
      simp only [eqD]
      by_cases hl : ds.length = es.length
      · rw [eqDs_all ds es hl, ← hl, Nat.min_self]
        simp
      · rw [range_min hl]
        have z : (ds.length == es.length) = false := by simpa using hl
        rw [z, Bool.and_false]
  | lst ds =>
    obtain ⟨a, vs, rfl, q1, r⟩ := hd
    cases rx
    obtain ⟨its, rv, p, _⟩ := I.list q1
    have hu' : X.A.units + 1 + deps ds < cLine := by simp only [dep] at hn; omega
    cases e with
    | non => cases (show y = .non from he); cases (show u = Value.none from ry); exact go (.list_none p.isList (by omega)) rfl
    | bl b => cases (show y = .bl b from he); cases (show u = Value.bool b from ry); exact go (.list_bool b p.isList (by omega)) rfl
    | int i => cases (show y = .int i from he); obtain ⟨t', rfl⟩ := ry; exact go (.list_int i t' p.isList (by omega)) rfl
    | str z => cases (show y = .str z from he); obtain ⟨t', rfl⟩ := ry; exact go (.list_str z t' p.isList (by omega)) rfl
    | tup es => obtain ⟨b, ws, rfl, q', r'⟩ := he; cases ry; obtain ⟨its', _, p', _⟩ := I.tuple q'; exact go (.list_tuple p.isList p' (by omega)) rfl
    | lst es =>
      obtain ⟨b, ws, rfl, q', r'⟩ := he
      cases ry
      obtain ⟨its', rv', p', _⟩ := I.list q'
      have l1 := r.length
      have l2 := r'.length
      have l3 := rv.length
      have l4 := rv'.length
      have e1 : its.toArray.size = ds.length := by simp <;> omega
      have e2 : its'.toArray.size = es.length := by simp <;> omega
      by_cases hl : ds.length = es.length
      · refine go (RcNeAt.lists p.isList p'.isList (by omega) (by omega) (seq_eq I (A := X.A.in1) (by show X.A.units + 1 + deps ds < cLine; omega) r r' rv rv' (eqDs_ok I ds) fun d h => deps_le h)) ?_
        rw [e1]
        simp only [eqD]
        rw [eqDs_all ds es hl]
      · refine go (RcNeAt.lists_lengths p.isList p'.isList (by simpa [e1, e2] using hl) (by omega)) ?_
        simp only [eqD]
        rw [range_min hl]
        rfl


def isD (n : String) : D → Bool
  | .non => false
  | .bl _ => n == "int" || n == "bool"
  | .int _ => n == "int"
  | .str _ => n == "str"
  | .tup _ => n == "tuple"
  | .lst _ => n == "list"
def tyD : D → String
  | .non => "NoneType"
  | .bl _ => "bool"
  | .int _ => "int"
  | .str _ => "str"
  | .tup _ => "tuple"
  | .lst _ => "list"
theorem kit_ok {K : PySem.W.Frag} {n : String} {d : D} (hn : n = "int" ∨ n = "bool" ∨ n = "str" ∨ n = "tuple" ∨ n = "list" ∨ n = "dict") : PySem.W.kitOne K (.type (tyD d)) (.type n) = some (isD n d) := by
  rcases hn with rfl | rfl | rfl | rfl | rfl | rfl <;> cases d <;> (unfold PySem.W.kitOne PySem.W.kitCls PySem.W.subIn tyD isD; first | rfl | decide +kernel)
theorem call_isinst : CallR X (.builtin "isinstance") (fun xs H Q => ∃ x n d, xs = [x, .ty n] ∧ (n = "int" ∨ n = "bool" ∨ n = "str" ∨ n = "tuple" ∨ n = "list" ∨ n = "dict") ∧ Rep X.K H x d ∧ Q (.bl (isD n d)) H) := by
  intro pins s σ H xs us Q I r h
  obtain ⟨x, n, d, rfl, hn, hx, q⟩ := h
  obtain ⟨u, v, rfl, rx, rt⟩ := vals2 r
  cases rt
  have k := kit_ok (K := X.K) (d := d) hn
  have fin : ∀ tk, EP X pins σ Q (.bool (isD n d)) { s with toks := tk } := fun tk => ⟨.bl (isD n d), H, I.tok tk, rfl, q⟩
  cases d with
  | non => cases (show x = .non from hx); cases (show u = Value.none from rx); exact PySem.W.kia_one PySem.W.kitx_none I.kIn True.intro k (fun z => nomatch z) fin
  | bl b => cases (show x = .bl b from hx); cases (show u = Value.bool b from rx); exact PySem.W.kia_one PySem.W.kitx_bool I.kIn True.intro k (fun z => nomatch z) fin
  | int b => cases (show x = .int b from hx); obtain ⟨t, rfl⟩ := rx; exact PySem.W.kia_one PySem.W.kitx_int I.kIn True.intro k (fun z => nomatch z) fin
  | str b => cases (show x = .str b from hx); obtain ⟨t, rfl⟩ := rx; exact PySem.W.kia_one PySem.W.kitx_str I.kIn True.intro k (fun z => nomatch z) fin
  | tup ds =>
    obtain ⟨a, vs, rfl, hq, _⟩ := hx
    cases rx
    obtain ⟨its, _, ⟨o, e, c, _⟩, _⟩ := I.tuple hq
    exact PySem.W.kia_one PySem.W.kitx_tuple I.kIn ⟨o, e, c⟩ k (fun z => nomatch z) fin
  | lst ds =>
    obtain ⟨a, vs, rfl, hq, _⟩ := hx
    cases rx
    obtain ⟨its, _, ⟨o, _, e, c, _⟩, _⟩ := I.list hq
    exact PySem.W.kia_one PySem.W.kitx_list I.kIn ⟨o, e, c⟩ k (fun z => nomatch z) fin


def rCatW (K : PySem.W.Frag) : R2 := fun x y H Q => ∃ a b xs ys, x = .ref a ∧ y = .ref b ∧ SqT K H a xs ∧ SqT K H b ys ∧ xs.length + ys.length ≤ sizeLine ∧ ∀ p H', Same H H' → SqT K H' p (xs ++ ys) → Q (.ref p) H'
theorem op_catW : OpR X (binaryOp .Add) (rCatW X.K) := by
  intro pins s σ H x y v u Q I rx ry h
  obtain ⟨a, b, xs, ys, rfl, rfl, ha, hb, hz, q⟩ := h
  by_cases hx : xs = []
  · subst hx
    cases rx
    cases ry
    obtain ⟨its, r1, p1, _⟩ := I.tuple ha
    obtain ⟨its2, r2, p2, _⟩ := I.tuple hb
    cases r1
    obtain ⟨⟨cls, dd, data, sl⟩, ho, hc, n, hd⟩ := id p1
    obtain ⟨⟨cls2, dd2, data2, sl2⟩, ho2, hc2, n2, hd2⟩ := id p2
    simp only at hc hd hc2 hd2
    subst hc hd hc2 hd2
    exact concat_meets ⟨_, ho, rfl⟩ ⟨_, ho2, rfl⟩ noFill_tuple_add seq_tuple_add PySem.F.slot_tuple_add PySem.F.entry_tuple_add (PySem.F.args_tuple_add_2 _ _)
      (tuple_addW0 a b _ _ n n2 dd dd2 sl sl2 (by simp)) ⟨ho, ho2, ⟨.ref b, H, I, rfl, q b H (Same.refl H) (by simpa using hb)⟩⟩
  · refine op_catT pins s σ H (.ref a) (.ref b) v u Q I rx ry ⟨a, b, xs, ys, rfl, rfl, ha, hb, hx, hz, fun e => ?_, fun e p hp => ?_⟩
    · subst e; exact q a H (Same.refl H) (by simpa using ha)
    · exact q p _ (Same.new hp) (.of upd_same)
def rSlTW (K : PySem.W.Frag) : V → Option Int → Option Int → Hp → VK → Prop := fun x lo hi H Q => ∃ a xs, x = .ref a ∧ SqT K H a xs ∧
  ¬ (HT.sIx xs.length 0 lo = 0 ∧ HT.sIx xs.length xs.length hi = xs.length) ∧ ∀ p H', Same H H' → SqT K H' p (cutV xs lo hi) → Q (.ref p) H'
theorem sl_tupW : SlR X (rSlTW X.K) := by
  intro pins s σ H x v vl vu lo hi sl Q I rx hs pl pu h
  obtain ⟨a, xs, rfl, hx, hw, q⟩ := h
  exact sl_tup pins s σ H (.ref a) v vl vu lo hi sl Q I rx hs pl pu ⟨a, xs, rfl, hx, hw, fun p hp => q p _ (Same.new hp) (.of upd_same)⟩

def rCatLW (K : PySem.W.Frag) : R2 := fun x y H Q => ∃ l b xs zs, x = .ref l ∧ y = .ref b ∧ SqL K H l xs ∧ SqL K H b zs ∧ xs.length + zs.length ≤ sizeLine ∧ ∀ p, H p = none → Q (.ref p) (upd H p (.lst (xs ++ zs)))
theorem op_catLW : OpR X (binaryOp .Add) (rCatLW X.K) := by
  intro pins s σ H x y v u Q I rx ry h
  obtain ⟨l, b, xs, zs, rfl, rfl, hl, hb, hz, q⟩ := h
  cases rx
  cases ry
  obtain ⟨its, r1, p1, _⟩ := I.list hl
  obtain ⟨its2, r2, p2, _⟩ := I.list hb
  obtain ⟨⟨cls, dd, data, sl⟩, n, ho, hc, hdd, hd⟩ := id p1
  obtain ⟨⟨cls2, dd2, data2, sl2⟩, n2, ho2, hc2, hdd2, hd2⟩ := id p2
  simp only at hc hd hc2 hd2
  subst hc hd hc2 hd2
  refine concat_meets ⟨_, ho, rfl⟩ ⟨_, ho2, rfl⟩ noFill_list_add seq_list_add PySem.F.slot_list_add PySem.F.entry_list_add (PySem.F.args_list_add_2 _ _)
    (list_addW l b its.toArray its2.toArray n n2 dd dd2 sl sl2 (by rw [List.size_toArray, List.size_toArray, ← r1.length, ← r2.length]; exact hz)) ⟨ho, ho2, ?_⟩
  rw [show its.toArray ++ its2.toArray = (its ++ its2).toArray by simp]
  exact ⟨.ref s.heap.objs.size, _, I.lnew (t' := s.toks) (r1.append r2) (by rw [List.length_append]; exact hz), rfl, q _ I.fresh⟩


theorem call_allB (hc : X.calm = true) : CallR X (.builtin "all") (fun xs H Q => ∃ (p : Addr) (bs : List Bool), xs = [.ref p] ∧ SqL X.K H p (bs.map V.bl) ∧ Q (.bl (bs.all id)) H) := by
  intro pins s σ H xs us Q I r h
  obtain ⟨p, bs, rfl, hq, q⟩ := h
  obtain ⟨u, rfl, ru⟩ := vals1 r
  cases ru
  obtain ⟨its, rv, pl, hz⟩ := I.list hq
  have hh : X.A.handled = none := I.ok.hd hc
  have rel : ∀ (i : Nat) (v : Value), its.toArray[i]? = some v → ∃ b, bs[i]? = some b ∧ v = .bool b := fun i v e => by
    have e' : its[i]? = some v := by simpa using e
    have hlt : i < its.length := (List.getElem?_eq_some_iff.mp e').1
    have l1 := rv.length
    rw [List.length_map] at l1
    have hb : bs[i]? = some (bs[i]'(by omega)) := by simp <;> omega
    obtain ⟨u, hu, ru⟩ := rv.get (i := i) (x := V.bl (bs[i]'(by omega))) (by rw [List.getElem?_map, hb]; rfl)
    rw [e'] at hu
    cases hu
    exact ⟨_, hb, ru⟩
  refine call_all_walk (wpAny_pyIter_list pl.isList ?_)
  refine ⟨s.heap.objs.size, [s.heap.objs.size, p], [s.heap.objs.size], its.toArray.size, _, _, fun i => (bs[i]?).getD true, rfl, Walks.list (show X.A.in1.handled = none from hh) s.heap.objs.size p ?_ its.toArray, ⟨⟨_, Heap.get?_push_size _ rfl, rfl, rfl⟩, ?_⟩, ?_, fun h' tk k => ?_⟩
  · obtain ⟨o, _, ho, _⟩ := pl
    exact Nat.ne_of_lt (Heap.lt_size ho)
  · exact pl.isList.at fun o e => Heap.get?_push_of_some _ e
  · intro i v s' Q' E' hv hQ
    obtain ⟨b, hb, rfl⟩ := rel i v hv
    dsimp only at hQ
    rw [hb] at hQ
    exact wpAny_truthy_bool hQ
  · have e : (List.range its.toArray.size).all (fun i => (bs[i]?).getD true) = bs.all id := by
      have l1 := rv.length
      rw [List.length_map] at l1
      rw [List.size_toArray, ← l1]
      rw [Bool.eq_iff_iff, List.all_eq_true, List.all_eq_true]
      constructor
      · intro hx b hb
        obtain ⟨i, hi⟩ := List.getElem?_of_mem hb
        have := hx i (List.mem_range.mpr (List.getElem?_eq_some_iff.mp hi).1)
        rw [hi] at this
        exact this
      · intro hx i hi
        have hlt := List.mem_range.mp hi
        have hb : bs[i]? = some bs[i] := by simp
        rw [hb]
        exact hx _ (List.getElem_mem _)
    rw [e]
    have I1 : Inv X pins σ H { s with heap := h', toks := tk } := I.kept (fun b o e => k b o (by simp; exact Nat.ne_of_lt (Heap.lt_size e)) (Heap.get?_push_of_some _ e))
    exact ⟨.bl (bs.all id), H, I1, rfl, q⟩
end


structure Has (P : Program) (w : World) (K : PySem.W.Frag) (mg : Str → Option Value) (base : Heap) (x : Str) (ps : List Str) (k : Nat) (sp : Sp) : Prop where
  ex : ∃ (f : Addr) (fd : FuncData), mg x = some (.ref f) ∧ PySem.W.keepIn K (.ref f) = true ∧ Binds K fd ps [] ∧ FnOk P w K mg base CX0 k f fd ps sp
theorem Has.mono {P : Program} {w : World} {K : PySem.W.Frag} {mg : Str → Option Value} {base : Heap} {x : Str} {ps : List Str} {j k : Nat} {sp : Sp} (h : Has P w K mg base x ps j sp) (hk : j ≤ k) : Has P w K mg base x ps k sp := by
  obtain ⟨f, fd, h1, h2, h3, h4⟩ := h.ex
  exact ⟨f, fd, h1, h2, h3, h4.mono hk⟩
section
variable {X : Cx} {x : Str} {ps : List Str} {j k : Nat} {sp : Sp} {p pos : Pos} {e : Expr} {es : List Expr} {t : TA}
theorem pe_callH (h : Has X.prog X.w X.K X.mg X.base x ps j sp) (hr : Room k X.A) (hg : Gl X x) (ha : PA X (e :: es) t) (hk : j ≤ k := by decide) (hdb : (x == ("__debug__" : Str)) = false := by decide)
    (he : starEach (e :: es) X.env = (false, eval e X.env) :: starEach es X.env := by rfl) (hpl : (backTo pos (starEach es X.env)).any (·.1) = false := by rfl) : PE X (.Call (.Name x p) (e :: es) [] pos) (tCall sp [] E0 t) := by
  obtain ⟨f, fd, h1, h2, h3, h4⟩ := h.ex
  exact pe_call h4 (hr.mono hk) hg h1 h2 h3 .nil pass0 ha hdb he hpl
end

theorem boot_intT : bootBuiltins "int" = some (.type "int") := by decide +kernel
theorem boot_boolT : bootBuiltins "bool" = some (.type "bool") := by decide +kernel
theorem boot_tupleT : bootBuiltins "tuple" = some (.type "tuple") := by decide +kernel
theorem boot_listT : bootBuiltins "list" = some (.type "list") := by decide +kernel
theorem boot_maxB : bootBuiltins "max" = some (.builtin "max") := by decide +kernel
theorem boot_allB : bootBuiltins "all" = some (.builtin "all") := by decide +kernel
theorem boot_isinstanceB : bootBuiltins "isinstance" = some (.builtin "isinstance") := by decide +kernel
end L2

set_option Elab.async false
set_option linter.all false
namespace L2
open PySem PySem.Spec PyProof.Rows

section
variable {X : Cx} {K : PySem.W.Frag} {tg l : Expr} {tl : TE} {n : Nat}
theorem kop_catW (hK : X.K = K := by rfl) : OpR X (binaryOp .Add) (rCatW K) := by subst hK; exact op_catW
theorem kop_catLW (hK : X.K = K := by rfl) : OpR X (binaryOp .Add) (rCatLW K) := by subst hK; exact op_catLW
theorem ksl_tupW (hK : X.K = K := by rfl) : SlR X (rSlTW K) := by subst hK; exact sl_tupW
theorem ksl_list (hK : X.K = K := by rfl) : SlR X (rSlL K) := by subst hK; exact sl_list
theorem kix_list (hK : X.K = K := by rfl) : IxR X (rIxL K) := by subst hK; exact ix_list
theorem kix_tup (hK : X.K = K := by rfl) : IxR X (rIxT K) := by subst hK; exact ix_tup
theorem kcall_len_seq (hK : X.K = K := by rfl) : CallR X (.builtin "len") (fun xs H Q => ∃ p ys, xs = [.ref p] ∧ (SqL K H p ys ∨ SqT K H p ys) ∧ Q (.int ys.length) H) := by subst hK; exact call_len_seq
theorem kcall_list_of (hK : X.K = K := by rfl) : CallR X (.type "list") (fun xs H Q => ∃ p ys, xs = [.ref p] ∧ (SqL K H p ys ∨ SqT K H p ys) ∧ ∀ l, H l = none → Q (.ref l) (upd H l (.lst ys))) := by subst hK; exact call_list_of
theorem kcall_tuple_of (hK : X.K = K := by rfl) : CallR X (.type "tuple") (fun xs H Q => ∃ p ys, xs = [.ref p] ∧ ((SqL K H p ys ∧ ∀ l, H l = none → Q (.ref l) (upd H l (.tup ys))) ∨ (SqT K H p ys ∧ Q (.ref p) H))) := by subst hK; exact call_tuple_of
theorem kcall_isinst (hK : X.K = K := by rfl) : CallR X (.builtin "isinstance") (fun xs H Q => ∃ x n d, xs = [x, .ty n] ∧ (n = "int" ∨ n = "bool" ∨ n = "str" ∨ n = "tuple" ∨ n = "list" ∨ n = "dict") ∧ Rep K H x d ∧ Q (.bl (isD n d)) H) := by subst hK; exact call_isinst
theorem kcall_allB (hc : X.calm = true) (hK : X.K = K := by rfl) : CallR X (.builtin "all") (fun xs H Q => ∃ (p : Addr) (bs : List Bool), xs = [.ref p] ∧ SqL K H p (bs.map V.bl) ∧ Q (.bl (bs.all id)) H) := by subst hK; exact call_allB hc
theorem kop_notInD (hu : X.A.units + n < cLine) (hK : X.K = K := by rfl) : OpR X (compareOp .NotIn) (rInD K n true) := by subst hK; exact op_notInD hu
theorem kop_eqD (hu : X.A.units + n < cLine) (hK : X.K = K := by rfl) : OpR X (compareOp .Eq) (rEqD K n) := by subst hK; exact op_eqD hu
theorem kop_neD (hu : X.A.units + n < cLine) (hK : X.K = K := by rfl) : OpR X (compareOp .NotEq) (rNeD K n) := by subst hK; exact op_neD hu
theorem kmt_index (hu : X.A.units + n < cLine) (hK : X.K = K := by rfl) : MtR X "list.index" (rIndex K n) := by subst hK; exact mt_index hu
theorem kpi_list (hl : PE X l tl) (hK : X.K = K := by rfl) : PI X tg l (iList K tl) := by subst hK; exact pi_list hl
theorem kpi_tup (hl : PE X l tl) (hK : X.K = K := by rfl) : PI X tg l (iTup K tl) := by subst hK; exact pi_tup hl
variable {o e : Expr} {es : List Expr} {to : TE} {t : TA} {name : Str} {apos cpos : Pos} {T id : String} {r : V → List V → Hp → VK → Prop}
theorem kpe_bm (pa : PlainAttrs T) (slot : Slot T name id) (hty : typeOf (.builtin id) = pure (.type "method_descriptor")) (hm : MtR X id r) (ho : PE X o to) (ha : PA X (e :: es) t) (hK : X.K = K := by rfl)
    (hbase : attributeBase o name X.env (eval o X.env) = eval o X.env := by rfl)
    (hfew : ((backTo cpos (starEach (e :: es) X.env)).all (fun x => !x.1) && (backToKw cpos (keywordEach [] X.env)).all (fun x => x.1.isSome)
      && decide ((e :: es).length + ([] : List Keyword).length + (if ([] : List Keyword).isEmpty then 0 else 1) < 30)) = true := by rfl)
    (hline : (apos.endLine == cpos.line) = true := by rfl) (hs : starEach (e :: es) X.env = (false, eval e X.env) :: starEach es X.env := by rfl) (hplain : (backTo cpos (starEach es X.env)).any (·.1) = false := by rfl) :
    PE X (.Call (.Attribute o name apos) (e :: es) [] cpos) (tBM K T r to t) := by subst hK; exact pe_bm pa slot hty hm ho ha hbase hfew hline hs hplain
theorem kpg_tup {es : List Expr} {k : Nat} {t : TGs} {n : Nat} {pos : Pos} (hc : X.calm = true) (h : PGs X es t) (hK : X.K = K := by rfl)
    (hn : (assignEach es X.env).length = n := by rfl) (hst : (assignEach es X.env).findIdx? (·.1) = none := by rfl) : PG X (.Tuple es k pos) (gTup K n t) := by subst hK; exact pg_tup hc h hn hst
end
end L2

set_option Elab.async false
set_option linter.all false
set_option maxRecDepth 100000
set_option maxHeartbeats 4000000

namespace L2
open PySem PySem.Spec PyProof.Rows
def GoodF (f : Obj → Obj) : Prop := ∀ o, (f o).dict = o.dict ∧ (o.isFreed = false → (f o).isFreed = false)
def KeepsD {α : Type} : Sem α → Prop
  | .pure _ => True
  | .raise _ => True
  | .unsupported _ => True
  | .finish _ => True
  | .rule _ k => KeepsD (k ())
  | .at _ k => KeepsD (k ())
  | .load _ _ k => ∀ o, KeepsD (k o)
  | .update _ _ f k => GoodF f ∧ KeepsD (k ())
  | .alloc _ k => ∀ a, KeepsD (k a)
  | .loadIfAlive _ k => ∀ o, KeepsD (k o)
  | .point _ k => KeepsD (k ())
  | .register _ _ => True
  | .fresh k => ∀ t, KeepsD (k t)
  | .ask k => ∀ x, KeepsD (k x)
  | .choose _ _ k => ∀ n, KeepsD (k n)
  | .os _ _ k => ∀ r, KeepsD (k r)
  | .call _ _ _ _ _ => False
  | .handled _ k => ∀ v, KeepsD (k v)
  | .newGen _ k => ∀ n, KeepsD (k n)
  | .genState _ k => ∀ x, KeepsD (k x)
  | .resume _ _ _ _ => False
  | .yield _ _ _ _ => True
  | .stack k => ∀ x, KeepsD (k x)
  | .fork _ _ => True
  | .thread k => ∀ x, KeepsD (k x)
  | .await _ _ _ _ _ => True
theorem KeepsD.bind {α β : Type} {m : Sem α} {k : α → Sem β} (h : KeepsD m) (hk : ∀ a, KeepsD (k a)) : KeepsD (m >>= k) := by
  show KeepsD (Sem.bind m k)
  induction m with
  | pure a => exact hk a
  | rule t c ih => exact ih () h
  | «at» p c ih => exact ih () h
  | load a p c ih => exact fun o => ih o (h o)
  | update a p f c ih => exact ⟨h.1, ih () h.2⟩
  | alloc o c ih => exact fun a => ih a (h a)
  | loadIfAlive a c ih => exact fun o => ih o (h o)
  | point l c ih => exact ih () h
  | fresh c ih => exact fun o => ih o (h o)
  | ask c ih => exact fun o => ih o (h o)
  | choose s n c ih => exact fun o => ih o (h o)
  | os r l c ih => exact fun o => ih o (h o)
  | handled o c ih => exact fun o => ih o (h o)
  | newGen g c ih => exact fun o => ih o (h o)
  | genState g c ih => exact fun o => ih o (h o)
  | stack c ih => exact fun o => ih o (h o)
  | thread c ih => exact fun o => ih o (h o)
  | call c a b d e => exact False.elim h
  | resume a b c d => exact False.elim h
  | _ => trivial
def SameD (h h' : Heap) : Prop := ∀ b o, h.get? b = some o → ∃ o', h'.get? b = some o' ∧ o'.dict = o.dict
theorem SameD.refl (h : Heap) : SameD h h := fun _ o e => ⟨o, e, rfl⟩
theorem SameD.trans {h h1 h2 : Heap} (x : SameD h h1) (y : SameD h1 h2) : SameD h h2 := fun b o e => by
  obtain ⟨o1, e1, d1⟩ := x b o e
  obtain ⟨o2, e2, d2⟩ := y b o1 e1
  exact ⟨o2, e2, d2.trans d1⟩
theorem SameD.push (h : Heap) (o : Obj) : SameD h (h.push o) := fun b o' e => ⟨o', Heap.get?_push_of_some o e, rfl⟩
theorem SameD.update {h : Heap} {a : Addr} {f : Obj → Obj} (g : GoodF f) : SameD h (h.update a f) := fun b o e => by
  by_cases z : a = b
  · subst z
    exact ⟨f o, Heap.get?_update_self f e ((g o).2 (Heap.get?_some_iff.mp e).2), (g o).1⟩
  · exact ⟨o, by rw [Heap.get?_update_other _ _ z]; exact e, rfl⟩
theorem wp_keepsD {α : Type} {M : Model} {Γ : PySem.Ctx} {Q : α → Pos → Shared → Prop} {E : Value → Pos → Shared → Prop} {t : Sem α} (hk : KeepsD t) : ∀ (p : Pos) (s : Shared), Sem.wp M Γ t Q E p s →
    Sem.wp M Γ t (fun a p' s' => Q a p' s' ∧ SameD s.heap s'.heap) (fun e p' s' => E e p' s' ∧ SameD s.heap s'.heap) p s := by
  induction t with
  | pure a => intro p s h; exact ⟨h, SameD.refl _⟩
  | raise e => intro p s h; exact ⟨h, SameD.refl _⟩
  | unsupported w => intro p s h; exact h
  | finish e => intro p s h; exact h
  | rule g k ih => intro p s h; exact ih () hk _ _ h
  | «at» p' k ih => intro p s h; exact ih () hk _ _ h
  | load a q k ih => intro p s h; obtain ⟨o, e, h⟩ := h; exact ⟨o, e, ih o (hk o) _ _ h⟩
  | update a q f k ih =>
    intro p s h
    obtain ⟨e, h⟩ := h
    refine ⟨e, ?_⟩
    have := ih () hk.2 _ _ h
    exact wp_tr this (SameD.update hk.1)
  | alloc o k ih => intro p s h; exact wp_tr (ih _ (hk _) _ _ h) (SameD.push _ _)
  | loadIfAlive a k ih => intro p s h; exact ih _ (hk _) _ _ h
  | point l k ih => intro p s h; exact ih () hk _ _ h
  | register a k ih => intro p s h; exact h
  | fresh k ih => intro p s h; exact ih _ (hk _) _ _ h
  | ask k ih => intro p s h; exact ih _ (hk _) _ _ h
  | choose c n k ih => intro p s h; exact ⟨h.1, ih _ (hk _) _ _ h.2⟩
  | os r l k ih => intro p s h; exact ih _ (hk _) _ _ h
  | call c a b d k ih => exact False.elim hk
  | handled o k ih => intro p s h; exact ih _ (hk _) _ _ h
  | newGen c k ih => intro p s h; exact ih _ (hk _) _ _ h
  | genState g k ih => intro p s h; obtain ⟨x, e, h⟩ := h; exact ⟨x, e, ih _ (hk _) _ _ h⟩
  | resume a b c k ih => exact False.elim hk
  | yield a b c k ih => intro p s h; exact h
  | stack k ih => intro p s h; exact ih _ (hk _) _ _ h
  | fork c k ih => intro p s h; exact h
  | thread k ih => intro p s h; exact ih _ (hk _) _ _ h
  | await a b c d k ih => intro p s h; exact h
where
  wp_tr {α : Type} {M : Model} {Γ : PySem.Ctx} {Q : α → Pos → Shared → Prop} {E : Value → Pos → Shared → Prop} {t : Sem α} {p : Pos} {s : Shared} {h h1 : Heap}
    (x : Sem.wp M Γ t (fun a p' s' => Q a p' s' ∧ SameD h1 s'.heap) (fun e p' s' => E e p' s' ∧ SameD h1 s'.heap) p s) (y : SameD h h1) :
    Sem.wp M Γ t (fun a p' s' => Q a p' s' ∧ SameD h s'.heap) (fun e p' s' => E e p' s' ∧ SameD h s'.heap) p s :=
    Sem.wp_mono _ _ _ (fun _ _ _ z => ⟨z.1, y.trans z.2⟩) (fun _ _ _ z => ⟨z.1, y.trans z.2⟩) _ _ x
theorem wpAny_keepsD {α : Type} {M : Model} {A : Around} {Q : α → Shared → Prop} {E : Value → Shared → Prop} {t : Sem α} {s : Shared} (hk : KeepsD t) (h : wpAny M A t Q E s) :
    wpAny M A t (fun a s' => Q a s' ∧ SameD s.heap s'.heap) (fun e s' => E e s' ∧ SameD s.heap s'.heap) s := fun Γ p hi => wp_keepsD hk _ _ (h Γ p hi)
theorem kd_pure {α : Type} (a : α) : KeepsD (pure a : Sem α) := True.intro
theorem kd_un {α : Type} (w : String) : KeepsD (unsupported w : Sem α) := True.intro
theorem kd_load (a : Addr) : KeepsD (load a) := fun _ => True.intro
theorem kd_update (a : Addr) {f : Obj → Obj} (h : GoodF f) : KeepsD (update a f) := ⟨h, True.intro⟩
theorem kd_alloc (o : Obj) : KeepsD (alloc o) := fun _ => True.intro
theorem kd_stack : KeepsD stack := fun _ => True.intro
theorem goodF_fields (g : Array Value → Array Value) : GoodF (Obj.mapFields g) := fun o => by
  obtain ⟨c, d, da, sl⟩ := o
  cases da <;> exact ⟨rfl, fun h => h⟩
theorem goodF_slots (g : Obj → Array (Option Value)) : GoodF (fun o => { o with slots := g o }) := fun o => ⟨rfl, fun h => by
  obtain ⟨c, d, da, sl⟩ := o
  cases da <;> exact h⟩
theorem kd_updateField (a : Addr) (i : Nat) (v : Value) : KeepsD (updateField a i v) := by
  unfold updateField
  refine (kd_load a).bind fun o => ?_
  split
  · split
    · exact kd_update a (goodF_fields _)
    · exact kd_un _
  · exact kd_un _
theorem kd_setField (v : Value) (i : Nat) (x : Value) : KeepsD (setField v i x) := by
  unfold setField
  split
  · exact kd_updateField _ _ _
  · exact kd_un _
theorem kd_fieldsOf (v : Value) : KeepsD (fieldsOf v) := by
  unfold fieldsOf
  split
  · refine (kd_load _).bind fun o => ?_
    split
    · exact kd_pure _
    · exact kd_un _
  · exact kd_un _
theorem kd_field (v : Value) (i : Nat) : KeepsD (field v i) := by
  unfold field
  refine (kd_fieldsOf v).bind fun vs => ?_
  split
  · exact kd_pure _
  · exact kd_un _
theorem kd_setFlight (e : Value) (fr : Option Addr) : KeepsD (setFlight e fr) := by
  unfold setFlight
  refine (kd_field e 1).bind fun tb => ?_
  split
  · exact kd_setField _ _ _
  · exact kd_pure _
theorem kd_newFields (ty : String) (vs : List Value) : KeepsD (newFields ty vs) := by
  unfold newFields newObj
  dsimp only
  split
  · exact (kd_un _).bind fun _ => (kd_alloc _).bind fun _ => kd_pure _
  · exact (kd_alloc _).bind fun _ => kd_pure _
theorem kd_entryPlaceOf (f : Addr) (b : Bool) : KeepsD (entryPlaceOf f b) := by
  unfold entryPlaceOf
  refine kd_stack.bind fun acts => ?_
  split
  · exact kd_pure _
  · exact kd_pure _
theorem kd_frameEnvs : KeepsD frameEnvs := by
  unfold frameEnvs
  exact kd_stack.bind fun _ => kd_pure _
theorem kd_behind (env : Env) (outer : List Env) : KeepsD (behindIsImport env outer) := by
  unfold behindIsImport
  split
  · exact kd_pure _
  · split
    · exact kd_pure _
    · exact (kd_field _ _).bind fun _ => kd_pure _
theorem kd_claims : KeepsD underTheClaimsCaller := by
  unfold underTheClaimsCaller
  exact kd_stack.bind fun _ => kd_pure _
theorem kd_keptBack (env : Env) (i : Bool) (outer : List Env) : KeepsD (keptBack env i outer) := by
  cases outer with
  | nil =>
    rw [keptBack]
    by_cases z : (env.scope.isGenerator || env.scope.isCoroutine) = true
    · rw [if_pos z]; exact kd_pure _
    · rw [if_neg z]; exact kd_claims.bind fun _ => kd_pure _
  | cons c r => exact kd_pure _
theorem kd_readyFrames : ∀ l : List Env, KeepsD (readyFrames l)
  | [] => kd_pure _
  | env :: outer => by
    unfold readyFrames
    split
    · refine (kd_load _).bind fun o => ?_
      split
      · exact kd_pure _
      · refine (kd_behind _ _).bind fun b => (kd_keptBack _ _ _).bind fun v => (kd_update _ (goodF_slots _)).bind fun _ => kd_readyFrames outer
    · exact kd_un _
theorem kd_frameOf (env : Env) : KeepsD (PySem.frameOf env) := by
  unfold PySem.frameOf
  refine kd_frameEnvs.bind fun es => ?_
  refine KeepsD.bind ?_ fun o => ?_
  · generalize es.dropWhile _ = l
    cases l with
    | nil => exact kd_pure _
    | cons x r => exact (kd_readyFrames _).bind fun _ => kd_pure _
  · split
    · exact kd_pure _
    · exact kd_un _
theorem kd_noteFrame (e : Value) (env : Env) : KeepsD (noteFrame e env) := by
  unfold noteFrame
  cases env.frame with
  | none => exact kd_un _
  | some f =>
    have tail : ∀ head : Value, KeepsD (do let a ← PySem.frameOf env; let pl ← entryPlaceOf f (head != .none); let b ← EntryCells.newEntry head a .none (rawInt f) .none pl; setField e 1 b) := fun head =>
      KeepsD.bind (kd_frameOf env) fun a => KeepsD.bind (kd_entryPlaceOf f _) fun pl => KeepsD.bind (kd_newFields _ _) fun b => kd_setField _ _ _
    refine (kd_field e 1).bind fun head => ?_
    by_cases z : (head != Value.none) = true
    · rw [if_pos z]
      refine (kd_field head 3).bind fun x => ?_
      by_cases y : (x == rawInt f) = true
      · rw [if_pos y]; exact kd_pure _
      · rw [if_neg y]
        refine (kd_setField _ _ _).bind fun _ => ?_
        exact tail head
    · rw [if_neg z]
      exact tail head
theorem kd_leaving (env : Env) (e : Value) : KeepsD (leaving env e) := by
  unfold leaving
  exact (kd_noteFrame e env).bind fun _ => kd_setFlight e none
end L2

set_option Elab.async false
set_option linter.all false
set_option maxRecDepth 100000
set_option maxHeartbeats 4000000

namespace L2
open PySem PySem.Spec PyProof.Rows

theorem ObjOk.ob {P : Program} {w : World} {H : Hp} {h : Heap} {a : Addr} {o : HO} (x : ObjOk P w H h a o) : ∃ u, h.get? a = some u := by
  cases o with
  | lst xs => obtain ⟨_, _, _, _, e⟩ := x; exact ⟨_, e⟩
  | tup xs => obtain ⟨_, _, _, ob, e, _⟩ := x; exact ⟨_, e⟩
  | dK kvs => obtain ⟨_, _, _, _, ob, _, _, e, _⟩ := x; exact ⟨_, e⟩
  | dT kvs => obtain ⟨_, _, _, _, ob, _, _, e, _⟩ := x; exact ⟨_, e⟩
  | set S n => obtain ⟨ob, _, _, _, e, _⟩ := x; exact ⟨_, e⟩
  | ins C dx fs => obtain ⟨_, _, _, e, _⟩ := x; exact ⟨_, e⟩
  | own y => exact x
  | xd fs => obtain ⟨_, ⟨ob, _, _, e, _⟩, _⟩ := x; exact ⟨_, e⟩
  | rng lo hi => obtain ⟨_, _, _, e⟩ := x; exact ⟨_, e⟩
  | frz ob u => obtain ⟨e, _⟩ := x; exact ⟨_, e⟩
  | tbl ps => exact ⟨_, (show h.get? a = some _ from x)⟩
  | met f y => exact ⟨_, (show h.get? a = some _ from x)⟩
  | ext φ => obtain ⟨_, e, _⟩ := x; exact e


structure XUn (fs : List Addr) (H H' : Hp) (h B h' : Heap) : Prop where
  kp : ∀ b o, h.get? b = some o → H b = none → b ∉ fs → B.get? b = some o
  sl : ∀ b o, h.get? b = some o → H b = none → b ∈ fs → ∃ z, h'.get? b = some { o with slots := z }
  fr : ∀ b o, h.get? b = some o → H b = none → H' b = none
  th : ∀ b o, h.get? b = some o → b ∉ fs → ∃ z, B.get? b = some z
  tu : ∀ b xs, H b = some (.tup xs) → H' b = some (.tup xs)
  fz : ∀ b o u, H b = some (.frz o u) → H' b = some (.frz o u)
  tb : ∀ b ps, H b = some (.tbl ps) → ∃ more, H' b = some (.tbl (ps ++ more))
section
variable {fs : List Addr} {H H' : Hp} {h B h' h2 : Heap}
theorem XUn.un (x : XUn fs H H' h B h') (hB : B.StaysIn h2) (hf : ∀ b ∈ fs, H b = none) (hs : ∀ b o, h'.get? b = some o → b ∈ fs → ∃ z, h2.get? b = some { o with slots := z }) : Un fs [] H H' h h2 where
  keep := fun b o e n hb _ => hB b o (x.kp b o e n hb)
  slot := fun b o e n hb _ => by
    obtain ⟨z, e1⟩ := x.sl b o e n hb
    obtain ⟨z', e2⟩ := hs b _ e1 hb
    exact ⟨z', e2⟩
  free := fun b o e n _ => x.fr b o e n
  there := fun b o e _ => by
    by_cases hb : b ∈ fs
    · obtain ⟨z, e1⟩ := x.sl b o e (hf b hb) hb
      obtain ⟨z', e2⟩ := hs b _ e1 hb
      exact ⟨_, e2⟩
    · obtain ⟨z, e1⟩ := x.th b o e hb
      exact ⟨z, hB b z e1⟩
  tups := x.tu
  frzs := x.fz
  tbls := x.tb
theorem frames_up {l : List Env} (ff : h'.FunFrames B l) (up : h'.UpToSlots h2) : ∀ b o, h'.get? b = some o → b ∈ frs l → ∃ z, h2.get? b = some { o with slots := z } := fun b o e hb => by
  obtain ⟨_, o', e', hd⟩ := ff.mem hb
  rw [e] at e'
  cases e'
  exact up b o e hd
theorem XUn.next {l : List Env} (x : XUn (frs l) H H' h B h') (ff : h'.FunFrames B l) (up : h'.UpToSlots h2) : XUn (frs l) H H' h B h2 :=
  ⟨x.kp, fun b o e n hb => by
    obtain ⟨z, e1⟩ := x.sl b o e n hb
    obtain ⟨z', e2⟩ := frames_up ff up b _ e1 hb
    exact ⟨z', e2⟩, x.fr, x.th, x.tu, x.fz, x.tb⟩
end


def ErrD (e : Addr) (dx : Option Addr) (h : Heap) : Prop := ∃ o, h.get? e = some o ∧ o.dict = dx
theorem ErrD.go {e : Addr} {dx : Option Addr} {h h' : Heap} (x : ErrD e dx h) (k : SameD h h') : ErrD e dx h' := by
  obtain ⟨o, e1, d1⟩ := x
  obtain ⟨o', e2, d2⟩ := k e o e1
  exact ⟨o', e2, d2.trans d1⟩

def CX1 (P : Program) (w : World) : CXT := fun outer H s E u s' => ∃ (e : Addr) (cls a0 : Value) (B : Heap) (H' : Hp) (dx : Option Addr), u = .ref e ∧ s'.os = s.os ∧ AllBare s'.gens ∧ XUn (frs outer) H H' s.heap B s'.heap ∧ HOk P w H' B ∧ Heap.FlyingW B outer e cls a0 s'.heap ∧ ErrD e dx s'.heap ∧ E cls dx H'

def FlyAt (X : Cx) (pins : List (Addr × Obj)) (e : Addr) (cls a0 : Value) (dx : Option Addr) (σ : St) (H' : Hp) (s' : Shared) : Prop :=
  ∃ (B : Heap) (H : Hp) (s : Shared), Inv X pins σ H s ∧ s'.os = s.os ∧ AllBare s'.gens ∧ XUn (frs X.stack) H H' s.heap B s'.heap ∧ HOk X.prog X.w H' B ∧ Heap.FlyingW B X.stack e cls a0 s'.heap ∧ ErrD e dx s'.heap

abbrev XJ := Value → Option Addr → St → Hp → Prop
def Fly (X : Cx) (J : XJ) (u : Value) (s' : Shared) : Prop := ∃ (e : Addr) (cls a0 : Value) (dx : Option Addr) (σ : St) (H' : Hp), u = .ref e ∧ FlyAt X [] e cls a0 dx σ H' s' ∧ J cls dx σ H'
def Flies (X : Cx) (J : XJ) : Prop := ∀ u s', Fly X J u s' → X.xe u s'
def Makes (X : Cx) (J : XJ) : Prop := ∀ (pins : List (Addr × Obj)) (σ : St) (H : Hp) (s : Shared) (e : Addr) (cls : Value) (vs : List Value) (h' : Heap), Inv X pins σ H s → Heap.MadeExcOf s.heap h' e cls vs → J cls none σ H → X.xe (.ref e) { s with heap := h' }


def excO (e : Addr) (cls : Value) : HO := .ext fun h => ∃ o vs, h.get? e = some o ∧ o.cls = cls ∧ o.data = .fields vs


def excX (e : Addr) (cls : Value) : Option Addr → HO
  | none => excO e cls
  | some d => .ext fun h => ∃ o vs, h.get? e = some o ∧ o.cls = cls ∧ o.data = .fields vs ∧ o.dict = some d
section
variable {X : Cx} {pins : List (Addr × Obj)} {σ : St} {H H' : Hp} {s s' : Shared} {e : Addr} {cls a0 : Value} {dx : Option Addr}
theorem Inv.nopin (I : Inv X pins σ H s) : Inv X [] σ H s := I.pins_of (fun p hp => nomatch hp)
theorem FlyAt.step {B : Heap} {h2 : Heap} {S : Shared} (I : Inv X pins σ H S) (q1 : s'.os = S.os) (q2 : AllBare s'.gens) (q3 : XUn (frs X.stack) H H' S.heap B s'.heap) (q4 : HOk X.prog X.w H' B) (q5 : Heap.FlyingW B X.stack e cls a0 s'.heap)
    (f : Heap.FlyingW B X.stack e cls a0 h2) (up : s'.heap.UpToSlots h2) (d : ErrD e dx h2) : FlyAt X pins e cls a0 dx σ H' { s' with heap := h2 } :=
  ⟨B, H, S, I, q1, q2, q3.next q5.2.2.1 up, q4, f, d⟩

theorem FlyAt.apart {B : Heap} {S : Shared} (q3 : XUn (frs X.stack) H H' S.heap B s'.heap) (q5 : Heap.FlyingW B X.stack e cls a0 s'.heap) : S.heap.get? e = none := by
  cases z : S.heap.get? e with
  | none => rfl
  | some o =>
    by_cases hb : e ∈ frs X.stack
    · obtain ⟨_, o', e1, hd⟩ := q5.2.2.1.mem hb
      obtain ⟨oe, vs, e2, _, d2, _⟩ := q5.first
      rw [e1] at e2
      cases e2
      exact absurd d2 (hd vs)
    · obtain ⟨o', e1⟩ := q3.th e o z hb
      have e2 := q5.2.1
      rw [e1] at e2
      cases e2
theorem HOk.none_of {P : Program} {w : World} {B : Heap} (q : HOk P w H' B) (z : B.get? e = none) : H' e = none := by
  cases y : H' e with
  | none => rfl
  | some o =>
    obtain ⟨u, e1⟩ := (q e o y).ob
    rw [e1] at z
    cases z
theorem FlyAt.inv (F : FlyAt X pins e cls a0 dx σ H' s') : Inv X pins σ H' s' ∧ H' e = none := by
  obtain ⟨B, H, S, I, q1, q2, q3, q4, q5, _⟩ := F
  exact ⟨I.call' (ch := []) q1 (q3.un q5.1 I.stkFree fun b o e1 _ => ⟨o.slots, e1⟩) (q4.kept q5.1) q2 (fun b z => absurd z (by simp)), q4.none_of q5.2.1⟩

theorem FlyAt.held (F : FlyAt X pins e cls a0 dx σ H' s') : Inv X pins σ (upd H' e (excX e cls dx)) s' ∧ H' e = none := by
  obtain ⟨B, H, S, I, q1, q2, q3, q4, q5, dE⟩ := F
  have hn := q4.none_of q5.2.1
  have ha := FlyAt.apart q3 q5
  have ne : ∀ b u, H' b = some u → b ≠ e := fun b u y => ne_of_none y hn
  have q6 : XUn (frs X.stack) H (upd H' e (excX e cls dx)) S.heap B s'.heap :=
    ⟨q3.kp, q3.sl, fun b o e1 n => by
      have : b ≠ e := fun z => by rw [z, ha] at e1; cases e1
      rw [upd_ne this]
      exact q3.fr b o e1 n, q3.th, fun b xs y => by
      have y' := q3.tu b xs y
      rw [upd_ne (ne b _ y')]
      exact y', fun b o u y => by
      have y' := q3.fz b o u y
      rw [upd_ne (ne b _ y')]
      exact y', fun b ps y => by
      obtain ⟨more, y'⟩ := q3.tb b ps y
      exact ⟨more, by rw [upd_ne (ne b _ y')]; exact y'⟩⟩
  refine ⟨I.call' (ch := []) q1 (q6.un q5.1 I.stkFree fun b o e1 _ => ⟨o.slots, e1⟩) (fun b u y => ?_) q2 (fun b z => absurd z (by simp)), hn⟩
  have hk := q4.kept q5.1
  by_cases hb : b = e
  · subst hb
    rw [upd_same] at y
    cases y
    obtain ⟨oe, vs, e2, c2, d2, _⟩ := q5.first
    obtain ⟨o3, e3, d3⟩ := dE
    rw [e2] at e3
    cases e3
    cases dx with
    | none => exact ⟨⟨oe, vs, e2, c2, d2⟩, ⟨oe, e2⟩, fun h1 h2 ⟨o, ws, a1, a2, a3⟩ k => ⟨o, ws, k o a1, a2, a3⟩⟩
    | some d => exact ⟨⟨oe, vs, e2, c2, d2, d3⟩, ⟨oe, e2⟩, fun h1 h2 ⟨o, ws, a1, a2, a3, a4⟩ k => ⟨o, ws, k o a1, a2, a3, a4⟩⟩
  · rw [upd_ne hb] at y
    exact (hk b u y).stay (fun _ _ _ q => q) (fun c q => by rw [upd_ne (ne c _ q)]; exact q) fun c xs q => by rw [upd_ne (ne c _ q)]; exact q
end


section
variable {P : Program} {w : World} {K : PySem.W.Frag} {mg : Str → Option Value} {base : Heap} {N : List Str} {qual : Str} {scope : Scope} {f : Addr} {cd : Value} {A : Around} {outer : List Env} {s : Shared} {H : Hp} {E : XK}
theorem frs_def : frs (envOfC qual scope s.heap.objs.size f cd :: outer) = s.heap.objs.size :: frs outer := rfl
theorem makes_def : Makes (cxOf (CX1 P w) P w K mg base N qual scope f cd A outer s H E) (fun cls dx _ H' => E cls dx H') := by
  intro pins σ H1 s1 e cls vs h' I hx hj
  have fin : ∀ env ∈ (envOfC qual scope s.heap.objs.size f cd :: outer), ∀ b, env.frame = some b → b ∈ frs (envOfC qual scope s.heap.objs.size f cd :: outer) := fun env he b hb => List.mem_filterMap.mpr ⟨env, he, hb⟩
  have old : ∀ b o, s.heap.get? b = some o → b ∉ frs outer → b ∉ frs (envOfC qual scope s.heap.objs.size f cd :: outer) := fun b o e1 hb z => by
    rw [frs_def] at z
    rcases List.mem_cons.mp z with y | y
    · exact absurd (Heap.lt_size e1) (by rw [y]; exact Nat.lt_irrefl _)
    · exact hb y
  have nx : ∀ b : Addr, b ∉ ([] : List Addr) := fun b => by simp
  have fr1 : ∀ b ∈ frs (envOfC qual scope s.heap.objs.size f cd :: outer), H1 b = none := I.stkFree
  show wpAny (model P w) (A.deeper (envOfC qual scope s.heap.objs.size f cd)) (leaving (envOfC qual scope s.heap.objs.size f cd) (.ref e)) _ _ { s1 with heap := h' }
  have dE : ErrD e none h' := by
    obtain ⟨_, _, t0, hget, _⟩ := hx
    exact ⟨_, hget, rfl⟩
  refine wpAny_mono (wpAny_keepsD (kd_leaving _ _) (wpAny_leaves_madeW (E := fun _ _ => False) (Q := fun _ s2 => ∃ h2 t, s2 = { s1 with heap := h2 } ∧ Heap.FlyingW (PySem.W.hideAll s1.heap (frs (envOfC qual scope s.heap.objs.size f cd :: outer))) outer e cls (.ref t) h2 ∧ h'.UpToSlots h2) (L := s.heap.objs.size) (base := PySem.W.hideAll s1.heap (frs (envOfC qual scope s.heap.objs.size f cd :: outer))) (h := s1.heap) I.ok.frames rfl (fun b o q => PySem.W.of_hideAll _ q) (PySem.W.funFrames_hide I.stack fin) hx fun h2 t x1 x2 x3 x4 => ⟨h2, t, rfl, x1, x4⟩)) (fun _ s2 ⟨⟨h2, t, e2, x1, x4⟩, kd⟩ => ?_) (fun _ _ z => z.1.elim)
  subst e2
  refine ⟨e, cls, .ref t, _, H1, none, rfl, I.os, I.bare, ⟨fun b o e1 n hb => ?_, fun b o e1 n hb => ?_, fun b o e1 n => I.base.free b o e1 n (nx b), fun b o e1 hb => ?_, I.base.tups, I.base.frzs, I.base.tbls⟩, ?_, x1, dE.go kd, hj⟩
  · exact PySem.W.hideAll_get _ (I.base.keep b o e1 n hb (nx b)) (old b o e1 hb)
  · obtain ⟨z, e2⟩ := I.base.slot b o e1 n hb (nx b)
    obtain ⟨_, o', e3, hd⟩ := I.ok.funs.mem hb
    have e3' : s.heap.get? b = some o' := e3
    rw [e1] at e3'
    cases e3'
    obtain ⟨z2, e4⟩ := x4 b _ (hx.keeps b _ e2) hd
    exact ⟨z2, e4⟩
  · obtain ⟨o', e2⟩ := I.base.there b o e1 (nx b)
    exact ⟨o', PySem.W.hideAll_get _ e2 (old b o e1 hb)⟩
  · intro a u y
    refine (I.hok a u y).stay (fun b v hb q => PySem.W.hideAll_get _ q fun hm => ?_) (fun _ q => q) fun _ _ q => q
    have z := fr1 b hm
    rcases hb with rfl | hb
    · rw [y] at z; cases z
    · rw [hb] at z; cases z

theorem Fun.okX {x : Str} {st : Stmt} {fd : FuncData} {ps : List Str} {k : Nat} {sp : Sp} (F : Fun K x qual st f fd) (S : FnScope N ps (defScope st)) (len : ∀ vs H Q E, sp vs H Q E → vs.length = ps.length)
    (hbody : ∀ (cdv : Value) (A : Around) (outer : List Env) (s : Shared) (H : Hp) (vs : List V) (Q : VK) (E : XK), Room k (A.deeper (envOfC qual (defScope st) s.heap.objs.size f cdv)) → sp vs H Q E →
      ∃ t, PSs (cxOf (CX1 P w) P w K mg base N qual (defScope st) f cdv A outer s H E) (defBody st) t ∧ t { nx := fun _ H' => Q .non H', rt := Q } (start N vs) H) : FnOk P w K mg base (CX1 P w) (k + 1) f fd ps sp := by
  obtain ⟨oc, od, kV, doc, pm, an, cdv, ct, osl, rfl, lk, hcd⟩ := F.ex
  exact fn_of lk hcd S len fun A outer s H vs Q E hr hsp => hbody cdv A outer s H vs Q E hr hsp
end
structure HasX (P : Program) (w : World) (K : PySem.W.Frag) (mg : Str → Option Value) (base : Heap) (x : Str) (ps : List Str) (k : Nat) (sp : Sp) : Prop where
  ex : ∃ (f : Addr) (fd : FuncData), mg x = some (.ref f) ∧ PySem.W.keepIn K (.ref f) = true ∧ Binds K fd ps [] ∧ FnOk P w K mg base (CX1 P w) k f fd ps sp

def tCallX (sp : Sp) (J : XJ) (t : TA) : TE := fun σ H Q => t σ H fun vs H1 => sp vs H1 Q (fun cls dx H2 => J cls dx σ H2)
section
variable {X : Cx} {J : XJ} {x : Str} {ps : List Str} {j k : Nat} {sp : Sp} {p pos : Pos} {e : Expr} {es : List Expr} {t : TA}
theorem run_fnX {pins : List (Addr × Obj)} {σ : St} {H : Hp} {s : Shared} {Q : VK} {us : List Value} {vs : List V} {f : Addr} {fd : FuncData} (F : FnOk X.prog X.w X.K X.mg X.base (CX1 X.prog X.w) k f fd ps sp) (hr : Room k X.A) (hb : Binds X.K fd ps []) (hx : Flies X J)
    (I : Inv X pins σ H s) (r : Vals vs us) (h : sp vs H Q (fun cls dx H2 => J cls dx σ H2)) : wpAny (model X.prog X.w) X.A (call (.ref f) us) (EP X pins σ Q) X.xe s := by
  have hl : us.length = ps.length := by rw [← r.length]; exact F.len _ _ _ _ h
  have hb1 := hb s us I.kIn (by rw [List.append_nil]; exact hl)
  rw [List.append_nil] at hb1
  refine wpAny_call (codeAny_mono (F.run X.A X.stack s H ⟨us, []⟩ us vs Q _ hr I.env0 hb1 r h) fun q s' hq => ?_)
  cases q with
  | error u =>
    obtain ⟨e, cls, a0, B, H', dx, rfl, q1, q2, q3, q4, q5, dE, q6⟩ := hq
    exact hx _ _ ⟨e, cls, a0, dx, σ, H', rfl, ⟨B, H, s, I.nopin, q1, q2, q3, q4, q5, dE⟩, q6⟩
  | ok fl =>
    cases fl with
    | ret u => exact I.after hq
    | next => exact False.elim hq
    | brk => exact False.elim hq
    | cont => exact False.elim hq
theorem pe_callX (hx : Flies X J) (h : HasX X.prog X.w X.K X.mg X.base x ps j sp) (hr : Room k X.A) (hg : Gl X x) (ha : PA X (e :: es) t) (hk : j ≤ k := by decide) (hdb : (x == ("__debug__" : Str)) = false := by decide)
    (he : starEach (e :: es) X.env = (false, eval e X.env) :: starEach es X.env := by rfl) (hpl : (backTo pos (starEach es X.env)).any (·.1) = false := by rfl) : PE X (.Call (.Name x p) (e :: es) [] pos) (tCallX sp J t) := by
  intro pins s σ H Q I hw
  obtain ⟨f, fd, h1, h2, h3, h4⟩ := h.ex
  refine wpAny_Call_Name_kw (ld_glob I hg h1 ?_ hdb)
  refine PySem.W.callWith_K (h₀ := X.base) I.ok.mod.kin h2 (thn (ha pos pins s σ H _ I hw) fun us s1 ⟨vs, H1, I1, r, q⟩ => ⟨I1.kIn, ?_⟩) he hpl
  exact run_fnX h4 (hr.mono hk) h3 hx I1 r q
end


abbrev bmV : List Value := [.type "ValueError", .type "Exception", .type "BaseException", .type "object"]
theorem own_obj {K : PySem.W.Frag} {h : Heap} {C : Addr} {bmB : List Value} {nid : String} (X : K.In h) (z : PySem.W.excIn K C bmB nid = true) :
    ∃ bm N nm q bs hdct sn sub ab col dd k0 k1 k2 k3 k5 mN, h.get? C = some (excClassObj nm q C N bs bm hdct sn sub ab col dd k0 k1 k2 k3 k5 nid) ∧ h.Ns N mN ∧ mN "__init__" = none ∧ OwnTail h bmB bm := by
  unfold PySem.W.excIn at z
  split at z
  case h_2 => cases z
  case h_1 dd cd sl ho =>
    split at z
    case h_2 => cases z
    case h_1 C' bm k0 k1 k2 k3 n k5 hm hs =>
      rw [Bool.and_eq_true, Bool.and_eq_true, Bool.and_eq_true, Bool.and_eq_true, Bool.and_eq_true, beq_iff_eq, beq_iff_eq, Bool.not_eq_true', beq_iff_eq] at z
      obtain ⟨⟨⟨⟨⟨z1, z2⟩, z3⟩, z4⟩, z5⟩, z6⟩ := z
      obtain ⟨nm, bs, mro, ns, qn, hd, sn, sub, ab, col, del⟩ := cd
      have hm' : mro = .ref C' :: bm := hm
      have z3' : del = false := z3
      subst hm' z3' z1 z2
      have hsl : sl = #[k0, k1, k2, k3, some (.builtin n), k5] := by
        cases sl with
        | mk l =>
          have : l = [k0, k1, k2, k3, some (.builtin n), k5] := hs
          rw [this]
      subst hsl
      exact ⟨bm, ns, nm, qn, bs, hd, sn, sub, ab, col, dd, k0, k1, k2, k3, k5, _, X _ _ ho, .of_isNs (PySem.W.isNs_of_in X z5), PySem.W.nsMap_none_of_in X z5 z6, PySem.W.tail_of_in X z4⟩
def tRaise (J : XJ) (C : Addr) (t : TA) : TS := fun _ σ H => t σ H fun vs H1 => vs.length ≤ sizeLine ∧ J (.ref C) none σ H1
theorem ps_raise {X : Cx} {J : XJ} {C : Addr} {x : Str} {np cpos pos : Pos} {e : Expr} {es : List Expr} {t : TA} (hx : Makes X J) (hc : X.calm = true) (hg : Gl X x) (hm : X.mg x = some (.ref C)) (z : PySem.W.excIn X.K C bmV "ValueError.__new__" = true) (ha : PA X (e :: es) t)
    (hdb : (x == ("__debug__" : Str)) = false := by decide) (he : starEach (e :: es) X.env = (false, eval e X.env) :: starEach es X.env := by rfl) (hpl : (backTo cpos (starEach es X.env)).any (·.1) = false := by rfl) :
    PS X (.Raise (some (.Call (.Name x np) (e :: es) [] cpos)) none pos) (tRaise J C t) := by
  intro pins s σ H D I h
  obtain ⟨bm, N, nm, q, bs, hdct, sn, sub, ab, col, dd, k0, k1, k2, k3, k5, mN, hC, hN, hni, T⟩ := own_obj I.mod.kin z
  have hp2 : (backTo cpos (starEach (e :: es) X.env)).any (·.1) = false := by
    rw [he]
    show (false || (backTo cpos (starEach es X.env)).any (·.1)) = false
    rw [hpl]
    rfl
  refine wpAny_Raise_call_subT PySem.F.excBase_ValueError (C := C) (nm := nm) (q := q) (N := N) (bs := bs) (bm := bm) (hdct := hdct) (sn := sn) (sub := sub) (ab := ab) (col := col) (dd := dd) (k0 := k0) (k1 := k1) (k2 := k2) (k3 := k3) (k5 := k5) (mN := mN)
    (T.hasType PySem.F.excBase_ValueError.hasBase) (I.ok.hd hc) hp2 hni (ld_glob I hg hm ⟨rfl, ?_⟩ hdb)
  have a1 := thn (ha cpos pins s σ H _ I h) (Q' := fun us s2 => (⟨us, []⟩ : Args).kw = [] ∧ us.length ≤ sizeLine ∧ s2.heap.get? C = some (excClassObj nm q C N bs bm hdct sn sub ab col dd k0 k1 k2 k3 k5 "ValueError.__new__") ∧ s2.heap.Ns N mN ∧ OwnTail s2.heap bmV bm ∧
      ∀ h' e, Heap.MadeExcOf s2.heap h' e (.ref C) us → X.xe (.ref e) { s2 with heap := h' }) fun us s2 ⟨vs, H1, I1, r, hl, hj⟩ =>
    ⟨rfl, by rw [← r.length]; exact hl, I1.bk _ _ hC, hN.keeps I1.bk, T.keeps I1.bk, fun h' e2 hmk => hx pins σ H1 s2 e2 _ _ h' I1 hmk hj⟩
  rw [he] at a1 ⊢
  exact Calls.evalArgs_plain a1


theorem PS.nox {X : Cx} {st : Stmt} {t : TS} (h : PS X.nox st t) : PS X st t := fun pins s σ H D I hw =>
  wpAny_mono (h pins s σ H D (I.wish _) hw) (fun _ _ q => q.unwish) fun _ _ z => False.elim z
end L2

set_option Elab.async false
set_option linter.all false
set_option maxRecDepth 100000
set_option maxHeartbeats 4000000

namespace L2
open PySem PySem.Spec PyProof.Rows PySem.W

section
variable {X : Cx} {pins pn : List (Addr × Obj)} {σ : St} {H : Hp} {s : Shared} {J : XJ}
abbrev Cx.pinned (X : Cx) (pn : List (Addr × Obj)) : Cx := { X with pn := X.pn ++ pn }
theorem Cx.Ok.pinned (ok : X.Ok) (pn : List (Addr × Obj)) : (X.pinned pn).Ok :=
  ⟨ok.mod, ok.kind, ok.glob, ok.blt, ok.above, ok.inj, ok.has, ok.cab, ok.hd, ok.frames, ok.stk, ok.exf, ok.bs, ok.bsz, ok.noex, ok.exfs, ok.funs, ok.frf⟩
theorem Cx.Ok.unpinned' (ok : (X.pinned pn).Ok) : X.Ok :=
  ⟨ok.mod, ok.kind, ok.glob, ok.blt, ok.above, ok.inj, ok.has, ok.cab, ok.hd, ok.frames, ok.stk, ok.exf, ok.bs, ok.bsz, ok.noex, ok.exfs, ok.funs, ok.frf⟩
theorem Inv.toPn (I : Inv X pins σ H s) : Inv (X.pinned pins) [] σ H s := ⟨I.ok.pinned _, I.os, I.bare, I.base, I.loc, I.cell, I.free, I.freeC, fun p hp => I.pin p (by simpa using hp), I.hok, I.len⟩
theorem Inv.ofPn (I : Inv (X.pinned pins) [] σ H s) : Inv X pins σ H s := ⟨I.ok.unpinned', I.os, I.bare, I.base, I.loc, I.cell, I.free, I.freeC, fun p hp => I.pin p (by simpa using hp), I.hok, I.len⟩

abbrev Cx.tried (X : Cx) (pn : List (Addr × Obj)) (J : XJ) : Cx := (X.pinned pn).wish (Fly (X.pinned pn) J)
theorem flies_tried : Flies (X.tried pn J) J := fun u s' ⟨e, cls, a0, dx, σ, H', h1, ⟨B, H, S, I, q⟩, h3⟩ => ⟨e, cls, a0, dx, σ, H', h1, ⟨B, H, S, I.unwish, q⟩, h3⟩

abbrev Cx.suite (X : Cx) (e : Addr) : Cx := { X with A := X.A.mark (some (.ref e)), calm := false, xe := fun _ _ => False }
theorem Cx.Ok.suite (ok : X.Ok) (e : Addr) : (X.suite e).Ok :=
  ⟨ok.mod, ok.kind, ok.glob, ok.blt, ok.above, ok.inj, ok.has, ok.cab, fun z => Bool.noConfusion z, ok.frames, ok.stk, ok.exf, ok.bs, ok.bsz, ok.noex, ok.exfs, ok.funs, ok.frf⟩
theorem Inv.suite (I : Inv X pins σ H s) (e : Addr) : Inv (X.suite e) pins σ H s := ⟨I.ok.suite e, I.os, I.bare, I.base, I.loc, I.cell, I.free, I.freeC, I.pin, I.hok, I.len⟩
theorem Inv.unsuite {e : Addr} (ok : X.Ok) (I : Inv (X.suite e) pins σ H s) : Inv X pins σ H s := ⟨ok, I.os, I.bare, I.base, I.loc, I.cell, I.free, I.freeC, I.pin, I.hok, I.len⟩


theorem unname_ok {M : Model} {A : Around} {E : Value → Shared → Prop} {i : Nat} {n : Str} {pos : Pos} {Q : Unit → Shared → Prop} (I : Inv X pins σ H s) (hN : X.N.Nodup) (hi : X.N[i]? = some n) (hk : X.env.kindOf n = some .local)
    (h : ∀ s', Inv X pins (σ.set i none) H s' → Q () s') : wpAny M A (do bindName X.env n .none; unbindBehindTheSuite X.env n pos) Q E s := by
  obtain ⟨m, hn, hl⟩ := id I.loc
  have hcls : (X.env.scope.kind == .class || (X.env.scope.kind == .module && X.env.locals != X.env.globals)) = false := by rw [I.ok.kind]; rfl
  refine wpAny_nameGoes_keeps hk hn hcls fun h' v hn' hs => h _ ?_
  have lt : ∀ b o, X.s₀.heap.get? b = some o → b ≠ X.env.locals := fun b o e => Nat.ne_of_lt (Nat.lt_of_lt_of_le (Heap.lt_size e) I.ok.above)
  refine ⟨I.ok, I.os, I.bare, ⟨fun b o e z hb hx => (hs.2 b (lt b o e)).trans (I.base.keep b o e z hb hx), fun b o e z hb hx => ?_, I.base.free, fun b o e hx => ?_, I.base.tups, I.base.frzs, I.base.tbls⟩, ⟨_, hn', fun j y v' e1 e2 e3 => ?_⟩, fun y c e => ?_, I.free, I.freeC, fun p hp => ?_, fun b o e => ?_, by simpa using I.len⟩
  · obtain ⟨sl, e1⟩ := I.base.slot b o e z hb hx
    exact ⟨sl, (hs.2 b (lt b o e)).trans e1⟩
  · obtain ⟨o', e1⟩ := I.base.there b o e hx
    exact ⟨o', (hs.2 b (lt b o e)).trans e1⟩
  · have hj : i ≠ j := by
      rintro rfl
      rw [List.getElem?_set] at e2
      simp at e2
    rw [List.getElem?_set_ne hj] at e2
    obtain ⟨u, r, q⟩ := hl j y v' e1 e2 e3
    refine ⟨u, r, ?_⟩
    rcases q with ⟨k, z⟩ | ⟨k, c, z, w'⟩
    · have : y ≠ n := fun z' => hj (nodup_ix hN hi (z' ▸ e1))
      exact .inl ⟨k, by simp [this, z]⟩
    · exact .inr ⟨k, c, z, w'.sameBut hs (I.cne y c z)⟩
  · obtain ⟨w', z⟩ := I.cell y c e
    exact ⟨w', z.sameBut hs (I.cne y c e)⟩
  · obtain ⟨e, z, ne, nf, d⟩ := I.pin p hp
    exact ⟨(hs.2 p.1 ne).trans e, z, ne, nf, d⟩
  · refine (I.hok b o e).stay (fun c w' hc q => (hs.2 c ?_).trans q) (fun _ q => q) fun _ _ q => q
    rintro rfl
    have hf := I.free
    rcases hc with rfl | hc
    · rw [hf] at e; cases e
    · rw [hf] at hc; cases hc
end


def PH (X : Cx) (hs : List ExceptHandler) (th : Ends → XJ) : Prop := ∀ (pins : List (Addr × Obj)) (s : Shared) (σ : St) (H : Hp) (D : Ends) (e : Addr) (cls a0 : Value) (dx : Option Addr), FlyAt X pins e cls a0 dx σ H s → th D cls dx σ H →
  wpAny (model X.prog X.w) X.A (handleBy (.ref e) X.env hs) (SP X pins D) X.xe s
def hNo : Ends → XJ := fun _ _ _ _ _ => False
theorem ph_none {X : Cx} : PH X [] hNo := fun _ _ _ _ _ _ _ _ _ _ h => h.elim

def behind (i : Nat) (D : Ends) : Ends := { nx := fun σ H => D.nx (σ.set i none) H, rt := D.rt, bk := fun σ H => D.bk (σ.set i none) H, ct := fun σ H => D.ct (σ.set i none) H }
def hAs (K : Frag) (C : Addr) (i : Nat) (ts : TS) (th : Ends → XJ) : Ends → XJ := fun D cls dx σ H => ∃ (C' : Addr) (b : Bool), cls = .ref C' ∧ subIn K (.ref C') (.ref C) = some b ∧
  if b = true then ∀ e, H e = none → ts (behind i D) (σ.set i (some (.ref e))) (upd H e (excX e cls dx)) else th D cls dx σ H

theorem exc_match {M : Model} {A : Around} {E : Value → Shared → Prop} {nm q : Str} {C C' N : Addr} {bs bm : List Value} {hdct : Bool} {sn : List Str} {sub : List Value} {ab : Bool} {col : Option Bool} {dd : Option Addr} {k0 k1 k2 k3 k5 : Option Value} {nid : String}
    {h : Heap} {g : Array GenState} {d : Drawn} {t : Nat} {os : OsState} {e : Addr} {oe : Obj} {b : Bool} {Q : Bool → Shared → Prop} (hC : h.get? C = some (excClassObj nm q C N bs bm hdct sn sub ab col dd k0 k1 k2 k3 k5 nid))
    (he : h.get? e = some oe) (hcls : oe.cls = .ref C') (hbase : bm.contains (.type "BaseException") = true) (LS : Looks M h (isSubtype (.ref C') (.ref C)) b) (hq : Q b ⟨h, g, d, t, os⟩) : wpAny M A (excMatches (.ref e) (.ref C)) Q E ⟨h, g, d, t, os⟩ := by
  have hb2 : (Value.ref C :: bm).contains (.type "BaseException") = true := by rw [List.contains_cons, hbase, Bool.or_true]
  have tnt := tc_notTuple
  unfold excMatches
  repeat (first | (with_reducible refine wpAny_loadPart_at he ?_; rw [hcls]) | with_reducible refine wpAny_loadPart_at hC ?_ | (with_reducible refine wpAny_isSubtype_exc hC ?_; rw [hb2]) | with_reducible refine LS.at ?_ | wp_step)
  cases b <;> (wp_walk; exact hq)

section
variable {X : Cx} {th : Ends → XJ}
theorem ph_as {x n : Str} {i : Nat} {C : Addr} {np hpos : Pos} {b0 : Stmt} {bs : List Stmt} {ts : TS} {rest : List ExceptHandler} (hN : X.N.Nodup) (hi : X.N[i]? = some n) (hk : X.env.kindOf n = some .local) (hg : Gl X x) (hm : X.mg x = some (.ref C)) (hC : ktsIn X.K C "BaseException" = true)
    (hs : ∀ e, PSs (X.suite e) (b0 :: bs) ts) (hr : PH X rest th) (hdb : (x == ("__debug__" : Str)) = false := by decide) : PH X (.ExceptHandler (some (.Name x np)) (some n) (b0 :: bs) hpos :: rest) (hAs X.K C i ts th) := by
  intro pins s σ H D e cls a0 dx F h
  obtain ⟨C', b, rfl, hb, h⟩ := h
  have I := F.inv.1
  obtain ⟨nm, qn, N, bs', bm, hdct, sn, sub, ab, col, dd, k0, k1, k2, k3, k5, nid, hCo, hbase, _⟩ := kts_cls I.kIn hC
  have F' := F
  obtain ⟨B, H0, S, I0, q1, q2, q3, q4, q5, dE⟩ := F'
  obtain ⟨oe, he, hcls⟩ := q5.there
  refine wpAny_handleBy_cons (codeAny_handlers_test (ld_glob (X := X.suite e) (I.suite e) hg hm ?_ hdb)) (by intro q; cases q)
  have LS : Looks (model X.prog X.w) s.heap (isSubtype (.ref C') (.ref C)) b := looks_subIn I.kIn hb
  obtain ⟨sh, sg, sd, st, so⟩ := s
  refine exc_match hCo he hcls hbase LS ?_
  cases b with
  | false =>
    rw [if_neg Bool.false_ne_true] at h
    exact hr pins _ σ H D e _ a0 dx F h
  | true =>
    rw [if_pos rfl] at h
    refine codeAny_handlers_suite_as ?_
    refine wpAny_mono (wpAny_keepsD (kd_setFlight _ _) (lands_againW (E := fun _ _ => False) (Q := fun _ s2 => ∃ h6, s2 = { (⟨sh, sg, sd, st, so⟩ : Shared) with heap := h6 } ∧ Heap.FlyingW B X.stack e (.ref C') a0 h6 ∧ sh.UpToSlots h6) q5 fun h6 f6 up6 => ⟨h6, rfl, f6, up6⟩)) (fun _ s2 ⟨⟨h6, e6, f6, up6⟩, kd⟩ => ?_) (fun _ _ z => z.1.elim)
    subst e6
    have F6 := FlyAt.step I0 q1 q2 q3 q4 q5 f6 up6 (dE.go kd)
    obtain ⟨I6, hn⟩ := F6.held
    refine store_ok (v := .ref e) I6 hN hi (.inl hk) rfl (fun s7 I7 => ?_) (.inr hk)
    refine wpAny_mono (hs e pins s7 _ _ (behind i D) (I7.suite e) (h e hn)) (fun f s8 q => ?_) fun _ _ z => z.elim
    have go : ∀ {σ' : St} {H' : Hp} {f : Flow}, Inv (X.suite e) pins σ' H' s8 → (∀ s9, Inv X pins (σ'.set i none) H' s9 → SP X pins D f s9) → wpAny (model X.prog X.w) X.A (do bindName X.env n .none; unbindBehindTheSuite X.env n hpos) (fun _ s9 => SP X pins D f s9) X.xe s8 :=
      fun {σ' H' f} I8 k => unname_ok (I8.unsuite I.ok) hN hi hk k
    cases f with
    | next => obtain ⟨σ', H', I8, q⟩ := q; exact go I8 fun s9 I9 => ⟨_, H', I9, q⟩
    | brk => obtain ⟨σ', H', I8, q⟩ := q; exact go I8 fun s9 I9 => ⟨_, H', I9, q⟩
    | cont => obtain ⟨σ', H', I8, q⟩ := q; exact go I8 fun s9 I9 => ⟨_, H', I9, q⟩
    | ret u => obtain ⟨v, σ', H', I8, r, q⟩ := q; exact go I8 fun s9 I9 => ⟨v, _, H', I9, r, q⟩

def tTry (tb : XJ → TS) (th : Ends → XJ) : TS := fun D σ H => tb (th D) D σ H
theorem ps_try {tb : XJ → TS} {body : List Stmt} {h0 : ExceptHandler} {hs : List ExceptHandler} {pos : Pos} (hb : ∀ pn J, PSs (X.tried pn J) body (tb J)) (hh : PH X (h0 :: hs) th) (hstk : X.stack = X.env :: X.outer := by rfl) (hfr : X.env.frame = some X.env.locals := by rfl) :
    PS X (.Try body (h0 :: hs) [] [] pos) (tTry tb th) := by
  intro pins s σ H D I h
  refine wpAny_Try_except (wpAny_mono (hb pins (th D) [] s σ H D (I.toPn.wish _) h) (fun f s1 q => ?_) fun u s1 q => ?_)
  · cases f with
    | next => obtain ⟨σ', H', I', q⟩ := q; exact wpAny_execs_nil ⟨σ', H', I'.unwish.ofPn, q⟩
    | brk => obtain ⟨σ', H', I', q⟩ := q; exact ⟨σ', H', I'.unwish.ofPn, q⟩
    | cont => obtain ⟨σ', H', I', q⟩ := q; exact ⟨σ', H', I'.unwish.ofPn, q⟩
    | ret u => obtain ⟨v, σ', H', I', r, q⟩ := q; exact ⟨v, σ', H', I'.unwish.ofPn, r, q⟩
  · obtain ⟨e, cls, a0, dx, σ', H', rfl, ⟨B, H1, S, I1, q1, q2, q3, q4, q5, dE⟩, hj⟩ := q
    have q5' : Heap.FlyingW B (X.env :: X.outer) e cls a0 s1.heap := hstk ▸ q5
    refine wpAny_mono (wpAny_keepsD (kd_noteFrame _ _) (wpAny_looks_onW (E := fun _ _ => False) (Q := fun _ s2 => ∃ h4, s2 = { s1 with heap := h4 } ∧ Heap.HeldW B (X.env :: X.outer) e cls a0 X.env.locals h4 ∧ s1.heap.UpToSlots h4) (L := X.env.locals) (I.ok.frames.trans (congrArg some hstk)) hfr q5' fun h4 held4 up4 => ⟨h4, rfl, held4, up4⟩)) (fun _ s2 ⟨⟨h4, e4, held4, up4⟩, kd4⟩ => ?_) (fun _ _ z => z.1.elim)
    subst e4
    refine wpAny_mono (wpAny_keepsD (kd_setFlight _ _) (wpAny_landsW (E := fun _ _ => False) (Q := fun _ s2 => ∃ h5, s2 = { s1 with heap := h5 } ∧ Heap.FlyingW B (X.env :: X.outer) e cls a0 h5 ∧ h4.UpToSlots h5) held4 fun h5 fl5 up5 => ⟨h5, rfl, fl5, up5⟩)) (fun _ s2 ⟨⟨h5, e5, fl5, up5⟩, kd5⟩ => ?_) (fun _ _ z => z.1.elim)
    subst e5
    exact hh pins _ σ' H' D e cls a0 dx (FlyAt.step (s' := s1) I1.ofPn q1 q2 q3 q4 q5 (hstk ▸ fl5) (up4.trans up5) (dE.go (kd4.trans kd5))) hj
end


structure ExcC (K : Frag) (C : Addr) : Prop where
  cls : ktsIn K C "BaseException" = true
  ga : findIn K (.ref C) "__getattribute__" = some (some (.builtin "BaseException.__getattribute__"))
  gt : findIn K (.ref C) "__getattr__" = some none
  cl : findIn K (.ref C) "__class__" = some (some (.builtin "object.__class__"))
  ob : subIn K (.ref C) (.type "object") = some true
  be : subIn K (.ref C) (.type "BaseException") = some true
section
variable {prog : Program} {w : World} {A : Around} {E : Value → Shared → Prop} {h : Heap} {g : Array GenState} {d : Drawn} {t : Nat} {os : OsState} {a C : Addr} {o : Obj} {K : Frag}
theorem xcls_get {R : Result → Shared → Prop} (X : K.In h) (Z : ExcC K C) (hx : h.get? a = some o) (hc : o.cls = .ref C) (hq : R (.ok (.ret (.ref C))) ⟨h, g, d, t, os⟩) :
    codeAny (model prog w) A (.call (.builtin "getset_descriptor.__get__") ⟨[.builtin "object.__class__", .ref a, .ref C], []⟩) R ⟨h, g, d, t, os⟩ := by
  have ht : (⟨h, g, d, t, os⟩ : Shared).TypeIs (.builtin "object.__class__") "getset_descriptor" := F.typeOf_object_class
  have LS : Looks (model prog w) h (isSubtype (.ref C) (.type (".".intercalate ("object.__class__".cutAt '.').dropLast))) true := by rw [F.owner_object_class]; exact looks_subIn X Z.ob
  refine codeAny_call_builtin F.slot_gs_get.plain F.entry_gs_get (F.slot_gs_get.check _ _ _ _ _ _ _ _ ht (F.args_gs_get _ _ _) ?_)
  repeat (any_goals (first | assumption | (with_reducible refine wpAny_loadPart_at hx ?_; rw [hc]) | with_reducible refine LS.at ?_ | wp_step))
  refine ⟨Code.quiet_builtin _ (by decide +kernel), codeAny_builtin F.entry_object_class ?_⟩
  repeat (any_goals (first | assumption | (with_reducible refine wpAny_loadPart_at hx ?_; rw [hc]) | wp_step))
theorem xcls_entry {tk : Tok} {Q : Fin → Shared → Prop} (X : K.In h) (Z : ExcC K C) (hx : h.get? a = some o) (hc : o.cls = .ref C) (hq : Q (.done (.ret (.ref C))) ⟨h, g, d, t, os⟩) :
    wpAny (model prog w) A (Builtin.«object.__getattribute__» ⟨[.ref a, .str "__class__" tk], []⟩) Q E ⟨h, g, d, t, os⟩ := by
  have ht : (⟨h, g, d, t, os⟩ : Shared).TypeIs (.builtin "object.__class__") "getset_descriptor" := F.typeOf_object_class
  have L1 : Looks (model prog w) h (typeLookup (.ref C) "__class__") (some (.builtin "object.__class__")) := looks_findIn X Z.cl
  have f5 := F.typeOf_object_class
  have f6 := F.slot_gs_get.lookup
  have f7 := F.slot_gs_set.lookup
  repeat (any_goals (first | assumption | (with_reducible refine wpAny_loadPart_at hx ?_; rw [hc]) | with_reducible refine L1.at ?_ | wp_step))
  refine xcls_get X Z hx hc ?_
  repeat (any_goals (first | assumption | wp_step))
theorem xcls_check {M : Model} {nameV : Value} {Q : Unit → Shared → Prop} (X : K.In h) (Z : ExcC K C) (hx : h.get? a = some o) (hc : o.cls = .ref C) (hq : Q () ⟨h, g, d, t, os⟩) :
    wpAny M A (checkBuiltinCall "BaseException.__getattribute__" ⟨[.ref a, nameV], []⟩) Q E ⟨h, g, d, t, os⟩ := by
  have hk : builtinKind "BaseException.__getattribute__" = some .slot := by decide +kernel
  have hsp : splitId "BaseException.__getattribute__" = some ("BaseException", "__getattribute__") := by decide +kernel
  have LS : Looks M h (isSubtype (.ref C) (.type "BaseException")) true := looks_subIn X Z.be
  have ha := F.args_bexc_ga (.ref a) nameV
  simp only [checkBuiltinCall, hk, hsp]
  refine wpAny_bind ?_
  unfold isInstance
  repeat (first | (with_reducible refine wpAny_loadPart_at hx ?_; rw [hc]) | with_reducible refine LS.at ?_ | wp_step)
  exact hq
theorem xcls_call {tk : Tok} {R : Result → Shared → Prop} (X : K.In h) (Z : ExcC K C) (hx : h.get? a = some o) (hc : o.cls = .ref C) (hq : R (.ok (.ret (.ref C))) ⟨h, g, d, t, os⟩) :
    codeAny (model prog w) A (.call (.builtin "BaseException.__getattribute__") ⟨[.ref a, .str "__class__" tk], []⟩) R ⟨h, g, d, t, os⟩ :=
  codeAny_call_builtin F.attr_ValueError.ga.plain F.entry_bexc_ga (xcls_check X Z hx hc (xcls_entry X Z hx hc hq))
theorem xcls_by {tk : Tok} {fill expr : Bool} {Q : Value → Shared → Prop} (X : K.In h) (Z : ExcC K C) (hx : h.get? a = some o) (hc : o.cls = .ref C) (hq : Q (.ref C) ⟨h, g, d, t, os⟩) :
    wpAny (model prog w) A (getAttrBy (.ref a) (.str "__class__" tk) fill expr) Q E ⟨h, g, d, t, os⟩ := by
  have f3 := F.attr_ValueError.ga.bind (.ref a)
  have hx0 : (expr && onTheHeap (Value.builtin "BaseException.__getattribute__")) = false := by cases expr <;> rfl
  have hx2 : (Value.builtin "BaseException.__getattribute__" == Value.builtin "object.__getattribute__") = false := by decide +kernel
  have hx1 : (onTheHeap (Value.ref C) && Value.builtin "BaseException.__getattribute__" == Value.builtin "object.__getattribute__") = false := by rw [hx2]; rfl
  have L1 : Looks (model prog w) h (typeLookup (.ref C) "__getattribute__") (some (.builtin "BaseException.__getattribute__")) := looks_findIn X Z.ga
  have L2' : Looks (model prog w) h (typeLookup (.ref C) "__getattr__") none := looks_findIn X Z.gt
  repeat (any_goals (first | assumption | (with_reducible refine wpAny_loadPart_at hx ?_; rw [hc]) | with_reducible refine L1.at ?_ | with_reducible refine L2'.at ?_ | wp_step))
  refine xcls_call X Z hx hc ?_
  repeat (any_goals (first | assumption | wp_step))
theorem xcls_attr {Q : Option Value → Shared → Prop} (X : K.In h) (Z : ExcC K C) (hx : h.get? a = some o) (hc : o.cls = .ref C) (hq : Q (some (.ref C)) ⟨h, g, d, t + 1, os⟩) : wpAny (model prog w) A (getAttr? (.ref a) "__class__") Q E ⟨h, g, d, t, os⟩ := by
  unfold getAttr? getAttrBy?
  repeat (any_goals (first | assumption | with_reducible apply xcls_by X Z hx hc | wp_step))
theorem kitx_exc (Z : ExcC K C) : KitX K (.ref a) (.ref C) (fun h => ∃ o, h.get? a = some o ∧ o.cls = .ref C) where
  ty := fun M h X ⟨o, e, c⟩ => by
    have := (Looks.ld (M := M) (part := none) e).andThen (f := fun ob => pure ob.cls) .now
    rw [c] at this
    exact this
  it := fun M h X _ => by
    obtain ⟨nm, qn, N, bs', bm, hdct, sn, sub, ab, col, dd, k0, k1, k2, k3, k5, nid, hCo, _, _⟩ := kts_cls X Z.cls
    intro A' Q' E' s' k q
    unfold isType loadHead
    exact wpAny_bind (wpAny_loadPart (k _ _ hCo) (wpAny_pure q))
  ne := fun h tp dd its n sl X htp => by
    obtain ⟨nm, qn, N, bs', bm, hdct, sn, sub, ab, col, dd, k0, k1, k2, k3, k5, nid, hCo, _, _⟩ := kts_cls X Z.cls
    refine Bool.eq_false_iff.mpr fun q => ?_
    have e : C = tp := Value.ref.inj (beq_iff_eq.mp q)
    subst e
    have z := congrArg Obj.cls (Option.some.inj (hCo.symm.trans htp))
    have z2 : ("type" : String) = "tuple" := by injection z
    exact absurd z2 (by decide)
  ca := fun {prog w A E Q s} X ⟨o, e, c⟩ k => by
    obtain ⟨sh, sg, sd, st, so⟩ := s
    exact xcls_attr X Z e c k
end
section
variable {X : Cx} {K : Frag}

theorem kcall_isiX (hK : X.K = K := by rfl) : CallR X (.builtin "isinstance") (fun xs H Q => ∃ (e C : Addr) (y : V) (c : Value) (b : Bool), xs = [.ref e, y] ∧ RelV y c ∧ (∀ u, RelV y u → u = c) ∧ H e = some (excO e (.ref C)) ∧ ExcC K C ∧ kitOne K (.ref C) c = some b ∧ Q (.bl b) H) := by
  subst hK
  intro pins s σ H xs us Q I r h
  obtain ⟨e, C, y, c, b, rfl, _, hy, hH, Z, kk, q⟩ := h
  obtain ⟨u, v, rfl, rx, rt⟩ := vals2 r
  cases rx
  cases hy v rt
  have ho := I.hok e _ hH
  obtain ⟨⟨o, vs, e1, c1, _⟩, _⟩ := ho
  exact kia_one (kitx_exc Z) I.kIn ⟨o, e1, c1⟩ kk (fun z => nomatch z) fun tk => ⟨.bl b, H, I.tok tk, rfl, q⟩
theorem ref_only {D : Addr} : ∀ u, RelV (.ref D) u → u = .ref D := fun u h => h
theorem ty_only {n : String} : ∀ u, RelV (.ty n) u → u = .type n := fun u h => h
end
end L2

set_option Elab.async false
set_option linter.all false
set_option maxRecDepth 100000
set_option maxHeartbeats 4000000
namespace L2
open PySem PySem.Spec PyProof.Rows PySem.W
section
variable {prog : Program} {w : World} {A : Around} {E : Value → Shared → Prop} {h : Heap} {g : Array GenState} {d : Drawn} {t : Nat} {os : OsState} {a C dx : Addr} {o : Obj} {K : Frag} {cd : ClassData} {mA : Str → Option Value} {v : Value} {name : Str}
theorem xat_entry {tk : Tok} {Q : Fin → Shared → Prop} (X : K.In h) (hf : findIn K (.ref C) name = some none) (hcd : clsIn K C = some cd) (hh : cd.hasDict = true) (hx : h.get? a = some o) (hc : o.cls = .ref C) (hd : o.dict = some dx) {vs : Array Value} (hdat : o.data = .fields vs) (hn : h.Ns dx mA) (hv : mA name = some v) (hq : Q (.done (.ret v)) ⟨h, g, d, t, os⟩) :
    wpAny (model prog w) A (Builtin.«object.__getattribute__» ⟨[.ref a, .str name tk], []⟩) Q E ⟨h, g, d, t, os⟩ := by
  have L1 : Looks (model prog w) h (typeLookup (.ref C) name) none := looks_findIn X hf
  have L2' : Looks (model prog w) h (classData C) cd := looks_clsIn X hcd
  obtain ⟨oc, od, oda, osl⟩ := o
  dsimp only at hc hd hdat
  subst hc hd hdat
  repeat (any_goals (first | assumption | (with_reducible refine wpAny_nsGet hn ?_; rw [hv]) | with_reducible refine wpAny_loadPart_at hx ?_ | with_reducible refine L1.at ?_ | with_reducible refine L2'.at ?_ | (rw [hh]) | wp_step))
end
end L2

set_option Elab.async false
set_option linter.all false
set_option maxRecDepth 100000
set_option maxHeartbeats 4000000
namespace L2
open PySem PySem.Spec PyProof.Rows PySem.W PySem.Builtin PySem.Builtin.ObjectAttr
def errTail : List Value := [.type "ValueError", .type "Exception", .type "BaseException", .type "object"]
theorem refuse_tail (self : Value) : refuseLoop self "__setattr__" errTail = pure () := by kernel_rfl
section
variable {prog : Program} {w : World} {A : Around} {K : Frag} {s : Shared} {x C D : Addr} {R : Result → Shared → Prop}

theorem store_exc {ox : Obj} {od : Option Obj} {name : Str} {tk : Tok} {v : Value} {cd : ClassData} (X : K.In s.heap) (I : InstAt s.heap x ox C od) (hc : clsIn K C = some cd) (hm : cd.mro = .ref C :: .ref D :: errTail) (hf : findIn K (.ref C) name = some none)
    (h : wpAny (model prog w) A.in1 (storeInOwnDict (.ref x) (.ref C) (.str name tk) name v false) (fun fin s' => match fin with | .done f => R (.ok f) s' | .again c' => c'.quiet = true ∧ codeAny (model prog w) A c' R s') (fun e s' => R (.error e) s') s) :
    codeAny (model prog w) A (.call (.builtin "object.__setattr__") ⟨[.ref x, .str name tk, v], []⟩) R s := by
  have SF := PySem.F.store_object
  have sub : Looks (model prog w) s.heap (isInstance (.ref x) (.type "object")) true := I.type.andThen (looks_mroIn X (by unfold mroIn; rw [hc, Option.bind_some, hm]; rfl))
  refine codeAny_call_builtin SF.slot.plain SF.entry (@check_slot (model prog w) _ _ s "object.__setattr__" "object" "__setattr__" (.ref x) [.str name tk, v] [] _ SF.kind SF.split sub (SF.args (.ref x) (.str name tk) v) ?_)
  have hl : Looks (model prog w) s.heap (mroOf (.ref C)) cd.mro := (looks_clsIn X hc).andThen .now
  rw [osa_eq, refuse_eq]
  refine wpAny_bind (wpAny_bind (I.type.here (wpAny_bind (hl.here ?_))))
  rw [hm, refuseLoop_ref, refuseLoop_ref, refuse_tail]
  exact wpAny_pure (wpAny_bind (I.type.here (wpAny_bind ((looks_findIn X hf).here (wpAny_bind (wpAny_pure h))))))
end
section
variable {prog : Program} {w : World} {A : Around} {E : Value → Shared → Prop} {K : Frag} {s : Shared} {x C : Addr}

theorem store_first {ox : Obj} {vs : Array Value} {name : Str} {tk : Tok} {v : Value} {cd : ClassData} {Q : Fin → Shared → Prop} (X : K.In s.heap) (hx : s.heap.get? x = some ox) (hcl : ox.cls = .ref C) (hd : ox.dict = none) (hf : ox.data = .fields vs)
    (hc : clsIn K C = some cd) (hh : cd.hasDict = true)
    (h : ∀ h' t', h'.get? x = some { ox with dict := some s.heap.objs.size } → h'.Ns1 s.heap.objs.size (fun y => if y = name then some v else none) → (∀ b o, b ≠ x → s.heap.get? b = some o → h'.get? b = some o) → Q (.done (.ret .none)) { s with heap := h', toks := t' }) :
    wpAny (model prog w) A (storeInOwnDict (.ref x) (.ref C) (.str name tk) name v false) Q E s := by
  obtain ⟨oc, odi, oda, osl⟩ := ox
  dsimp only at hcl hd hf
  subst hcl hd hf
  refine wpAny_bind (wpAny_pure (wpAny_bind (wpAny_bind (wpAny_loadPart hx (wpAny_bind ((looks_clsIn X hc).here ?_))))))
  rw [hh]
  have hxs : x ≠ s.heap.objs.size := Nat.ne_of_lt (Heap.lt_size hx)
  have hx₁ : (s.heap.push { cls := .type "dict", data := .dict #[] }).get? x = some ⟨.ref C, none, .fields vs, osl⟩ := Heap.get?_push_of_some _ hx
  have hgd : ((s.heap.push { cls := .type "dict", data := .dict #[] }).update x fun o => { o with dict := some s.heap.objs.size }).get? s.heap.objs.size = some { cls := .type "dict", data := .dict #[] } :=
    (Heap.get?_update_other _ _ hxs).trans (Heap.get?_push_size _ rfl)
  have hgx : ((s.heap.push { cls := .type "dict", data := .dict #[] }).update x fun o => { o with dict := some s.heap.objs.size }).get? x = some ⟨.ref C, some s.heap.objs.size, .fields vs, osl⟩ :=
    Heap.get?_update_self (fun o => { o with dict := some s.heap.objs.size }) hx₁ rfl
  have hkeep : ∀ b o, b ≠ x → s.heap.get? b = some o → ((s.heap.push { cls := .type "dict", data := .dict #[] }).update x fun o => { o with dict := some s.heap.objs.size }).get? b = some o := fun b o n e =>
    (Heap.get?_update_other _ _ n.symm).trans (Heap.get?_push_of_some _ e)
  refine wpAny_bind (wpAny_alloc' (wpAny_bind (wpAny_update' hx₁ (wpAny_pure ?_))))
  generalize ((s.heap.push { cls := .type "dict", data := .dict #[] }).update x fun o => { o with dict := some s.heap.objs.size }) = G at hgd hgx hkeep ⊢
  refine wpAny_bind (wpAny_pure (wpAny_bind (wpAny_nsSet1 (m := fun _ => none) (Heap.Ns1.of_empty ⟨_, #[], _, hgd, rfl, fun e he => absurd he (by simp), fun _ => rfl⟩) fun h' hn' hs => ?_)))
  obtain ⟨oD, esD, epD, hoD, hdD, hcD⟩ := hn'.count (Within.cons name v Within.nil)
  refine wpAny_bind (wpAny_lookBehind hoD (by rw [hdD]; exact pastItsLine_dict (Nat.le_trans hcD (by rw [List.length_cons, List.length_nil]; decide))) ?_)
  exact wpAny_pure (h h' _ ((hs.2 x hxs).trans hgx) hn' fun b o n e => (hs.2 b (Nat.ne_of_lt (Heap.lt_size e))).trans (hkeep b o n e))
end
end L2

set_option Elab.async false
set_option linter.all false
set_option maxRecDepth 100000
set_option maxHeartbeats 4000000

namespace L2
open PySem PySem.Spec PyProof.Rows PySem.W
theorem ns_has {K : Frag} {h : Heap} {N : Addr} {mN : Str → Option Value} {n : Str} {v : Value} (X : K.In h) (G : h.Ns N mN) (z : nsIn K N n = some (some v)) : mN n = some v := by
  obtain ⟨ob, es, ep, h1, h2, _, h4⟩ := G
  unfold nsIn at z
  split at z
  next c d es' n' sl q =>
    have y := X _ _ q
    rw [h1] at y; cases y; cases h2
    split at z
    next en hen => (cases z; rw [← h4]; unfold nsFind findBy; rw [← Array.find?_toList, hen]; rfl)
    next => (split at z <;> cases z)
  next => cases z
abbrev errF := PySem.F.excBase_ValueError

structure ErrC (K : Frag) (C D f : Addr) : Prop where
  obj : ∃ N nm q bs sn sub ab col dd k0 k1 k2 k3 k5, K.lookup C = some (excClassObj nm q C N bs (.ref D :: bmV) true sn sub ab col dd k0 k1 k2 k3 k5 "ValueError.__new__") ∧ nsOkIn K N = true ∧ nsIn K N "__init__" = some (some (.ref f))
  tail : tailIn K bmV (.ref D :: bmV) = true
  fn : isFn K (.ref f) = true
  sa : findIn K (.ref C) "__setattr__" = some (some (.builtin "object.__setattr__"))
section
variable {prog : Program} {w : World} {A : Around} {E : Value → Shared → Prop} {h : Heap} {g : Array GenState} {d : Drawn} {t : Nat} {os : OsState} {K : Frag} {C D f : Addr} {rest : List Value}
theorem ErrC.here (Z : ErrC K C D f) (X : K.In h) : ∃ N nm q bs sn sub ab col dd k0 k1 k2 k3 k5 mN, h.get? C = some (excClassObj nm q C N bs (.ref D :: bmV) true sn sub ab col dd k0 k1 k2 k3 k5 "ValueError.__new__") ∧ h.Ns N mN ∧ mN "__init__" = some (.ref f) ∧ OwnTail h bmV (.ref D :: bmV) := by
  obtain ⟨N, nm, q, bs, sn, sub, ab, col, dd, k0, k1, k2, k3, k5, e, n1, n2⟩ := Z.obj
  have n0 : h.Ns N (h.nsMap N) := .of_isNs (isNs_of_in X n1)
  exact ⟨N, nm, q, bs, sn, sub, ab, col, dd, k0, k1, k2, k3, k5, h.nsMap N, X _ _ e, n0, ns_has X n0 n2, tail_of_in X Z.tail⟩
theorem ErrC.fnHere (Z : ErrC K C D f) (X : K.In h) : ∃ o, h.get? f = some o ∧ o.cls = .type "function" := by
  have z := beq_iff_eq.mp Z.fn
  unfold typeIn at z
  cases q : K.lookup f with
  | none => simp [q] at z
  | some o => simp [q] at z; exact ⟨o, X _ _ q, z⟩

abbrev errObj (C t : Addr) (dx : Option Addr) : Obj := { cls := .ref C, dict := dx, data := .fields #[.ref t, .none, .none, .none, .bool false, .none] }
theorem call_err {Q : Value → Shared → Prop} (X : K.In h) (Z : ErrC K C D f) (hr : rest.length ≤ sizeLine)
    (hq : ∀ h' e, h.objs.size ≤ e → Heap.MadeExcOf h h' e (.ref C) rest → wpAny (model prog w) (A.under (.builtin "type.__call__" ⟨.ref C :: rest, []⟩)) (call (.ref f) (.ref e :: rest)) (fun r s' => r = .none ∧ Q (.ref e) s') E ⟨h', g, d, t, os⟩) :
    wpAny (model prog w) A (call (.ref C) rest) Q E ⟨h, g, d, t, os⟩ := by
  obtain ⟨N, nm, q, bs, sn, sub, ab, col, dd, k0, k1, k2, k3, k5, mN, hC, hN, hi, T⟩ := Z.here X
  obtain ⟨oI, hfI, hfc⟩ := Z.fnHere X
  have f1 := tc_lookup
  have f2 := tc_bind (.ref C)
  have hT : (⟨h, g, d, t, os⟩ : Shared).TypeIs (.ref C) "type" := ⟨_, hC, rfl⟩
  refine wpAny_call (codeAny_of_tree ?_)
  show wpAny _ _ (callAny (.ref C) _) _ _ _
  repeat (any_goals (first | assumption | with_reducible refine wpAny_loadPart_at hC ?_ | wp_step))
  refine ⟨rfl, codeAny_call_builtin_at (Code.quiet_builtin _ (by decide +kernel)) entry_typeCall (wpAny_check_type_call_sub hC ?_)⟩
  repeat (first | with_reducible refine wpAny_loadPart_at hC ?_ | with_reducible refine wpAny_madeBy_exc hC ?_ | wp_step)
  refine codeAny_call_builtin_code (Code.quiet_builtin _ errF.quiet) (wpAny_check_new_subT errF T hC (codeAny_exc_new_subT errF T hC ?_ hr))
  show wpAny _ _ _ _ _ _
  let G := (h.push { cls := .type "tuple", data := .seq rest.toArray }).push (errObj C h.objs.size none)
  have kG : ∀ b o, h.get? b = some o → G.get? b = some o := fun b o e => Heap.get?_push_of_some _ (Heap.get?_push_of_some _ e)
  have hC1 := kG _ _ hC
  have hN1 : G.Ns N mN := hN.keeps kG
  have hf1 := kG _ _ hfI
  have hget : G.get? (h.objs.size + 1) = some (errObj C h.objs.size none) := by
    have := Heap.get?_push_size (h.push { cls := .type "tuple", data := .seq rest.toArray }) (o := errObj C h.objs.size none) rfl
    rwa [Heap.size_push] at this
  have hcC : (Value.ref C :: .ref D :: bmV).contains (.ref C) = true := by rw [List.contains_cons, beq_self_eq_true]; rfl
  have hm : Heap.MadeExcOf h G (h.objs.size + 1) (.ref C) rest := ⟨kG, Heap.get?_none_of_le (Nat.le_succ _), h.objs.size, hget, Heap.get?_none_of_le (Nat.le_refl _), Heap.get?_push_of_some _ (Heap.get?_push_at rfl rfl)⟩
  show wpAny _ _ _ _ _ ⟨G, g, d, t, os⟩
  clear_value G
  unfold isInstance
  repeat (first | (with_reducible refine wpAny_loadPart_at hget ?_; dsimp only [errObj]) | (with_reducible refine wpAny_isSubtype_exc hC1 ?_; rw [hcC]) | wp_step)
  refine wpAny_typeLookup_tail hC1 hN1 (T.keeps kG) errF.mroIs errF.init.lookup ?_
  rw [hi]
  refine wpAny_holding (wpAny_bind ?_)
  unfold bindSpecial
  refine wpAny_bind (wpAny_typeOf (T := "function") ⟨_, hf1, hfc⟩ ?_)
  rw [if_pos (by decide)]
  refine wpAny_pure (wpAny_bind (wpAny_mono (hq G _ (Nat.le_succ _) hm) (fun r s' z => ?_) fun _ _ x => x))
  obtain ⟨rfl, z⟩ := z
  wp_walk
  exact z
end
end L2

set_option Elab.async false
set_option linter.all false
set_option maxRecDepth 100000
set_option maxHeartbeats 4000000

namespace L2
open PySem PySem.Spec PyProof.Rows PySem.W

def newE (e C : Addr) : HO := .ext fun h => ∃ t, h.get? e = some (errObj C t none)
def madeE (e C d : Addr) : HO := .ext fun h => ∃ t, h.get? e = some (errObj C t (some d))
theorem newE_ok {P : Program} {w : World} {H : Hp} {h : Heap} {e C t : Addr} (z : h.get? e = some (errObj C t none)) : ObjOk P w H h e (newE e C) := ⟨⟨t, z⟩, ⟨_, z⟩, fun _ _ ⟨t', y⟩ k => ⟨t', k _ y⟩⟩
theorem madeE_ok {P : Program} {w : World} {H : Hp} {h : Heap} {e C t d : Addr} (z : h.get? e = some (errObj C t (some d))) : ObjOk P w H h e (madeE e C d) := ⟨⟨t, z⟩, ⟨_, z⟩, fun _ _ ⟨t', y⟩ k => ⟨t', k _ y⟩⟩
theorem newE_at {P : Program} {w : World} {H : Hp} {h : Heap} {e C : Addr} (z : ObjOk P w H h e (newE e C)) : ∃ t, h.get? e = some (errObj C t none) := z.1
theorem madeE_at {P : Program} {w : World} {H : Hp} {h : Heap} {e C d : Addr} (z : ObjOk P w H h e (madeE e C d)) : ∃ t, h.get? e = some (errObj C t (some d)) := z.1

structure BaseInit (K : Frag) (D : Addr) : Prop where
  rd : readsIn K D (.type "type") = true
  fc : findCls K (.ref D) (.type "type") "__init__" = some (.val (.builtin "ValueError.__init__"))
  ga : specialIn K (.ref D) "__getattribute__" = some (some (.builtin "type.__getattribute__"))
def tBase (K : Frag) (t : TA) : TE := fun σ H Q => t σ H fun vs H1 => ∃ e C D f y, vs = [.ref e, y] ∧ H1 e = some (newE e C) ∧ ErrC K C D f ∧ Q .non H1
section
variable {X : Cx} {K : Frag}
theorem init_base {pins : List (Addr × Obj)} {σ : St} {H : Hp} {s : Shared} {Q : VK} {e C D f : Addr} {u : Value} (I : Inv X pins σ H s) (he : H e = some (newE e C)) (Z : ErrC X.K C D f) (q : Q .non H) :
    wpAny (model X.prog X.w) X.A (call (.builtin "ValueError.__init__") [.ref e, u]) (EP X pins σ Q) X.xe s := by
  obtain ⟨N, nm, qn, bs, sn, sub, ab, col, dd, k0, k1, k2, k3, k5, mN, hC, hN, hi, T⟩ := Z.here I.kIn
  obtain ⟨t0, hx⟩ := newE_at (I.hok e _ he)
  obtain ⟨h, g, d, t, os⟩ := s
  dsimp only at hx hC hN T
  refine wpAny_call (codeAny_call_builtin errF.init.plain errF.initEntry (wpAny_check_init_subT errF T hC hx rfl ?_))
  wp_walk
  refine ⟨.non, H, ?_, rfl, q⟩
  have hx1 := Heap.get?_push_of_some (h := h) { cls := .type "tuple", data := .seq [u].toArray } hx
  have hx2 := Heap.get?_update_self (Obj.mapFields (·.setIfInBounds 0 (Value.ref h.objs.size))) hx1 rfl
  have hu : upd H e (newE e C) = H := by
    funext b
    by_cases hb : b = e
    · rw [hb, upd_same, he]
    · rw [upd_ne hb]
  have z := I.write (x := e) (e := e) (o := newE e C) (t' := t) (by rw [he]; exact True.intro) (.inl rfl) (h' := (h.push { cls := .type "tuple", data := .seq [u].toArray }).update e (Obj.mapFields (·.setIfInBounds 0 (Value.ref h.objs.size))))
    (fun b o hb hq => (Heap.get?_update_other _ _ (Ne.symm hb)).trans (Heap.get?_push_of_some _ hq)) ⟨_, hx2⟩ (newE_ok (t := h.objs.size) hx2)
  rw [hu] at z
  exact z
theorem pe_base {x : Str} {D : Addr} {np apos pos : Pos} {e : Expr} {es : List Expr} {t : TA} {pl : Sem Bool} (hg : Gl X x) (hm : X.mg x = some (.ref D)) (B : BaseInit K D) (ha : PA X (e :: es) t) (hK : X.K = K := by rfl)
    (hdb : (x == ("__debug__" : Str)) = false := by decide) (hst : starEach (e :: es) X.env = (false, eval e X.env) :: starEach es X.env := by rfl) (hpl : (backTo pos (starEach es X.env)).any (·.1) = false := by rfl)
    (ht : eval (.Call (.Attribute (.Name x np) "__init__" apos) (e :: es) [] pos) X.env = (do
      let ov ← eval (.Name x np) X.env
      standAt apos.atName
      let (f, first) ← holding [ov] (getMethod ov "__init__" pl)
      callWith pos f first (backTo pos (starEach (e :: es) X.env)) (backToKw pos (keywordEach [] X.env))) := by rfl) :
    PE X (.Call (.Attribute (.Name x np) "__init__" apos) (e :: es) [] pos) (tBase K t) := by
  subst hK
  intro pins s σ H Q I h
  refine PySem.W.methodCall_KW (pl := pl) (ld_glob I hg hm ?_ hdb) ht
  refine method_cls I.kIn B.ga (cls_value I.kIn B.rd B.fc rfl ?_)
  refine PyProof.Rows.callWith_builtin1 (thn (ha pos pins _ σ H _ (I.tok _) h) fun us s1 ⟨vs, H1, I1, r1, e1, C, D', f, y, ev, he, Z, q1⟩ => ?_) hst hpl
  subst ev
  obtain ⟨u1, u2, rfl, ru, _⟩ := vals2 r1
  cases ru
  exact init_base I1 he Z q1


def sErr (K : Frag) (ta tv : TE) (f : Str) : TS := fun D σ H => tv σ H fun y H1 => ta σ H1 fun x H2 => ∃ e C B g, x = .ref e ∧ H2 e = some (newE e C) ∧ ErrC K C B g ∧ findIn K (.ref C) f = some none ∧
  ∀ d, H2 d = none → D.nx σ (upd (upd H2 d (.xd [(f, y)])) e (madeE e C d))
theorem Inv.errd {pins : List (Addr × Obj)} {σ : St} {H : Hp} {s : Shared} {h' : Heap} {t' : Nat} {e C d : Addr} {o1 o2 : HO} (I : Inv X pins σ H s) (he : H e = some (newE e C)) (hd : s.heap.objs.size ≤ d)
    (k : ∀ b o, b ≠ e → s.heap.get? b = some o → h'.get? b = some o) (z1 : ∀ H', ObjOk X.prog X.w H' h' d o1) (z2 : ∀ H', ObjOk X.prog X.w H' h' e o2) : Inv X pins σ (upd (upd H d o1) e o2) { s with heap := h', toks := t' } := by
  have hdn : H d = none := I.hok.fresh hd
  have hde : d ≠ e := fun q => by rw [q, he] at hdn; cases hdn
  have nb : ∀ b o, s.heap.get? b = some o → b ≠ d := fun b o q => Nat.ne_of_lt (Nat.lt_of_lt_of_le (Heap.lt_size q) hd)
  have ne : ∀ b, H b = none → b ≠ e := fun b q z => by rw [z, he] at q; cases q
  have go : ∀ b u, H b = some u → u ≠ newE e C → upd (upd H d o1) e o2 b = some u := fun b u q hu => by
    have : b ≠ e := fun z => by rw [z, he] at q; cases q; exact hu rfl
    rw [upd_ne this, upd_ne (ne_of_none q hdn)]
    exact q
  have tup : ∀ b xs, H b = some (.tup xs) → upd (upd H d o1) e o2 b = some (.tup xs) := fun b xs q => go b _ q (by unfold newE; intro z; cases z)
  refine I.un ⟨fun b o q n _ _ => k b o (ne b n) q, fun b o q n _ _ => ⟨o.slots, k b o (ne b n) q⟩, fun b o q n _ => by rw [upd_ne (ne b n), upd_ne (nb b o q)]; exact n, fun b o q _ => ?_, tup, fun b o u q => go b _ q (by unfold newE; intro z; cases z),
    fun b ps q => ⟨#[], by rw [go b _ q (by unfold newE; intro z; cases z)]; simp⟩⟩ fun b u q => ?_
  · by_cases hb : b = e
    · obtain ⟨o', q'⟩ := (z2 H).ob
      exact ⟨o', by rw [hb]; exact q'⟩
    · exact ⟨o, k b o hb q⟩
  · by_cases hb : b = e
    · subst hb; rw [upd_same] at q; cases q; exact z2 _
    · rw [upd_ne hb] at q
      by_cases hb2 : b = d
      · subst hb2; rw [upd_same] at q; cases q; exact z1 _
      · rw [upd_ne hb2] at q
        refine (I.hok b u q).stay (fun c v hc z => k c v ?_ z) (fun c z => go c _ z (by unfold newE; intro z; cases z)) tup
        rintro rfl
        rcases hc with z | z
        · exact hb z.symm
        · rw [he] at z; unfold newE at z; cases z
theorem ps_err {o value : Expr} {f : Str} {pos pos' : Pos} {ta tv : TE} (ha : PE X o ta) (hv : PE X value tv) (hs : swapsWith value (some (.Attribute o f pos')) pos.line X.env = pure false) (hK : X.K = K := by rfl) : PS X (.Assign [.Attribute o f pos'] value pos) (sErr K ta tv f) := by
  subst hK
  intro pins s σ H E I h
  refine plainObj_wpAny_Assign_Attribute (thn (hv pins s σ H _ I h) fun u s1 ⟨y, H1, I1, ry, q⟩ => thn (ha pins s1 σ H1 _ I1 q) fun ov s2 ⟨x, H2, I2, rx, e, C, B, g, ex, he, Z, hf, q2⟩ => ?_) hs
  subst ex
  obtain rfl : ov = Value.ref e := rx
  obtain ⟨t0, hx⟩ := newE_at (I2.hok e _ he)
  have J : InstAt s2.heap e (errObj C t0 none) C none := ⟨hx, rfl, rfl, True.intro⟩
  obtain ⟨N, nm, qn, bs, sn, sub, ab, col, dd, k0, k1, k2, k3, k5, hl, _, _⟩ := Z.obj
  obtain ⟨cd, hc, hm, hh⟩ : ∃ cd : ClassData, clsIn X.K C = some cd ∧ cd.mro = .ref C :: .ref B :: errTail ∧ cd.hasDict = true := ⟨_, by unfold clsIn; rw [hl], rfl, rfl⟩
  refine set_plain I2.kIn J Z.sa (store_exc (s := { s2 with toks := s2.toks + 1 }) I2.kIn J hc hm hf (store_first (s := { s2 with toks := s2.toks + 1 }) I2.kIn hx rfl rfl rfl hc hh fun h' t' z1 z2 z3 => ?_))
  refine ⟨σ, _, I2.errd (t' := t') (o1 := .xd [(f, y)]) he (Nat.le_refl _) z3 (fun H' => ⟨_, z2, fun n => ?_⟩) (fun H' => madeE_ok z1), q2 _ (I2.hok.fresh (Nat.le_refl _))⟩
  by_cases hn : n = f
  · subst hn
    simp only [List.lookup_cons, beq_self_eq_true, if_true]
    exact ry
  · have : (n == f) = false := beq_eq_false_iff_ne.mpr hn
    simp only [List.lookup_cons, this, if_neg hn, List.lookup_nil]
    exact True.intro
end
end L2

set_option Elab.async false
set_option linter.all false
set_option maxRecDepth 100000
set_option maxHeartbeats 4000000

namespace L2
open PySem PySem.Spec PyProof.Rows PySem.W

def del (H : Hp) (e : Addr) : Hp := fun b => if b = e then none else H b
theorem del_ne {H : Hp} {e b : Addr} (h : b ≠ e) : del H e b = H b := if_neg h
theorem del_same {H : Hp} {e : Addr} : del H e e = none := if_pos rfl
section
variable {M : Model} {A : Around} {E : Value → Shared → Prop} {env : Env}
theorem raise_any {K : Frag} {C D f : Addr} {s : Shared} {x : Sem Value} {Q : Flow → Shared → Prop} (Z : ErrC K C D f) (hh : A.handled = none)
    (h : wpAny M A x (fun v s1 => K.In s1.heap ∧ ∃ e t dx, v = .ref e ∧ s1.heap.get? e = some (errObj C t dx) ∧ E (.ref e) s1) E s) : wpAny M A (raiseStmt env (some x) none) Q E s := by
  unfold raiseStmt
  refine wpAny_bind (wpAny_mono h (fun v s1 z => ?_) fun _ _ y => y)
  obtain ⟨X, e, t0, dx, rfl, he, hE⟩ := z
  obtain ⟨N, nm, q, bs, sn, sub, ab, col, dd, k0, k1, k2, k3, k5, mN, hC, hN, hi, T⟩ := Z.here X
  have hB : (Value.ref C :: .ref D :: bmV).contains (.type "BaseException") = true := by rw [List.contains_cons, T.hasType errF.hasBase, Bool.or_true]
  obtain ⟨hp, g, d, tk, os⟩ := s1
  dsimp only at he hC
  repeat (first | with_reducible refine wpAny_loadPart_at he ?_ | with_reducible refine wpAny_loadPart_at hC ?_ | (with_reducible refine wpAny_isSubtype_exc hC ?_; rw [hB]) | wp_step)
  exact wpAny_raiseNew_none hh hE
end
def MakesD (X : Cx) (J : XJ) : Prop := ∀ (pins : List (Addr × Obj)) (σ : St) (H : Hp) (s : Shared) (e C d : Addr), Inv X pins σ H s → X.s₀.heap.get? e = none → e ∉ frs X.stack → H e = some (madeE e C d) → J (.ref C) (some d) σ (del H e) → X.xe (.ref e) s
def tRaiseI (J : XJ) (C : Addr) (sp : Sp) (t : TA) : TS := fun _ σ H => t σ H fun vs H1 => vs.length ≤ sizeLine ∧ ∀ e, H1 e = none →
  sp (.ref e :: vs) (upd H1 e (newE e C)) (fun v H2 => v = .non ∧ ∃ d, H2 e = some (madeE e C d) ∧ J (.ref C) (some d) σ (del H2 e)) (fun _ _ _ => False)
theorem ps_raiseI {X : Cx} {J : XJ} {K : Frag} {C D f : Addr} {fd : FuncData} {ps : List Str} {k : Nat} {sp : Sp} {x : Str} {np cpos pos : Pos} {e : Expr} {es : List Expr} {t : TA} (hx : MakesD X J) (hc : X.calm = true) (hg : Gl X x) (hm : X.mg x = some (.ref C)) (Z : ErrC K C D f) (hkp : keepIn K (.ref C) = true)
    (F : FnOk X.prog X.w X.K X.mg X.base CX0 k f fd ps sp) (hb : Binds X.K fd ps []) (hr : Room (k + 1) X.A) (ha : PA X (e :: es) t) (hK : X.K = K := by rfl)
    (hdb : (x == ("__debug__" : Str)) = false := by decide) (he : starEach (e :: es) X.env = (false, eval e X.env) :: starEach es X.env := by rfl) (hpl : (backTo cpos (starEach es X.env)).any (·.1) = false := by rfl) :
    PS X (.Raise (some (.Call (.Name x np) (e :: es) [] cpos)) none pos) (tRaiseI J C sp t) := by
  subst hK
  intro pins s σ H Dn I h
  have main : wpAny (model X.prog X.w) X.A (eval (.Call (.Name x np) (e :: es) [] cpos) X.env) (fun v s1 => X.K.In s1.heap ∧ ∃ e' t' dx, v = .ref e' ∧ s1.heap.get? e' = some (errObj C t' dx) ∧ X.xe (.ref e') s1) X.xe s := by
    refine wpAny_Call_Name_kw (ld_glob I hg hm ?_ hdb)
    refine PySem.W.callWith_K (h₀ := X.base) I.ok.mod.kin hkp (thn (ha cpos pins s σ H _ I h) fun us s1 ⟨vs, H1, I1, r, hl, q⟩ => ⟨I1.kIn, ?_⟩) he hpl
    obtain ⟨h1, g1, d1, t1, os1⟩ := s1
    refine call_err I1.kIn Z (by show us.length ≤ _; rw [← r.length]; exact hl) fun h' e1 hsz hmk => ?_
    have hn : H1 e1 = none := I1.hok.fresh hsz
    obtain ⟨tt, ht, htn, ht2⟩ := hmk.there
    have I2 : Inv X pins σ (upd H1 e1 (newE e1 C)) ⟨h', g1, d1, t1, os1⟩ := I1.laid (a := e1) (h' := h') (t' := t1) hmk.keeps hsz (newE_ok ht)
    have r2 : Vals (V.ref e1 :: vs) (Value.ref e1 :: us) := .cons rfl r
    have hlen : (Value.ref e1 :: us).length = ps.length := by rw [← r2.length]; exact F.len _ _ _ _ (q e1 hn)
    have hb1 := hb ⟨h', g1, d1, t1, os1⟩ (Value.ref e1 :: us) I2.kIn (by rw [List.append_nil]; exact hlen)
    rw [List.append_nil] at hb1
    refine wpAny_call (codeAny_mono (F.run _ X.stack _ _ ⟨Value.ref e1 :: us, []⟩ (Value.ref e1 :: us) _ _ _ (hr.make C us []) (I2.env0.make C us []) hb1 r2 (q e1 hn)) fun rr s' hq => ?_)
    cases rr with
    | error u => exact False.elim hq
    | ok fl =>
      cases fl with
      | ret u =>
        obtain ⟨v, H3, I3, rv, ev, dd, hm3, hj⟩ := I2.after hq
        subst ev
        refine ⟨rv, I3.kIn, e1, ?_⟩
        obtain ⟨t3, h3⟩ := madeE_at (I3.hok e1 _ hm3)
        have hs0 : X.s₀.heap.get? e1 = none := by
          cases z : X.s₀.heap.get? e1 with
          | none => rfl
          | some o => exact absurd (Nat.lt_of_lt_of_le (Heap.lt_size z) (Nat.le_trans I1.sz hsz)) (Nat.lt_irrefl _)
        have hst : e1 ∉ frs X.stack := fun z => by
          have := I3.stkFree e1 z
          rw [hm3] at this
          cases this
        exact ⟨_, _, rfl, h3, hx pins σ H3 s' e1 C dd I3 hs0 hst hm3 hj⟩
      | next => exact False.elim hq
      | brk => exact False.elim hq
      | cont => exact False.elim hq
  rw [arm_exec_Raise]
  refine wpAny_bind (wpAny_standAt (raise_any Z (I.ok.hd hc) ?_))
  exact wpAny_bind (wpAny_mono main (fun v s3 z => wpAny_bind (wpAny_standAt (wpAny_pure z))) fun _ _ y => y)


structure HasE (P : Program) (w : World) (K : Frag) (mg : Str → Option Value) (base : Heap) (C D : Addr) (ps : List Str) (k : Nat) (sp : Sp) : Prop where
  ex : ∃ (f : Addr) (fd : FuncData), ErrC K C D f ∧ keepIn K (.ref C) = true ∧ Binds K fd ps [] ∧ FnOk P w K mg base CX0 k f fd ps sp
theorem ps_raiseH {X : Cx} {J : XJ} {C D : Addr} {ps : List Str} {j k : Nat} {sp : Sp} {x : Str} {np cpos pos : Pos} {e : Expr} {es : List Expr} {t : TA} (hx : MakesD X J) (hc : X.calm = true) (h : HasE X.prog X.w X.K X.mg X.base C D ps j sp) (hr : Room k X.A) (hg : Gl X x) (hm : X.mg x = some (.ref C)) (ha : PA X (e :: es) t)
    (hk : j + 1 ≤ k := by decide) (hdb : (x == ("__debug__" : Str)) = false := by decide) (he : starEach (e :: es) X.env = (false, eval e X.env) :: starEach es X.env := by rfl) (hpl : (backTo cpos (starEach es X.env)).any (·.1) = false := by rfl) :
    PS X (.Raise (some (.Call (.Name x np) (e :: es) [] cpos)) none pos) (tRaiseI J C sp t) := by
  obtain ⟨f, fd, Z, kp, hb, F⟩ := h.ex
  exact ps_raiseI hx hc hg hm Z kp F hb (hr.mono hk) ha rfl hdb he hpl

section
variable {P : Program} {w : World} {K : PySem.W.Frag} {mg : Str → Option Value} {base : Heap} {N : List Str} {qual : Str} {scope : Scope} {f : Addr} {cd : Value} {A : Around} {outer : List Env} {s : Shared} {H : Hp} {E : XK}
theorem makesD_def : MakesD (cxOf (CX1 P w) P w K mg base N qual scope f cd A outer s H E) (fun cls dx _ H' => E cls dx H') := by
  intro pins σ H1 s1 e C d I hs0 hst he hj
  have hs0' : s.heap.get? e = none := hs0
  have fin : ∀ env ∈ (envOfC qual scope s.heap.objs.size f cd :: outer), ∀ b, env.frame = some b → b ∈ e :: frs (envOfC qual scope s.heap.objs.size f cd :: outer) := fun env hv b hb => List.mem_cons_of_mem _ (List.mem_filterMap.mpr ⟨env, hv, hb⟩)
  have old : ∀ b o, s.heap.get? b = some o → b ∉ frs outer → b ∉ e :: frs (envOfC qual scope s.heap.objs.size f cd :: outer) := fun b o e1 hb z => by
    rcases List.mem_cons.mp z with y | y
    · rw [y, hs0'] at e1; cases e1
    rw [frs_def] at y
    rcases List.mem_cons.mp y with y | y
    · exact absurd (Heap.lt_size e1) (by rw [y]; exact Nat.lt_irrefl _)
    · exact hb y
  have nx : ∀ b : Addr, b ∉ ([] : List Addr) := fun b => by simp
  have fr1 : ∀ b ∈ frs (envOfC qual scope s.heap.objs.size f cd :: outer), H1 b = none := I.stkFree
  obtain ⟨t0, hx⟩ := madeE_at (I.hok e _ he)
  have ne : ∀ b u, H1 b = some u → u ≠ madeE e C d → del H1 e b = some u := fun b u q hu => by
    have : b ≠ e := fun z => by rw [z, he] at q; cases q; exact hu rfl
    rw [del_ne this]; exact q
  show wpAny (model P w) (A.deeper (envOfC qual scope s.heap.objs.size f cd)) (leaving (envOfC qual scope s.heap.objs.size f cd) (.ref e)) _ _ s1
  have dE : ErrD e (some d) s1.heap := ⟨_, hx, rfl⟩
  have hin : PySem.W.hideAll s1.heap (e :: frs (envOfC qual scope s.heap.objs.size f cd :: outer)) |>.StaysIn s1.heap := fun b o q => PySem.W.of_hideAll _ q
  have hen : (PySem.W.hideAll s1.heap (e :: frs (envOfC qual scope s.heap.objs.size f cd :: outer))).get? e = none := PySem.W.hideAll_none _ (List.mem_cons_self ..)
  refine wpAny_mono (wpAny_keepsD (kd_leaving _ _) (wpAny_leaving_firstW (E := fun _ _ => False) (Q := fun _ s2 => ∃ h2, s2 = { s1 with heap := h2 } ∧ Heap.LeftW (PySem.W.hideAll s1.heap (e :: frs (envOfC qual scope s.heap.objs.size f cd :: outer))) (envOfC qual scope s.heap.objs.size f cd :: outer) e (.ref C) (.ref t0) s1.heap h2)
    (L := s.heap.objs.size) I.ok.frames (PySem.W.funFrames_hide I.stack fin) rfl hx hin hen rfl rfl rfl fun h2 x => ⟨h2, rfl, x⟩)) (fun _ s2 ⟨⟨h2, e2, x⟩, kd⟩ => ?_) (fun _ _ z => z.1.elim)
  subst e2
  obtain ⟨x1, ⟨_, _, x2⟩, x3, x4⟩ := x
  refine ⟨e, .ref C, .ref t0, _, del H1 e, some d, rfl, I.os, I.bare, ⟨fun b o e1 n hb => ?_, fun b o e1 n hb => ?_, fun b o e1 n => ?_, fun b o e1 hb => ?_, fun b xs y => ne b _ (I.base.tups b xs y) (by unfold madeE; intro z; cases z), fun b o u y => ne b _ (I.base.frzs b o u y) (by unfold madeE; intro z; cases z), fun b ps y => ?_⟩, ?_, ⟨x1, hen, x2, x3⟩, dE.go kd, hj⟩
  · exact PySem.W.hideAll_get _ (I.base.keep b o e1 n hb (nx b)) (old b o e1 hb)
  · obtain ⟨z, e2⟩ := I.base.slot b o e1 n hb (nx b)
    obtain ⟨_, o', e3, hd⟩ := I.ok.funs.mem hb
    have e3' : s.heap.get? b = some o' := e3
    rw [e1] at e3'
    cases e3'
    obtain ⟨z2, e4⟩ := x4 b _ e2 hd
    exact ⟨z2, e4⟩
  · have : b ≠ e := fun z => by rw [z, hs0'] at e1; cases e1
    rw [del_ne this]
    exact I.base.free b o e1 n (nx b)
  · obtain ⟨o', e2⟩ := I.base.there b o e1 (nx b)
    exact ⟨o', PySem.W.hideAll_get _ e2 (old b o e1 hb)⟩
  · obtain ⟨m1, y1⟩ := I.base.tbls b ps y
    exact ⟨m1, ne b _ y1 (by unfold madeE; intro z; cases z)⟩
  · intro a u y
    have ha : a ≠ e := fun z => by rw [z, del_same] at y; cases y
    rw [del_ne ha] at y
    refine (I.hok a u y).stay (fun b v hb q => PySem.W.hideAll_get _ q fun hm => ?_) (fun b q => ne b _ q (by unfold madeE; intro z; cases z)) fun b xs q => ne b _ q (by unfold madeE; intro z; cases z)
    rcases List.mem_cons.mp hm with hm | hm
    · rcases hb with rfl | hb
      · exact ha hm
      · rw [hm, he] at hb; unfold madeE at hb; cases hb
    · have z := fr1 b hm
      rcases hb with rfl | hb
      · rw [y] at z; cases z
      · rw [hb] at z; cases z
end
end L2

set_option Elab.async false
set_option linter.all false
set_option maxRecDepth 100000
set_option maxHeartbeats 4000000

namespace L2
open PySem PySem.Spec PyProof.Rows PySem.W

structure ErrA (K : Frag) (C : Addr) (name : Str) : Prop where
  no : findIn K (.ref C) name = some none
  cd : ∃ cd, clsIn K C = some cd ∧ cd.hasDict = true
theorem ErrC.attr {K : Frag} {C D f : Addr} {name : Str} (Z : ErrC K C D f) (n : findIn K (.ref C) name = some none) : ErrA K C name := by
  obtain ⟨N, nm, qn, bs, sn, sub, ab, col, dd, k0, k1, k2, k3, k5, hl, _, _⟩ := Z.obj
  exact ⟨n, _, by unfold clsIn; rw [hl], rfl⟩
section
variable {prog : Program} {w : World} {A : Around} {E : Value → Shared → Prop} {h : Heap} {g : Array GenState} {d : Drawn} {t : Nat} {os : OsState} {a C dx : Addr} {o : Obj} {K : Frag} {mA : Str → Option Value} {v : Value} {name : Str}
theorem xat_call {tk : Tok} {R : Result → Shared → Prop} (X : K.In h) (Z : ExcC K C) (Y : ErrA K C name) (hx : h.get? a = some o) (hc : o.cls = .ref C) (hd : o.dict = some dx) {vs : Array Value} (hdat : o.data = .fields vs) (hn : h.Ns dx mA) (hv : mA name = some v) (hq : R (.ok (.ret v)) ⟨h, g, d, t, os⟩) :
    codeAny (model prog w) A (.call (.builtin "BaseException.__getattribute__") ⟨[.ref a, .str name tk], []⟩) R ⟨h, g, d, t, os⟩ := by
  obtain ⟨cd, hcd, hh⟩ := Y.cd
  exact codeAny_call_builtin F.attr_ValueError.ga.plain F.entry_bexc_ga (xcls_check X Z hx hc (xat_entry X Y.no hcd hh hx hc hd hdat hn hv hq))
theorem xat_by {tk : Tok} {fill expr : Bool} {Q : Value → Shared → Prop} (X : K.In h) (Z : ExcC K C) (Y : ErrA K C name) (hx : h.get? a = some o) (hc : o.cls = .ref C) (hd : o.dict = some dx) {vs : Array Value} (hdat : o.data = .fields vs) (hn : h.Ns dx mA) (hv : mA name = some v)
    (hh : handedIn v = true) (hq : Q v ⟨h, g, d, t, os⟩) : wpAny (model prog w) A (getAttrBy (.ref a) (.str name tk) fill expr) Q E ⟨h, g, d, t, os⟩ := by
  have f3 := F.attr_ValueError.ga.bind (.ref a)
  have hx0 : (expr && onTheHeap (Value.builtin "BaseException.__getattribute__")) = false := by cases expr <;> rfl
  have hx2 : (Value.builtin "BaseException.__getattribute__" == Value.builtin "object.__getattribute__") = false := by decide +kernel
  have hx1 : (onTheHeap (Value.ref C) && Value.builtin "BaseException.__getattribute__" == Value.builtin "object.__getattribute__") = false := by rw [hx2]; rfl
  have L1 : Looks (model prog w) h (typeLookup (.ref C) "__getattribute__") (some (.builtin "BaseException.__getattribute__")) := looks_findIn X Z.ga
  have L2' : Looks (model prog w) h (typeLookup (.ref C) "__getattr__") none := looks_findIn X Z.gt
  repeat (any_goals (first | assumption | (with_reducible refine wpAny_loadPart_at hx ?_; rw [hc]) | with_reducible refine L1.at ?_ | with_reducible refine L2'.at ?_ | wp_step))
  refine xat_call X Z Y hx hc hd hdat hn hv ?_
  repeat (any_goals (first | assumption | with_reducible refine handed_on hh ?_ | wp_step))
theorem xat_attr {expr : Bool} {Q : Value → Shared → Prop} (X : K.In h) (Z : ExcC K C) (Y : ErrA K C name) (hx : h.get? a = some o) (hc : o.cls = .ref C) (hd : o.dict = some dx) {vs : Array Value} (hdat : o.data = .fields vs) (hn : h.Ns dx mA) (hv : mA name = some v)
    (hh : handedIn v = true) (hq : Q v ⟨h, g, d, t + 1, os⟩) : wpAny (model prog w) A (getAttr (.ref a) name expr) Q E ⟨h, g, d, t, os⟩ := by
  unfold getAttr
  repeat (any_goals (first | assumption | with_reducible apply xat_by X Z Y hx hc hd hdat hn hv hh | wp_step))
end
def tErrAt (K : Frag) (ta : TE) (f : Str) : TE := fun σ H Q => ta σ H fun x H1 => ∃ e C d fs v, x = .ref e ∧ H1 e = some (excX e (.ref C) (some d)) ∧ ExcC K C ∧ ErrA K C f ∧ H1 d = some (.xd fs) ∧ fs.lookup f = some v ∧ Q v H1
section
variable {X : Cx} {K : Frag}
theorem pe_errAt {e : Expr} {f : Str} {pos : Pos} {ta : TE} (he : PE X e ta) (hb : attributeBase e f X.env (eval e X.env) = eval e X.env := by rfl) (hK : X.K = K := by rfl) : PE X (.Attribute e f pos) (tErrAt K ta f) := by
  subst hK
  intro pins s σ H Q I h
  refine attr_of hb (thn (he pins s σ H _ I h) fun u s1 ⟨x, H1, I1, rx, a, C, d, fs, v, ex, ea, Z, Y, hd, hl, q⟩ => ?_)
  subst ex
  obtain rfl : u = Value.ref a := rx
  obtain ⟨⟨o, vs, e1, c1, d1, d2⟩, _⟩ := I1.hok a _ ea
  obtain ⟨mA, hn, hr⟩ := I1.hok d _ hd
  obtain ⟨u, hu, ru⟩ := RelO.some_of (v := v) (o := mA f) (by rw [← hl]; exact hr f)
  obtain ⟨h1, g1, dd1, t1, os1⟩ := s1
  exact xat_attr I1.kIn Z Y e1 c1 d2 d1 hn.ns hu (handed_of ru) ⟨v, H1, I1.tok _, ru, q⟩

theorem kcall_isiD (hK : X.K = K := by rfl) : CallR X (.builtin "isinstance") (fun xs H Q => ∃ (e C d : Addr) (y : V) (c : Value) (b : Bool), xs = [.ref e, y] ∧ RelV y c ∧ (∀ u, RelV y u → u = c) ∧ H e = some (excX e (.ref C) (some d)) ∧ ExcC K C ∧ kitOne K (.ref C) c = some b ∧ Q (.bl b) H) := by
  subst hK
  intro pins s σ H xs us Q I r h
  obtain ⟨e, C, d, y, c, b, rfl, _, hy, hH, Z, kk, q⟩ := h
  obtain ⟨u, v, rfl, rx, rt⟩ := vals2 r
  cases rx
  cases hy v rt
  have ho := I.hok e _ hH
  obtain ⟨⟨o, vs, e1, c1, _⟩, _⟩ := ho
  exact kia_one (kitx_exc Z) I.kIn ⟨o, e1, c1⟩ kk (fun z => nomatch z) fun tk => ⟨.bl b, H, I.tok tk, rfl, q⟩
end
end L2

set_option Elab.async false
set_option linter.all false
set_option maxRecDepth 100000
set_option maxHeartbeats 4000000

namespace L2
open PySem PySem.Spec PyProof.Rows
def intOf : Expr → Option Int
  | .Constant (.int i) _ _ => some i
  | _ => none
def intsOf : List Expr → Option (List Int)
  | [] => some []
  | e :: es => match intOf e, intsOf es with
    | some i, some is => some (i :: is)
    | _, _ => none
def tInts (ns : List Int) : TA := fun _ H Q => Q (ns.map V.int) H
end L2
namespace L2
open PySem PySem.Spec PyProof.Rows

structure PAw (X : Cx) (es : List Expr) (t : TA) : Prop where
  h : PA X es t
theorem paw_nil {X : Cx} : PAw X [] tNil := ⟨pa_nil⟩
theorem paw_cons {X : Cx} {e : Expr} {es : List Expr} {te : TE} {t : TA} (ha : PE X e te) (hr : PAw X es t) (hs : starEach (e :: es) X.env = (false, eval e X.env) :: starEach es X.env := by rfl) : PAw X (e :: es) (tCons te t) := ⟨pa_cons ha hr.h hs⟩
theorem pss_retT {X : Cx} {K : PySem.W.Frag} {c sl : Expr} {es : List Expr} {k : Nat} {p q r z : Pos} {rest : List Stmt} {tc : TT} {ta : TA} {tsl : TE} {tr : TS} (hc : PT X c tc) (ha : PAw X es ta) (hsl : PE X sl tsl) (hpi : PlainIx sl) (hr : PSs X rest tr) (hK : X.K = K := by rfl) :
    PSs X (.If c [.Return (some (.Subscript (.Tuple es k p) sl q)) r] [] z :: rest) (tSeq (tIfS tc (tRet (tOp (rIxT K) (tTup ta) tsl)) tNext) tr) := by
  subst hK
  exact pss_cons (ps_if hc (pss_one (ps_ret (pe_ix kix_tup (pe_tup ha.h) hsl hpi))) pss_nil) hr
end L2

set_option Elab.async false
set_option linter.all false
set_option maxRecDepth 100000
set_option maxHeartbeats 4000000
namespace L2
open PySem PySem.Spec PyProof.Rows

structure PEw (X : Cx) (e : Expr) (t : TE) : Prop where
  h : PE X e t
end L2

set_option Elab.async false
set_option linter.all false
set_option maxRecDepth 100000
namespace L2
open PySem PySem.Spec PyProof.Rows


section
variable {κ : Type} [DecidableEq κ]
def valV (kvs : List (κ × V)) (k : κ) : Option V := (kvs.find? fun kv => decide (kv.1 = k)).map (·.2)

def putK (kvs : List (κ × V)) (k : κ) (v : V) : List (κ × V) :=
  if (kvs.any fun kv => decide (kv.1 = k)) = true then kvs.map (fun kv => if kv.1 = k then (kv.1, v) else kv) else kvs ++ [(k, v)]
def dropK (kvs : List (κ × V)) (k : κ) : List (κ × V) := kvs.filter fun kv => decide (kv.1 ≠ k)

theorem valV_pos {p : κ × V} {r : List (κ × V)} {k : κ} (e : p.1 = k) : valV (p :: r) k = some p.2 := by simp [valV, List.find?_cons, e]
theorem valV_neg {p : κ × V} {r : List (κ × V)} {k : κ} (e : ¬ p.1 = k) : valV (p :: r) k = valV r k := by simp [valV, List.find?_cons, e]
theorem valV_any (k : κ) : ∀ kvs : List (κ × V), (kvs.any fun kv => decide (kv.1 = k)) = (valV kvs k).isSome
  | [] => rfl
  | p :: r => by
    rw [List.any_cons]
    by_cases e : p.1 = k
    · simp only [valV_pos e, decide_eq_true e, Bool.true_or, Option.isSome_some]
    · rw [valV_neg e, decide_eq_false e, Bool.false_or]; exact valV_any k r
theorem RelO.isSome_eq {o : Option V} {u : Option Value} (r : RelO o u) : o.isSome = u.isSome := by
  cases o with
  | none => cases u with
    | none => rfl
    | some _ => exact (show False from r).elim
  | some _ => cases u with
    | none => exact (show False from r).elim
    | some _ => rfl
theorem RelO.getD {o : Option V} {u : Option Value} {d : V} {d' : Value} (r : RelO o u) (rd : RelV d d') : RelV (o.getD d) (u.getD d') := by
  cases o with
  | none => cases u with
    | none => exact rd
    | some _ => exact (show False from r).elim
  | some _ => cases u with
    | none => exact (show False from r).elim
    | some _ => exact r


theorem KV.val {kvs : List (κ × V)} {vs : List (κ × Value)} (r : KV kvs vs) (k : κ) : RelO (valV kvs k) (valueAt vs k) := by
  unfold KV at r
  induction r with
  | nil => exact True.intro
  | @cons p q ps qs h t ih =>
    obtain ⟨h1, h2⟩ := h
    by_cases e : p.1 = k
    · have e' : q.1 = k := h1.symm.trans e
      have b : valueAt (q :: qs) k = some q.2 := by simp [valueAt, List.find?_cons, e']
      rw [valV_pos e, b]; exact h2
    · have e' : ¬ q.1 = k := fun z => e (h1.trans z)
      have b : valueAt (q :: qs) k = valueAt qs k := by simp [valueAt, List.find?_cons, e']
      rw [valV_neg e, b]; exact ih
theorem KV.any {kvs : List (κ × V)} {vs : List (κ × Value)} (r : KV kvs vs) (k : κ) : (kvs.any fun kv => decide (kv.1 = k)) = vs.any fun kv => decide (kv.1 = k) := by
  unfold KV at r
  induction r with
  | nil => rfl
  | cons h t ih => rw [List.any_cons, List.any_cons, ih, h.1]
theorem KV.repl {kvs : List (κ × V)} {vs : List (κ × Value)} (r : KV kvs vs) (k : κ) {y : V} {u : Value} (ry : RelV y u) :
    KV (kvs.map fun kv => if kv.1 = k then (kv.1, y) else kv) (vs.map fun kv => if kv.1 = k then (kv.1, u) else kv) := by
  unfold KV at r ⊢
  induction r with
  | nil => exact .nil
  | @cons p q ps qs h t ih =>
    rw [List.map_cons, List.map_cons]
    refine .cons ?_ ih
    obtain ⟨h1, h2⟩ := h
    by_cases e : p.1 = k
    · rw [if_pos e, if_pos (h1.symm.trans e)]; exact ⟨h1, ry⟩
    · rw [if_neg e, if_neg (fun z => e (h1.trans z))]; exact ⟨h1, h2⟩
theorem KV.put {kvs : List (κ × V)} {vs : List (κ × Value)} (r : KV kvs vs) (k : κ) {y : V} {u : Value} (ry : RelV y u) : KV (putK kvs k y) (stored vs k u) := by
  unfold putK stored
  rw [r.any k]
  by_cases e : (vs.any fun kv => decide (kv.1 = k)) = true
  · rw [if_pos e, if_pos e]; exact r.repl k ry
  · rw [if_neg e, if_neg e]; exact Paired.snoc r ⟨rfl, ry⟩
theorem KV.drop {kvs : List (κ × V)} {vs : List (κ × Value)} (r : KV kvs vs) (k : κ) : KV (dropK kvs k) (without vs k) := by
  unfold KV at r ⊢
  unfold dropK without
  induction r with
  | nil => exact .nil
  | @cons p q ps qs h t ih =>
    obtain ⟨h1, h2⟩ := h
    rw [List.filter_cons, List.filter_cons]
    by_cases e : p.1 = k
    · have a : ¬ decide (p.1 ≠ k) = true := by simp [e]
      have b : ¬ decide (q.1 ≠ k) = true := by simp [h1.symm.trans e]
      rw [if_neg a, if_neg b]; exact ih
    · have e' : ¬ q.1 = k := fun z => e (h1.trans z)
      have a : decide (p.1 ≠ k) = true := by simp [e]
      have b : decide (q.1 ≠ k) = true := by simp [e']
      rw [if_pos a, if_pos b]; exact .cons ⟨h1, h2⟩ ih
theorem KV.keys {kvs : List (κ × V)} {vs : List (κ × Value)} (r : KV kvs vs) : kvs.map (·.1) = vs.map (·.1) := by
  unfold KV at r
  induction r with
  | nil => rfl
  | cons h t ih => rw [List.map_cons, List.map_cons, ih, h.1]
theorem KV.length {kvs : List (κ × V)} {vs : List (κ × Value)} (r : KV kvs vs) : kvs.length = vs.length := Paired.length r
end



abbrev KT (H : Hp) : List (List Key × V) → List (List Key × Addr × Value) → Prop := Paired fun p q => p.1 = q.1 ∧ H q.2.1 = some (.tup (p.1.map kV)) ∧ RelV p.2 q.2.2
theorem KT.val {H : Hp} {kvs : List (List Key × V)} {xs : List (List Key × Addr × Value)} (r : KT H kvs xs) (k : List Key) : RelO (valV kvs k) ((atKey xs k).map (·.2)) := by
  induction r with
  | nil => exact True.intro
  | @cons p q ps qs h t ih =>
    obtain ⟨h1, _, h2⟩ := h
    by_cases e : p.1 = k
    · have e' : q.1 = k := h1.symm.trans e
      have b : atKey (q :: qs) k = some q.2 := by simp [atKey, List.find?_cons, e']
      rw [valV_pos e, b]; exact h2
    · have e' : ¬ q.1 = k := fun z => e (h1.trans z)
      have b : atKey (q :: qs) k = atKey qs k := by simp [atKey, List.find?_cons, e']
      rw [valV_neg e, b]; exact ih
theorem KT.repl {H : Hp} {kvs : List (List Key × V)} {xs : List (List Key × Addr × Value)} (r : KT H kvs xs) (k : List Key) {y : V} {u : Value} (ry : RelV y u) :
    KT H (kvs.map fun kv => if kv.1 = k then (kv.1, y) else kv) (xs.map (putAt k u)) := by
  induction r with
  | nil => exact .nil
  | @cons p q ps qs h t ih =>
    rw [List.map_cons, List.map_cons]
    refine .cons ?_ ih
    obtain ⟨h1, h2, h3⟩ := h
    unfold putAt
    by_cases e : p.1 = k
    · rw [if_pos e, if_pos (h1.symm.trans e)]; exact ⟨h1, h2, ry⟩
    · rw [if_neg e, if_neg (fun z => e (h1.trans z))]; exact ⟨h1, h2, h3⟩
theorem KT.put {H : Hp} {kvs : List (List Key × V)} {xs : List (List Key × Addr × Value)} (r : KT H kvs xs) (k : List Key) {b : Addr} {y : V} {u : Value} (hb : H b = some (.tup (k.map kV))) (ry : RelV y u) :
    KT H (putK kvs k y) (storedH xs k b u) := by
  have e : (kvs.any fun kv => decide (kv.1 = k)) = (atKey xs k).isSome := by
    rw [valV_any, (r.val k).isSome_eq, Option.isSome_map]
  unfold putK storedH
  rw [e]
  by_cases q : (atKey xs k).isSome = true
  · rw [if_pos q, if_pos q]; exact r.repl k ry
  · rw [if_neg q, if_neg q]; exact Paired.snoc r ⟨rfl, hb, ry⟩
theorem KT.keeps {H H' : Hp} {kvs : List (List Key × V)} {xs : List (List Key × Addr × Value)} (r : KT H kvs xs) (ht : ∀ b ys, H b = some (.tup ys) → H' b = some (.tup ys)) : KT H' kvs xs :=
  Paired.mapP r fun _ _ z => ⟨z.1, ht _ _ z.2.1, z.2.2⟩

section
variable {P : Program} {w : World} {H : Hp} {h : Heap} {a : Addr}
theorem rd_of {u : HO} (ok : HOk P w H h) (e : Rd H a u) : ObjOk P w H h a u := e.ok ok
theorem dk_rd {kvs : List (Key × V)} (ok : HOk P w H h) (e : Rd H a (.dK kvs)) : kvs.length ≤ sizeLine ∧ (a == sysModules) = false ∧ ∃ vs, KV kvs vs ∧ h.DictOf (mixKind P w) a vs :=
  show ObjOk P w H h a (.dK kvs) from rd_of ok e
end


def DGet (H : Hp) (a : Addr) (y : V) (r : Option V) : Prop :=
  (∃ kvs k, Rd H a (.dK kvs) ∧ y = kV k ∧ r = valV kvs k) ∨ ∃ kvs k b, Rd H a (.dT kvs) ∧ y = .ref b ∧ H b = some (.tup (k.map kV)) ∧ r = valV kvs k

def DPut (H : Hp) (a : Addr) (y v : V) (H' : Hp) : Prop :=
  (∃ kvs k, H a = some (.dK kvs) ∧ y = kV k ∧ kvs.length < sizeLine ∧ H' = upd H a (.dK (putK kvs k v))) ∨
  ∃ kvs k b, H a = some (.dT kvs) ∧ y = .ref b ∧ H b = some (.tup (k.map kV)) ∧ kvs.length < sizeLine ∧ H' = upd H a (.dT (putK kvs k v))
theorem DGet.k {H : Hp} {a : Addr} {kvs : List (Key × V)} {k : Key} (e : H a = some (.dK kvs)) : DGet H a (kV k) (valV kvs k) := .inl ⟨kvs, k, .inl e, rfl, rfl⟩
theorem DGet.t {H : Hp} {a b : Addr} {kvs : List (List Key × V)} {k : List Key} (e : H a = some (.dT kvs)) (eb : H b = some (.tup (k.map kV))) : DGet H a (.ref b) (valV kvs k) := .inr ⟨kvs, k, b, .inl e, rfl, eb, rfl⟩
theorem DPut.k {H : Hp} {a : Addr} {kvs : List (Key × V)} {k : Key} {v : V} (e : H a = some (.dK kvs)) (hl : kvs.length < sizeLine) : DPut H a (kV k) v (upd H a (.dK (putK kvs k v))) := .inl ⟨kvs, k, e, rfl, hl, rfl⟩
theorem DPut.t {H : Hp} {a b : Addr} {kvs : List (List Key × V)} {k : List Key} {v : V} (e : H a = some (.dT kvs)) (eb : H b = some (.tup (k.map kV))) (hl : kvs.length < sizeLine) :
    DPut H a (.ref b) v (upd H a (.dT (putK kvs k v))) := .inr ⟨kvs, k, b, e, rfl, eb, hl, rfl⟩


section
variable {X : Cx} {pins : List (Addr × Obj)} {σ : St} {H : Hp} {s : Shared} {a : Addr} {y v : V} {u r : Value} {o : Option V} {A : Around} {E : Value → Shared → Prop}

theorem Inv.big (I : Inv X pins σ H s) : sysModules < s.heap.objs.size := by
  have h : mainGlobals < s.heap.objs.size := (I.mod.glob.keeps I.bk).lt
  exact Nat.lt_trans (by decide) h


end

section
variable {X : Cx} {pins : List (Addr × Obj)} {σ : St} {H : Hp} {s : Shared} {a : Addr} {kvs : List (Key × V)} {k : Key} {u : Value} {A : Around} {E : Value → Shared → Prop}

end




def NoSl (i : Expr) : Prop := ∀ ov iv, subscripted i false ov iv = operate [ov, iv] (getItem ov iv)
def tDGet (td ty : TE) : TE := fun σ H Q => td σ H fun x H1 => ty σ H1 fun y H2 => ∃ a v, x = .ref a ∧ DGet H2 a y (some v) ∧ Q v H2

def tDIn (ty td : TE) : TE := fun σ H Q => ty σ H fun y H1 => td σ H1 fun x H2 => ∃ a o, x = .ref a ∧ DGet H2 a y o ∧ Q (.bl o.isSome) H2
def tDNotIn (ty td : TE) : TE := fun σ H Q => ty σ H fun y H1 => td σ H1 fun x H2 => ∃ a o, x = .ref a ∧ DGet H2 a y o ∧ Q (.bl (!o.isSome)) H2

def sDPut (td ty tv : TE) : TS := fun D σ H => tv σ H fun v H1 => td σ H1 fun x H2 => ty σ H2 fun y H3 => ∃ a H4, x = .ref a ∧ DPut H3 a y v H4 ∧ D.nx σ H4

def sDAug (td ty tv : TE) (rd : V → V → Hp → VK → Prop) : TS := fun D σ H => td σ H fun x H1 => ty σ H1 fun y H2 => ∃ a v, x = .ref a ∧ DGet H2 a y (some v) ∧
  tv σ H2 fun y2 H3 => rd v y2 H3 fun z H4 => ∃ H5, DPut H4 a y z H5 ∧ D.nx σ H5

def sDDel (td ty : TE) : TS := fun D σ H => td σ H fun x H1 => ty σ H1 fun y H2 => ∃ a kvs k, x = .ref a ∧ H2 a = some (.dK kvs) ∧ y = kV k ∧ (valV kvs k).isSome = true ∧ D.nx σ (upd H2 a (.dK (dropK kvs k)))

section
variable {X : Cx} {o i e value : Expr} {pos pos' tpos : Pos} {td ty tv : TE}
end



theorem dk_empty {P : Program} {w : World} {H : Hp} (h : Heap) (hb : sysModules < h.objs.size) : ObjOk P w H (h.push { cls := .type "dict", data := .dict #[] }) h.objs.size (.dK []) :=
  ⟨Nat.zero_le _, beq_eq_false_iff_ne.mpr (Ne.symm (Nat.ne_of_lt hb)), [], .nil, Heap.DictOf.new h⟩
def tDNewK : TE := fun _ H Q => ∀ p, H p = none → Q (.ref p) (upd H p (.dK []))
def tDNewT : TE := fun _ H Q => ∀ p, H p = none → Q (.ref p) (upd H p (.dT []))
section
variable {X : Cx} {pos : Pos}
theorem pe_dnewK : PE X (.Dict [] [] pos) tDNewK := fun pins s σ H Q I h =>
  wpAny_Dict_empty ⟨.ref s.heap.objs.size, _, I.laid (a := s.heap.objs.size) (o := .dK []) (t' := s.toks) (fun _ _ q => Heap.get?_push_of_some _ q) (Nat.le_refl _) (dk_empty s.heap I.big), rfl, h _ (I.hok.fresh (Nat.le_refl _))⟩
end


def tPairs : List (TE × TE) → St → Hp → (List (V × V) → Hp → Prop) → Prop
  | [], _, H, Q => Q [] H
  | (tk, tv) :: r, σ, H, Q => tk σ H fun x H1 => tv σ H1 fun y H2 => tPairs r σ H2 fun ps H3 => Q ((x, y) :: ps) H3
abbrev VV : List (V × V) → List (Value × Value) → Prop := Paired fun p q => RelV p.1 q.1 ∧ RelV p.2 q.2
def PPs (X : Cx) (pos : Pos) (keys : List (Option Expr)) (values : List Expr) (trs : List (TE × TE)) : Prop :=
  ∀ (pins : List (Addr × Obj)) (s : Shared) (σ : St) (H : Hp) (Q : List (V × V) → Hp → Prop), Inv X pins σ H s → tPairs trs σ H Q →
    wpAny (model X.prog X.w) X.A (evalPairs (pairTrees keys values X.env pos)) (fun vs s' => ∃ ps H', Inv X pins σ H' s' ∧ VV ps vs ∧ Q ps H') X.xe s
def mergeK (kvs more : List (Key × V)) : List (Key × V) := more.foldl (fun acc kv => putK acc kv.1 kv.2) kvs
def tDisp (trs : List (TE × TE)) : TE := fun σ H Q => ∀ p, H p = none → tPairs trs σ (upd H p (.dK [])) fun ps H2 => H2 p = some (.dK []) ∧ ∃ kvs : List (Key × V), ps = kvs.map (fun kv => (kV kv.1, kv.2)) ∧ kvs.length ≤ 15 ∧ Q (.ref p) (upd H2 p (.dK (mergeK [] kvs)))
structure M1 (X : Cx) (o : Expr) (m : Str) (apos : Pos) (e : Expr) (cpos : Pos) : Prop where
  base : attributeBase o m X.env (eval o X.env) = eval o X.env
  few : ((backTo cpos (starEach [e] X.env)).all (fun x => !x.1) && (backToKw cpos (keywordEach [] X.env)).all (fun x => x.1.isSome)
    && decide (([e] : List Expr).length + ([] : List Keyword).length + (if ([] : List Keyword).isEmpty then 0 else 1) < 30)) = true
  line : (apos.endLine == cpos.line) = true
  trees : backTo cpos (starEach [e] X.env) = [(false, eval e X.env)]
structure M2 (X : Cx) (o : Expr) (m : Str) (apos : Pos) (e f : Expr) (cpos : Pos) : Prop where
  base : attributeBase o m X.env (eval o X.env) = eval o X.env
  few : ((backTo cpos (starEach [e, f] X.env)).all (fun x => !x.1) && (backToKw cpos (keywordEach [] X.env)).all (fun x => x.1.isSome)
    && decide (([e, f] : List Expr).length + ([] : List Keyword).length + (if ([] : List Keyword).isEmpty then 0 else 1) < 30)) = true
  line : (apos.endLine == cpos.line) = true
  trees : backTo cpos (starEach [e, f] X.env) = [(false, eval e X.env), (false, eval f X.env)]


def IsD (H : Hp) (a : Addr) : Prop := (∃ kvs, Rd H a (.dK kvs)) ∨ ∃ kvs, Rd H a (.dT kvs)
section
variable {X : Cx} {pins : List (Addr × Obj)} {σ : St} {H : Hp} {s : Shared} {a : Addr} {y d : V} {u r : Value} {o : Option V} {A : Around} {E : Value → Shared → Prop}

end

def tDGet1 (td ty : TE) : TE := fun σ H Q => td σ H fun x H1 => ∃ a, x = .ref a ∧ IsD H1 a ∧ ty σ H1 fun y H2 => ∃ o, DGet H2 a y o ∧ Q (o.getD .non) H2
def tDGet2 (td ty tx : TE) : TE := fun σ H Q => td σ H fun x H1 => ∃ a, x = .ref a ∧ IsD H1 a ∧ ty σ H1 fun y H2 => tx σ H2 fun z H3 => ∃ o, DGet H3 a y o ∧ Q (o.getD z) H3

def tDPop1 (td ty : TE) : TE := fun σ H Q => td σ H fun x H1 => ∃ a, x = .ref a ∧ IsD H1 a ∧ ty σ H1 fun y H2 => ∃ kvs k v, H2 a = some (.dK kvs) ∧ y = kV k ∧ valV kvs k = some v ∧ Q v (upd H2 a (.dK (dropK kvs k)))
def tDPop2 (td ty tx : TE) : TE := fun σ H Q => td σ H fun x H1 => ∃ a, x = .ref a ∧ IsD H1 a ∧ ty σ H1 fun y H2 => tx σ H2 fun z H3 => ∃ kvs k, H3 a = some (.dK kvs) ∧ y = kV k ∧
  (∀ v, valV kvs k = some v → Q v (upd H3 a (.dK (dropK kvs k)))) ∧ (valV kvs k = none → Q z H3)
section
variable {X : Cx} {o e f : Expr} {apos cpos : Pos} {td ty tx : TE}
end


section
variable {X : Cx} {pins : List (Addr × Obj)} {σ : St} {H : Hp} {s : Shared} {a : Addr} {kvs : List (Key × V)} {A : Around} {E : Value → Shared → Prop}
end


section
variable {X : Cx} {pins : List (Addr × Obj)} {σ : St} {H : Hp} {s : Shared} {a : Addr} {y : V} {u : Value} {A : Around} {E : Value → Shared → Prop}

end
end L2
namespace L2
open PySem PySem.Spec PyProof.Rows
section
variable {X : Cx}
end
end L2

set_option Elab.async false
set_option linter.all false
set_option maxRecDepth 100000
set_option maxHeartbeats 4000000

namespace L2
open PySem PySem.Spec PyProof.Rows PySem.SeqAt

def cK (ms : List (Int × Int)) : List (Key × V) := ms.map fun p => (Sum.inl p.1, V.int p.2)
def lookI (ms : List (Int × Int)) (k : Int) : Option Int := (ms.find? fun p => decide (p.1 = k)).map (·.2)
def eqC (a b : List (Int × Int)) : Bool := decide (a = b) || (a.length == b.length && a.all fun p => decide (lookI b p.1 = some p.2))
inductive IEnts : List DictEntry → List (Int × Int) → Prop
  | nil : IEnts [] []
  | cons {e : DictEntry} {k v : Int} {es : List DictEntry} {ms : List (Int × Int)} {t t' : Tok} : e.key = .int k t → e.hash = hashInt k → e.val = .int v t' → IEnts es ms → IEnts (e :: es) ((k, v) :: ms)
theorem IEnts.length {es : List DictEntry} {ms : List (Int × Int)} (h : IEnts es ms) : es.length = ms.length := by
  induction h with
  | nil => rfl
  | cons _ _ _ _ ih => simp [ih]
theorem IEnts.get {es : List DictEntry} {ms : List (Int × Int)} (h : IEnts es ms) : ∀ {i : Nat} {e : DictEntry}, es[i]? = some e → ∃ k v t t', ms[i]? = some (k, v) ∧ e.key = .int k t ∧ e.hash = hashInt k ∧ e.val = .int v t' := by
  induction h with
  | nil => intro i e q; simp at q
  | @cons e0 k v es ms t t' h1 h2 h3 _ ih =>
    intro i e q
    cases i with
    | zero =>
      have : e0 = e := by simpa using q
      subst this
      exact ⟨k, v, t, t', by simp, h1, h2, h3⟩
    | succ i =>
      obtain ⟨k', v', t1, t2, q1, q2⟩ := ih (i := i) (e := e) (by simpa using q)
      exact ⟨k', v', t1, t2, by simpa using q1, q2⟩
structure IDict (h : Heap) (a : Addr) (ms : List (Int × Int)) : Prop where
  ex : ∃ o es ep, h.get? a = some o ∧ o.ExactDict ∧ o.data = .dict es ep ∧ IEnts es.toList ms
  sys : (a == sysModules) = false
  nd : (ms.map (·.1)).Nodup
theorem IDict.typeIs {s : Shared} {a : Addr} {ms : List (Int × Int)} (x : IDict s.heap a ms) : s.TypeIs (.ref a) "dict" := let ⟨o, _, _, ho, hc, _⟩ := x.ex; ⟨o, ho, hc.1⟩
end L2

set_option Elab.async false
set_option linter.all false
set_option maxRecDepth 100000
set_option maxHeartbeats 4000000

namespace L2
open PySem PySem.Spec PyProof.Rows
section
variable {prog : Program} {w : World} {A : Around} {E : Value → Shared → Prop}
variable {KT : Type} [DecidableEq KT] {knd : KeyKind prog w KT}

def But2 (d it : Addr) (h0 h : Heap) : Prop := ∀ b o, b ≠ d → b ≠ it → h0.get? b = some o → h.get? b = some o
end

end L2
namespace L2
open PySem PySem.Spec PyProof.Rows PySem.SeqAt
end L2

set_option Elab.async false
set_option linter.all false
set_option maxRecDepth 100000
set_option maxHeartbeats 4000000

namespace L2
open PySem PySem.Spec PyProof.Rows

def Ite (K : PySem.W.Frag) (a : Addr) : It :=
  ⟨fun i H => ∃ xs x, SqL K H a xs ∧ xs[i]? = some x, fun i H x H' => ∃ p v, H p = none ∧ x = .ref p ∧ H' = upd H p (.tup [.int i, v]) ∧ ∀ xs, SqL K H a xs → xs[i]? = some v, fun i H => ∃ xs, SqL K H a xs ∧ xs.length ≤ i⟩
theorem turn_enum {P : Program} {w : World} {K : PySem.W.Frag} {es : List Expr} {x1 : Nat} {tpos : Pos} (a e it : Addr) (hne : e ≠ it) : Turn P w K (.Tuple es x1 tpos) (Ite K a) [e, it] e (fun i h => (∃ old, IsEnum h e it (i : Int) old) ∧ h.IsListIter it a i) where
  mem := by simp
  obj := fun i h st b hb => by
    obtain ⟨⟨old, h1⟩, o, h2, c, d⟩ := st
    rcases List.mem_cons.mp hb with rfl | hb
    · exact ⟨_, h1, fun v z => by cases (show Data.fields _ = Data.cell v from z)⟩
    · have z : b = it := by simpa using hb
      subst z
      exact ⟨o, h2, fun v z => by rw [d] at z; cases z⟩
  keep := fun i h h' st k => by
    obtain ⟨⟨old, h1⟩, h2⟩ := st
    exact ⟨⟨old, k e (by simp) _ h1⟩, h2.at fun o z => k it (by simp) o z⟩
  item := by
    intro X hP hw hK hc i pins s σ H E I hf st hg
    subst hP hw hK
    obtain ⟨⟨old, h1⟩, h2⟩ := st
    obtain ⟨xs, x, hq, hx⟩ := hg
    obtain ⟨its, rv, p, hz⟩ := I.list hq
    obtain ⟨u, hu, ru⟩ := rv.get hx
    have fe := hf e (by simp)
    have fi := hf it (by simp)
    have lte : e < s.heap.objs.size := Heap.lt_size h1
    have hfresh : H s.heap.objs.size = none := I.hok.fresh (Nat.le_refl _)
    refine wpAny_pyNext_enum_item h1 h2 p.isList (x := u) (by simpa using hu) hne fun h' hout hit' htup hsz hk => ?_
    refine ⟨_, rfl, wpAny_letOwnedTupleGo_enum hout fun h3 hen hsb => ?_⟩
    replace hsb : Heap.SameBut e h' h3 := hsb
    have kk : ∀ b o, b ≠ e → b ≠ it → s.heap.get? b = some o → h3.get? b = some o := fun b o n1 n2 z => (hsb.2 b n1).trans (hk b o n1 n2 z)
    have ht3 : h3.get? s.heap.objs.size = some { cls := .type "tuple", data := .seq #[.int i s.toks, u] } := (hsb.2 _ (Nat.ne_of_gt lte)).trans htup
    have hi3 : h3.IsListIter it a (i + 1) := hit'.at fun o z => (hsb.2 it hne.symm).trans z
    have nch : ∀ b, b ∉ [e, it] → b ≠ e ∧ b ≠ it := fun b hb => by simpa using hb
    have ntr : ∀ b v, H b = some v → b ≠ e ∧ b ≠ it := fun b v z => ⟨ne_of_none z fe.1, ne_of_none z fi.1⟩
    have nsz : ∀ b v, H b = some v → b ≠ s.heap.objs.size := fun b v z => ne_of_none z hfresh
    refine ⟨.ref s.heap.objs.size, upd H s.heap.objs.size (.tup [.int i, x]), ?_, rfl, ⟨s.heap.objs.size, x, hfresh, rfl, rfl, fun ys hy => by rw [I.list_inj hy hq]; exact hx⟩, ⟨⟨_, hen⟩, hi3⟩, fun b hb => ?_⟩
    · refine Inv.step (s := s) (h' := h3) (t' := s.toks + 1) (H' := upd H s.heap.objs.size (.tup [.int i, x])) I (g' := s.gens) (d' := s.drawn) (ch := [e, it]) (fun b hb => ?_) (fun b o _ _ hb z _ => kk b o (nch b hb).1 (nch b hb).2 z) (fun b o _ _ hb z _ => ⟨o.slots, kk b o (nch b hb).1 (nch b hb).2 z⟩) (fun b o hb z n => ?_) (fun b o hb z => ⟨o, kk b o (nch b hb).1 (nch b hb).2 z⟩)
        (fun b ys z => by rw [upd_ne (nsz b _ z)]; exact z) (fun b o v z => by rw [upd_ne (nsz b _ z)]; exact z) (fun b ps z => ⟨#[], by rw [upd_ne (nsz b _ z), z]; simp⟩) (fun m hm => ?_) (fun b v z => ?_) I.bare
      · rcases List.mem_cons.mp hb with rfl | hb
        · exact ⟨fe.2.2.2.1, fe.2.1, fe.2.2.2.2.1, fe.2.2.2.2.2⟩
        · have z : b = it := by simpa using hb
          subst z
          exact ⟨fi.2.2.2.1, fi.2.1, fi.2.2.2.2.1, fi.2.2.2.2.2⟩
      · rw [upd_ne (Nat.ne_of_lt (Heap.lt_size z))]
        exact n
      · obtain ⟨o, es', ep, ho, r⟩ := hm
        exact ⟨o, es', ep, kk _ o fe.2.1.symm fi.2.1.symm ho, r⟩
      · by_cases hb : b = s.heap.objs.size
        · subst hb
          rw [upd_same] at z
          cases z
          exact ⟨(by show (2 : Nat) ≤ sizeLine; decide), [.int i s.toks, u], .cons ⟨_, rfl⟩ (.cons ru .nil), ⟨_, ht3, rfl, rfl, _, rfl⟩⟩
        · rw [upd_ne hb] at z
          refine (I.hok b v z).stay (fun c y hc' q => ?_) (fun c q => by rw [upd_ne (nsz c _ q)]; exact q) fun c ys q => by rw [upd_ne (nsz c _ q)]; exact q
          rcases hc' with rfl | hc'
          · exact kk _ _ (ntr _ _ z).1 (ntr _ _ z).2 q
          · exact kk _ _ (ntr _ _ hc').1 (ntr _ _ hc').2 q
    · have lb : b < s.heap.objs.size := by
        rcases List.mem_cons.mp hb with rfl | hb
        · exact lte
        · have z : b = it := by simpa using hb
          subst z
          obtain ⟨o, z, _⟩ := h2
          exact Heap.lt_size z
      rw [upd_ne (Nat.ne_of_lt lb)]
      exact (hf b hb).1
  done := by
    intro X hP hw hK hc i pins s σ H E I hf st hg
    subst hP hw hK
    obtain ⟨⟨old, h1⟩, h2⟩ := st
    obtain ⟨xs, hq, hx⟩ := hg
    obtain ⟨its, rv, p, hz⟩ := I.list hq
    obtain ⟨f0, f1, f2, f3, f4, f5⟩ := hf it (by simp)
    have hl := rv.length
    exact wpAny_pyNext_enum_end (I.ok.hd hc) h1 h2 p.isList (by simp; omega) fun h' eb => ⟨rfl, I.turned (t' := s.toks) (fun b o hb z => eb b o hb z) f0 f1 f3 f4 f5⟩
  self := fun _ _ _ _ _ st h => by
    obtain ⟨⟨old, h1⟩, h2⟩ := st
    exact wpAny_pyIter_enum h1 h

def iEnum (K : PySem.W.Frag) (ta : TA) : TI := fun σ H R => ta σ H fun vs H1 => ∃ a, vs = [.ref a] ∧ (∃ xs, SqL K H1 a xs) ∧ R (Ite K a) H1
theorem boot_enumerateT : bootBuiltins "enumerate" = some (.type "enumerate") := by decide +kernel
theorem pi_enum {X : Cx} {K : PySem.W.Frag} {es : List Expr} {x1 : Nat} {tpos : Pos} {a : Expr} {ta : TA} {p pos : Pos} (hg : Gl X "enumerate") (hm : X.mg "enumerate" = none) (ha : PA X [a] ta) (hK : X.K = K := by rfl) (hs : starEach [a] X.env = [(false, eval a X.env)] := by rfl) : PI X (.Tuple es x1 tpos) (.Call (.Name "enumerate" p) [a] [] pos) (iEnum K ta) := by
  subst hK
  intro pins s σ H R I h
  refine Call_ (ld_blt I hg hm boot_enumerateT (PyProof.Rows.callWith_type1 (thn (ha pos pins s σ H _ I h) fun us s1 ⟨vs, H1, I1, r1, q1⟩ => ?_) hs rfl))
  obtain ⟨l, e, ⟨xs, hq⟩, q⟩ := q1
  subst e
  cases r1 with
  | cons r rr =>
    cases rr
    cases r
    obtain ⟨its, rv, pl, hz⟩ := I1.list hq
    refine call_enumerate_list pl.isList fun h' hen hit hsz hk => ?_
    refine wpAny_pyIter_enum hen ⟨s1.heap.objs.size + 1, [s1.heap.objs.size + 1, s1.heap.objs.size], _, _, H1, rfl, I1.kept (t' := s1.toks) hk, turn_enum l _ _ (Nat.succ_ne_self _), ⟨⟨_, hen⟩, hit⟩, fun b hb => ?_, q⟩
    have lb : s1.heap.objs.size ≤ b := by
      rcases List.mem_cons.mp hb with rfl | hb
      · exact Nat.le_succ _
      · have z : b = s1.heap.objs.size := by simpa using hb
        rw [z]
        exact Nat.le_refl _
    exact I1.fpOk lb (I1.hok.fresh lb)
section
variable {g : TG} {tc : TT} {te : TE} {D : Addr} {Q : Hp → Prop} {τ : St} {H : Hp}
theorem for_enum {K : PySem.W.Frag} {a : Addr} {xs : List V} {g : TG} {tb : TS} {D : Ends} {σ : St} {H : Hp} (Pv : Nat → St → Hp → Prop) (h0 : Pv 0 σ H) (hl : ∀ i σ H, i ≤ xs.length → Pv i σ H → SqL K H a xs)
    (hs : ∀ i x σ H p, xs[i]? = some x → Pv i σ H → H p = none → g (.ref p) σ (upd H p (.tup [.int i, x])) fun σ2 H2 => tb { D with nx := Pv (i + 1), ct := Pv (i + 1), bk := D.nx } σ2 H2) (hd : ∀ σ H, Pv xs.length σ H → D.nx σ H) :
    ∃ W : Nat → Nat → St → Hp → Prop, (∃ m, W 0 m σ H) ∧ ∀ i m σ H, W i m σ H →
      ((Ite K a).stop i H ∧ D.nx σ H) ∨ ((Ite K a).go i H ∧ ∃ N : St → Hp → Prop, (∀ σ' H', N σ' H' → ∃ m', m' < m ∧ W (i + 1) m' σ' H') ∧ ∀ x H', (Ite K a).yld i H x H' → g x σ H' fun σ2 H2 => tb { D with nx := N, ct := N, bk := D.nx } σ2 H2) := by
  refine ⟨fun i m σ H => m = xs.length - i ∧ i ≤ xs.length ∧ Pv i σ H, ⟨xs.length, by simp, Nat.zero_le _, h0⟩, ?_⟩
  rintro i m σ H ⟨rfl, hi, pp⟩
  have q := hl i σ H hi pp
  by_cases hlt : i < xs.length
  · refine .inr ⟨⟨xs, xs[i], q, by simp [hlt]⟩, Pv (i + 1), fun σ' H' p' => ⟨xs.length - (i + 1), by omega, rfl, hlt, p'⟩, fun x H' y => ?_⟩
    obtain ⟨p, v, hp, rfl, rfl, y⟩ := y
    exact hs i v σ _ p (y xs q) pp hp
  · have e : i = xs.length := by omega
    subst e
    exact .inl ⟨⟨xs, q, Nat.le_refl _⟩, hd σ H pp⟩
end
end L2

set_option Elab.async false
set_option linter.all false
set_option maxRecDepth 100000
set_option maxHeartbeats 4000000

namespace L2
open PySem PySem.Spec PyProof.Rows

def Itz (K : PySem.W.Frag) (a b : Addr) : It :=
  ⟨fun i H => ∃ xs ys x y, SqL K H a xs ∧ SqL K H b ys ∧ xs[i]? = some x ∧ ys[i]? = some y,
   fun i H v H' => ∃ p x y, H p = none ∧ v = .ref p ∧ H' = upd H p (.tup [x, y]) ∧ (∀ xs, SqL K H a xs → xs[i]? = some x) ∧ ∀ ys, SqL K H b ys → ys[i]? = some y,
   fun i H => ∃ xs ys, SqL K H a xs ∧ SqL K H b ys ∧ (xs.length ≤ i ∨ ys.length ≤ i)⟩
def iZip (K : PySem.W.Frag) (ta : TA) : TI := fun σ H R => ta σ H fun vs H1 => ∃ a b, vs = [.ref a, .ref b] ∧ (∃ xs, SqL K H1 a xs) ∧ (∃ ys, SqL K H1 b ys) ∧ R (Itz K a b) H1
section
variable {g : TG} {tc : TT} {te : TE} {D : Addr} {Q : Hp → Prop} {τ : St} {H : Hp}
end


end L2


namespace L2
open PySem PySem.W PySem.Calls PyProof.Rows
def cellBits : Nat := 1048576
end L2

set_option Elab.async false
set_option linter.all false
set_option maxRecDepth 100000
set_option maxHeartbeats 4000000

namespace L2
open PySem PySem.Spec PyProof.Rows

section
variable {X : Cx} {pins : List (Addr × Obj)} {σ : St} {H : Hp} {s : Shared} {a : Addr} {kvs : List (Key × V)}
end


def tFrz (t : TE) : TE := fun σ H Q => t σ H Q ∨ ∃ (a : Addr) (kvs : List (Key × V)), H a = some (.dK kvs) ∧ ((kvs.map (·.1)).Nodup → ∀ o : Obj, t σ (upd H a (.frz o (.dK kvs))) fun v H' => H' a = some (.frz o (.dK kvs)) ∧ Q v (upd H' a (.dK kvs)))
def sFrz (t : TS) : TS := fun D σ H => t D σ H ∨ ∃ (a : Addr) (kvs : List (Key × V)), H a = some (.dK kvs) ∧ ((kvs.map (·.1)).Nodup → ∀ o : Obj, t ⟨fun σ' H' => H' a = some (.frz o (.dK kvs)) ∧ D.nx σ' (upd H' a (.dK kvs)), fun v H' => H' a = some (.frz o (.dK kvs)) ∧ D.rt v (upd H' a (.dK kvs)),
  fun σ' H' => H' a = some (.frz o (.dK kvs)) ∧ D.bk σ' (upd H' a (.dK kvs)), fun σ' H' => H' a = some (.frz o (.dK kvs)) ∧ D.ct σ' (upd H' a (.dK kvs))⟩ σ (upd H a (.frz o (.dK kvs))))
theorem KV.getV : ∀ {kvs : List (Key × V)} {vs : List (Key × Value)} {i : Nat} {k : Key} {v : V}, KV kvs vs → kvs[i]? = some (k, v) → ∃ u, vs[i]? = some (k, u) ∧ RelV v u
  | _, _, i, k, v, .nil, e => by simp at e
  | _, _, 0, k, v, .cons (b := q) r t, e => by
    simp only [List.getElem?_cons_zero, Option.some.injEq] at e
    subst e
    obtain ⟨k', u⟩ := q
    have e1 : k = k' := r.1
    subst e1
    exact ⟨u, by simp, r.2⟩
  | _, _, i + 1, k, v, .cons r t, e => by
    obtain ⟨u, e1, e2⟩ := KV.getV (i := i) t (by simpa using e)
    exact ⟨u, by simpa using e1, e2⟩
def Itm (d : Addr) (o : Obj) : It :=
  ⟨fun i H => ∃ kvs k v, H d = some (.frz o (.dK kvs)) ∧ kvs[i]? = some (k, v),
   fun i H x H' => ∃ p k v, H p = none ∧ x = .ref p ∧ H' = upd H p (.tup [kV k, v]) ∧ ∀ kvs, H d = some (.frz o (.dK kvs)) → kvs[i]? = some (k, v),
   fun i H => ∃ kvs, H d = some (.frz o (.dK kvs)) ∧ kvs.length ≤ i⟩
def iItems (td : TE) : TI := fun σ H R => td σ H fun x H1 => ∃ d o kvs, x = .ref d ∧ H1 d = some (.frz o (.dK kvs)) ∧ R (Itm d o) H1
def Itk (d : Addr) (o : Obj) : It :=
  ⟨fun i H => ∃ kvs k v, H d = some (.frz o (.dK kvs)) ∧ kvs[i]? = some (k, v),
   fun i H x H' => H' = H ∧ ∃ k v, x = kV k ∧ ∀ kvs, H d = some (.frz o (.dK kvs)) → kvs[i]? = some (k, v),
   fun i H => ∃ kvs, H d = some (.frz o (.dK kvs)) ∧ kvs.length ≤ i⟩
def iKeys (td : TE) : TI := fun σ H R => td σ H fun x H1 => ∃ d o kvs, x = .ref d ∧ H1 d = some (.frz o (.dK kvs)) ∧ R (Itk d o) H1
section
variable {g : TG} {tc : TT} {te : TE} {D : Addr} {Q : Hp → Prop} {τ : St} {H : Hp}
end
end L2

set_option Elab.async false
set_option linter.all false
set_option maxRecDepth 100000
set_option maxHeartbeats 4000000

namespace L2
open PySem PySem.Spec PyProof.Rows PySem.SeqAt
section
variable {X : Cx} {pins : List (Addr × Obj)} {σ : St} {H : Hp} {s : Shared} {a : Addr} {ms : List (Int × Int)}
end
def sameC (ms ns : List (Int × Int)) : Bool := ms.length == ns.length && ms.all fun p => decide (lookI ns p.1 = some p.2)
def rEqC : R2 := fun x y H Q => ∃ a b ms ns, x = .ref a ∧ y = .ref b ∧ Rd H a (.dK (cK ms)) ∧ Rd H b (.dK (cK ns)) ∧ Q (.bl (sameC ms ns)) H
section
variable {X : Cx} {n : Nat} {K : PySem.W.Frag}
def rEqCL (K : PySem.W.Frag) : R2 := fun x y H Q => ∃ (l m : Addr) (as bs : List Addr), x = .ref l ∧ y = .ref m ∧ SqL K H l (as.map V.ref) ∧ SqL K H m (bs.map V.ref) ∧ as.length = bs.length ∧
  (∀ (i : Nat) a b, as[i]? = some a → bs[i]? = some b → ∃ ms ns, Rd H a (.dK (cK ms)) ∧ Rd H b (.dK (cK ns)) ∧ sameC ms ns = true) ∧ Q (.bl true) H
end
end L2
namespace L2
open PySem PySem.Spec PyProof.Rows
theorem u1 {n c : Nat} (h : n + 8 < c) : n + 1 < c := by omega

def getI (ms : List (Int × Int)) (k : Int) : Int := (lookI ms k).getD 0
def putI (ms : List (Int × Int)) (k v : Int) : List (Int × Int) := if (ms.any fun p => decide (p.1 = k)) = true then ms.map (fun p => if p.1 = k then (p.1, v) else p) else ms ++ [(k, v)]
def dropI (ms : List (Int × Int)) (k : Int) : List (Int × Int) := ms.filter fun p => decide (p.1 ≠ k)
end L2

set_option Elab.async false
set_option linter.all false
set_option maxRecDepth 100000
set_option maxHeartbeats 4000000

namespace L2
open PySem PySem.Spec PyProof.Rows
inductive DA where
  | d (d : D) | dic
def RepA (K : PySem.W.Frag) (H : Hp) (v : V) : DA → Prop
  | .d d => Rep K H v d
  | .dic => ∃ a kvs, v = .ref a ∧ Rd H a (.dK kvs)
def isA (n : String) : DA → Bool
  | .d d => isD n d
  | .dic => n == "dict"
theorem RepA.same {K : PySem.W.Frag} {H H' : Hp} {v : V} {d : DA} (s : Same H H') (h : RepA K H v d) : RepA K H' v d := by
  cases d with
  | d d => exact Rep.same s h
  | dic =>
    obtain ⟨a, kvs, e, hr⟩ := h
    refine ⟨a, kvs, e, ?_⟩
    rcases hr with hr | ⟨o, hr⟩
    · exact .inl (s _ _ hr)
    · exact .inr ⟨o, s _ _ hr⟩
theorem call_isiA {X : Cx} {K : PySem.W.Frag} (hK : X.K = K := by rfl) : CallR X (.builtin "isinstance") (fun xs H Q => ∃ x n d, xs = [x, .ty n] ∧ (n = "int" ∨ n = "bool" ∨ n = "str" ∨ n = "tuple" ∨ n = "list" ∨ n = "dict") ∧ RepA K H x d ∧ Q (.bl (isA n d)) H) := by
  subst hK
  intro pins s σ H xs us Q I r h
  obtain ⟨x, n, d, e, hn, hx, q⟩ := h
  cases d with
  | d d => exact call_isinst pins s σ H xs us Q I r ⟨x, n, d, e, hn, hx, q⟩
  | dic =>
    subst e
    obtain ⟨a, kvs, rfl, hr⟩ := hx
    obtain ⟨u, v, rfl, rx, rt⟩ := vals2 r
    cases rt
    cases rx
    obtain ⟨z, hd, vs, rel, o, es, ep, ho, ex, _⟩ := dk_rd I.hok hr
    rcases hn with rfl | rfl | rfl | rfl | rfl | rfl
    · exact PySem.IsiPair.dict_int ho ex.1 ⟨.bl false, H, I.tok _, rfl, q⟩
    · exact PySem.IsiPair.dict_bool ho ex.1 ⟨.bl false, H, I.tok _, rfl, q⟩
    · exact PySem.IsiPair.dict_str ho ex.1 ⟨.bl false, H, I.tok _, rfl, q⟩
    · exact PySem.IsiPair.dict_tuple ho ex.1 ⟨.bl false, H, I.tok _, rfl, q⟩
    · exact PySem.IsiPair.dict_list ho ex.1 ⟨.bl false, H, I.tok _, rfl, q⟩
    · exact PySem.IsiPair.dict_dict ho ex.1 ⟨.bl true, H, I, rfl, q⟩
end L2

set_option Elab.async false
set_option linter.all false
set_option maxRecDepth 100000
set_option maxHeartbeats 4000000

namespace L2
open PySem PySem.Spec PyProof.Rows
structure RoomN (k : Nat) (A : Around) : Prop where
  dp : A.depth + 3 * k + 5 < recursionLimit
  un : A.units + 16 * k + 200 < cLine
theorem RoomN.mono {j k : Nat} {A : Around} (r : RoomN k A) (h : j ≤ k) : RoomN j A := ⟨by have := r.dp; omega, by have := r.un; omega⟩
theorem RoomN.deeper {k : Nat} {A : Around} (r : RoomN (k + 1) A) (env : Env) : RoomN k (A.deeper env) :=
  ⟨by have := r.dp; show A.depth + 1 + 3 * k + 5 < _; omega, by have := r.un; show A.units + 3 + 16 * k + 200 < _; omega⟩
theorem RoomN.depth {k : Nat} {A : Around} (r : RoomN k A) : A.depth < recursionLimit := by have := r.dp; omega
theorem RoomN.units {k : Nat} {A : Around} (r : RoomN k A) : A.units + 64 < cLine := by have := r.un; omega
theorem Room.n {k : Nat} {A : Around} {v : Option Value} (r : Room k A) : RoomN k (A.mark v) := ⟨r.dp, r.un⟩
structure FnOkN (P : Program) (w : World) (K : PySem.W.Frag) (mg : Str → Option Value) (base : Heap) (k : Nat) (f : Addr) (fd : FuncData) (ps : List Str) (sp : Sp) : Prop where
  len : ∀ vs H Q E, sp vs H Q E → vs.length = ps.length
  run : ∀ (A : Around) (outer : List Env) (s : Shared) (H : Hp) (args : Args) (us : List Value) (vs : List V) (Q : VK) (E : XK), RoomN k A → Env0 P w K mg base A outer s H → BindsTo s fd args (ps.zip us) → Vals vs us → sp vs H Q E →
    codeAny (model P w) A (.call (.ref f) args) (CR CX0 outer P w H s Q E) s
abbrev cxN (P : Program) (w : World) (K : PySem.W.Frag) (mg : Str → Option Value) (base : Heap) (N : List Str) (qual : Str) (scope : Scope) (f : Addr) (cd : Value) (A : Around) (outer : List Env) (s : Shared) (H : Hp) (E : XK) : Cx :=
  { cxOf CX0 P w K mg base N qual scope f cd A outer s H E with calm := false, xe := fun _ _ => False }
section
variable {P : Program} {w : World} {K : PySem.W.Frag} {mg : Str → Option Value} {base : Heap}
end
structure HasN (P : Program) (w : World) (K : PySem.W.Frag) (mg : Str → Option Value) (base : Heap) (x : Str) (ps : List Str) (k : Nat) (sp : Sp) : Prop where
  ex : ∃ (f : Addr) (fd : FuncData), mg x = some (.ref f) ∧ PySem.W.keepIn K (.ref f) = true ∧ Binds K fd ps [] ∧ FnOkN P w K mg base k f fd ps sp
section
variable {X : Cx} {x : Str} {ps : List Str} {j k : Nat} {sp : Sp} {p pos : Pos} {e : Expr} {es : List Expr} {t : TA}
theorem boot_ValueErrorT : bootBuiltins "ValueError" = some (.type "ValueError") := by decide +kernel
end
end L2

set_option Elab.async false
set_option linter.all false
set_option maxRecDepth 100000
set_option maxHeartbeats 4000000

namespace L2
open PySem PySem.Spec PyProof.Rows
mutual
def toPD : D → PyData
  | .non => .none
  | .bl b => .bool b
  | .int i => .int i
  | .str x => .str x
  | .tup ds => .tuple (toPDs ds)
  | .lst ds => .list (toPDs ds)
def toPDs : List D → List PyData
  | [] => []
  | d :: ds => toPD d :: toPDs ds
end
section
variable {X : Cx} {pins : List (Addr × Obj)} {σ : St} {H : Hp} {s : Shared}
mutual
theorem reads_of (I : Inv X pins σ H s) : ∀ (d : D) {v : V} {u : Value}, Rep X.K H v d → RelV v u → ∃ as, Reads s.heap u (toPD d) as
  | .non, v, u, h, r => by
    cases (show v = .non from h)
    obtain rfl : u = .none := r
    exact ⟨_, .none⟩
  | .bl b, v, u, h, r => by
    cases (show v = .bl b from h)
    obtain rfl : u = .bool b := r
    exact ⟨_, .bool b⟩
  | .int i, v, u, h, r => by
    cases (show v = .int i from h)
    obtain ⟨t, rfl⟩ := r
    exact ⟨_, .int i t⟩
  | .str x, v, u, h, r => by
    cases (show v = .str x from h)
    obtain ⟨t, rfl⟩ := r
    exact ⟨_, .str x t⟩
  | .tup ds, v, u, h, r => by
    obtain ⟨a, vs, rfl, hq, hr⟩ := h
    obtain rfl : u = .ref a := r
    obtain ⟨its, rv, p, hz⟩ := I.tuple hq
    obtain ⟨o, ho, hc, n, hd⟩ := (show s.heap.IsTuple a its.toArray from p)
    obtain ⟨as, ra⟩ := readsAll_of I ds hr rv
    exact ⟨as, .tuple ho hc hd (by simpa using ra)⟩
  | .lst ds, v, u, h, r => by
    obtain ⟨a, vs, rfl, hq, hr⟩ := h
    obtain rfl : u = .ref a := r
    obtain ⟨its, rv, p, hz⟩ := I.list hq
    obtain ⟨o, ho, hc, n, hd⟩ := p.isList
    obtain ⟨as, ra⟩ := readsAll_of I ds hr rv
    exact ⟨a :: as, .list ho hc hd (by simpa using ra)⟩
theorem readsAll_of (I : Inv X pins σ H s) : ∀ (ds : List D) {vs : List V} {us : List Value}, Reps X.K H vs ds → Vals vs us → ∃ as, ReadsAll s.heap us (toPDs ds) as
  | [], vs, us, h, r => by
    cases (show vs = [] from h)
    cases r
    exact ⟨_, .nil⟩
  | d :: ds, vs, us, h, r => by
    obtain ⟨v, q, rfl, hv, hq⟩ := h
    cases r with
    | cons r1 r2 =>
      obtain ⟨as, ra⟩ := reads_of I d hv r1
      obtain ⟨bs, rb⟩ := readsAll_of I ds hq r2
      exact ⟨_, .cons ra rb⟩
end
end


mutual
theorem hasDict_toPD : ∀ d : D, (toPD d).hasDict = false
  | .non => rfl
  | .bl _ => rfl
  | .int _ => rfl
  | .str _ => rfl
  | .tup ds => hasDict_toPDs ds
  | .lst ds => hasDict_toPDs ds
theorem hasDict_toPDs : ∀ ds : List D, PyData.hasDictAll (toPDs ds) = false
  | [] => rfl
  | d :: ds => by
    show ((toPD d).hasDict || PyData.hasDictAll (toPDs ds)) = false
    rw [hasDict_toPD d, hasDict_toPDs ds]
    rfl
end
end L2

set_option Elab.async false
set_option linter.all false
set_option maxRecDepth 100000
set_option maxHeartbeats 4000000

namespace L2
open PySem PySem.Spec PyProof.Rows
inductive DE where
  | d (d : D) | nul
inductive TH where
  | one (e : DE) | rows (es : List DE)
def RepE (K : PySem.W.Frag) (H : Hp) (v : V) : DE → Prop
  | .d d => Rep K H v d
  | .nul => ∃ a, v = .ref a ∧ Rd H a (.dK [])
def RepsE (K : PySem.W.Frag) (H : Hp) : List V → List DE → Prop
  | [], [] => True
  | v :: vs, e :: es => RepE K H v e ∧ RepsE K H vs es
  | _, _ => False
def RepT (K : PySem.W.Frag) (H : Hp) (v : V) : TH → Prop
  | .one e => RepE K H v e
  | .rows es => ∃ a vs, v = .ref a ∧ SqL K H a vs ∧ RepsE K H vs es
def isE (n : String) : DE → Bool
  | .d d => isD n d
  | .nul => n == "dict"
def isT (n : String) : TH → Bool
  | .one e => isE n e
  | .rows _ => n == "list"
def toPE : DE → PyData
  | .d d => toPD d
  | .nul => .dict []
def toPT : TH → PyData
  | .one e => toPE e
  | .rows es => .list (es.map toPE)
theorem RepE.same {K : PySem.W.Frag} {H H' : Hp} {v : V} {d : DE} (s : Same H H') (h : RepE K H v d) : RepE K H' v d := by
  cases d with
  | d d => exact Rep.same s h
  | nul =>
    obtain ⟨a, e, hr⟩ := h
    refine ⟨a, e, ?_⟩
    rcases hr with hr | ⟨o, hr⟩
    · exact .inl (s _ _ hr)
    · exact .inr ⟨o, s _ _ hr⟩
theorem RepsE.same {K : PySem.W.Frag} {H H' : Hp} (s : Same H H') : ∀ {vs : List V} {es : List DE}, RepsE K H vs es → RepsE K H' vs es
  | [], [], _ => trivial
  | _ :: _, _ :: _, h => ⟨RepE.same s h.1, RepsE.same s h.2⟩
  | [], _ :: _, h => h.elim
  | _ :: _, [], h => h.elim
theorem RepT.same {K : PySem.W.Frag} {H H' : Hp} {v : V} {t : TH} (s : Same H H') (h : RepT K H v t) : RepT K H' v t := by
  cases t with
  | one e => exact RepE.same s h
  | rows es =>
    obtain ⟨a, vs, e, hq, hr⟩ := h
    exact ⟨a, vs, e, s.seq hq, RepsE.same s hr⟩
theorem RepsE.len {K : PySem.W.Frag} {H : Hp} : ∀ {vs : List V} {es : List DE}, RepsE K H vs es → vs.length = es.length
  | [], [], _ => rfl
  | _ :: _, _ :: _, h => by rw [List.length_cons, List.length_cons, RepsE.len h.2]
  | [], _ :: _, h => h.elim
  | _ :: _, [], h => h.elim
theorem RepsE.get {K : PySem.W.Frag} {H : Hp} : ∀ {vs : List V} {es : List DE}, RepsE K H vs es → ∀ {i : Nat} {v : V}, vs[i]? = some v → ∃ e, es[i]? = some e ∧ RepE K H v e
  | [], [], _, i, v, e => by simp at e
  | _ :: _, _ :: _, h, 0, v, e => by
    simp only [List.getElem?_cons_zero, Option.some.injEq] at e
    subst e
    exact ⟨_, rfl, h.1⟩
  | _ :: _, _ :: _, h, i + 1, v, e => by
    simp only [List.getElem?_cons_succ] at e
    obtain ⟨z, h1, h2⟩ := RepsE.get h.2 e
    exact ⟨z, by simpa using h1, h2⟩
  | [], _ :: _, h, _, _, _ => h.elim
  | _ :: _, [], h, _, _, _ => h.elim
theorem RepsE.mk {K : PySem.W.Frag} {H : Hp} : ∀ {vs : List V} {es : List DE}, vs.length = es.length → (∀ (i : Nat) v e, vs[i]? = some v → es[i]? = some e → RepE K H v e) → RepsE K H vs es
  | [], [], _, _ => trivial
  | v :: vs, e :: es, hl, h => ⟨h 0 v e rfl rfl, RepsE.mk (by simpa using hl) fun i v e h1 h2 => h (i + 1) v e (by simpa using h1) (by simpa using h2)⟩
  | [], _ :: _, hl, _ => by simp at hl
  | _ :: _, [], hl, _ => by simp at hl
theorem RepsE.put {K : PySem.W.Frag} {H : Hp} {v : V} {e : DE} (hv : RepE K H v e) : ∀ {vs : List V} {es : List DE}, RepsE K H vs es → ∀ i, RepsE K H (vs.set i v) (es.set i e)
  | [], [], _, i => by simp [RepsE]
  | _ :: _, _ :: _, h, 0 => ⟨hv, h.2⟩
  | _ :: _, _ :: _, h, i + 1 => ⟨h.1, RepsE.put hv h.2 i⟩
  | [], _ :: _, h, _ => h.elim
  | _ :: _, [], h, _ => h.elim
theorem RepsE.of {K : PySem.W.Frag} {H : Hp} : ∀ {vs : List V} {ds : List D}, Reps K H vs ds → RepsE K H vs (ds.map DE.d)
  | vs, [], h => by cases (show vs = [] from h); trivial
  | vs, d :: ds, h => by
    obtain ⟨v, q, rfl, hv, hq⟩ := h
    exact ⟨hv, RepsE.of hq⟩
section
variable {X : Cx} {K : PySem.W.Frag}
theorem call_isiT (hK : X.K = K := by rfl) : CallR X (.builtin "isinstance") (fun xs H Q => ∃ x n t, xs = [x, .ty n] ∧ (n = "int" ∨ n = "bool" ∨ n = "str" ∨ n = "tuple" ∨ n = "list" ∨ n = "dict") ∧ RepT K H x t ∧ Q (.bl (isT n t)) H) := by
  subst hK
  intro pins s σ H xs us Q I r h
  obtain ⟨x, n, t, e, hn, hx, q⟩ := h
  match t, hx, q with
  | .one (.d d), hx, q => exact call_isinst pins s σ H xs us Q I r ⟨x, n, d, e, hn, hx, q⟩
  | .one .nul, hx, q =>
    obtain ⟨a, e2, hr⟩ := hx
    exact call_isiA (K := X.K) rfl pins s σ H xs us Q I r ⟨x, n, .dic, e, hn, ⟨a, [], e2, hr⟩, q⟩
  | .rows es, hx, q =>
    subst e
    obtain ⟨a, vs, rfl, hq, _⟩ := hx
    obtain ⟨u, v, rfl, rx, rt⟩ := vals2 r
    cases rt
    cases rx
    obtain ⟨its, _, ⟨o, _, e, c, _⟩, _⟩ := I.list hq
    have k := kit_ok (K := X.K) (d := .lst []) hn
    exact PySem.W.kia_one PySem.W.kitx_list I.kIn ⟨o, e, c⟩ k (fun z => nomatch z) fun tk => ⟨.bl (n == "list"), H, I.tok tk, rfl, q⟩
end
section
variable {X : Cx} {pins : List (Addr × Obj)} {σ : St} {H : Hp} {s : Shared}
end

structure Fin (B k : Nat) (p : PyData) : Prop where
  sh : p.showable = true
  le : p.shown.length ≤ B
  dp : p.depth ≤ k
theorem Fin.mono {B B' k k' : Nat} {p : PyData} (h : Fin B k p) (hB : B ≤ B') (hk : k ≤ k') : Fin B' k' p := ⟨h.sh, Nat.le_trans h.le hB, Nat.le_trans h.dp hk⟩
end L2

set_option Elab.async false
set_option linter.all false
set_option maxRecDepth 100000
set_option maxHeartbeats 4000000

namespace L2
open PySem PySem.Spec PyProof.Rows
abbrev TJ := St → Hp → (Hp → Prop) → Prop
def tJN : TJ := fun _ H Q => Q H
def tJC (te : TE) (tj : TJ) : TJ := fun σ H Q => te σ H fun v H1 => ∃ y : Str, v = .str y ∧ y.length ≤ 100000 ∧ tj σ H1 Q
def PJ (X : Cx) (es : List Expr) (tj : TJ) : Prop := ∀ (pins : List (Addr × Obj)) (s : Shared) (σ : St) (H : Hp) (acc : Str) (Q : Hp → Prop), Inv X pins σ H s → acc.length + 100000 * es.length ≤ 1000000 → tj σ H Q →
  Joins (model X.prog X.w) X.A X.xe (evalEach es X.env) acc (fun out s' => out.length ≤ 1000000 ∧ ∃ H', Inv X pins σ H' s' ∧ Q H') s
theorem joins_mono {M : Model} {A : Around} {E : Value → Shared → Prop} : ∀ {parts : List (Sem Value)} {acc : Str} {Q Q' : Str → Shared → Prop} {s : Shared}, Joins M A E parts acc Q s → (∀ x s, Q x s → Q' x s) → Joins M A E parts acc Q' s
  | [], acc, Q, Q', s, h, f => f _ _ h
  | x :: rest, acc, Q, Q', s, h, f => wpAny_mono (show wpAny M A x _ E s from h) (fun v s1 ⟨y, t, e, hz, hr⟩ => ⟨y, t, e, hz, joins_mono hr f⟩) fun _ _ z => z
section
variable {X : Cx} {e v₁ v₂ : Expr} {es rest : List Expr} {te : TE} {tj : TJ} {pos : Pos}
theorem pj_nil : PJ X [] tJN := fun pins s σ H acc Q I hl h => ⟨by simpa using hl, H, I, h⟩
theorem pj_cons (he : PE X e te) (hr : PJ X es tj) : PJ X (e :: es) (tJC te tj) := by
  intro pins s σ H acc Q I hl h
  show wpAny _ _ (eval e X.env) _ _ s
  refine thn (he pins s σ H _ I h) fun u s1 ⟨v, H1, I1, r, y, ev, hy, q⟩ => ?_
  subst ev
  obtain ⟨t, rfl⟩ := r
  have hl2 : (acc ++ y).length = acc.length + y.length := strLen_append ..
  have hl3 : acc.length + 100000 * (es.length + 1) ≤ 1000000 := hl
  refine ⟨y, t, rfl, ?_, hr pins s1 σ H1 (acc ++ y) Q I1 (by rw [hl2]; omega) q⟩
  rw [hl2, sizeLine_eq]
  omega
def tFstr (tj : TJ) : TE := fun σ H Q => tj σ H fun H' => ∀ x : Str, x.length ≤ 1000000 → Q (.str x) H'
theorem pe_fstr (h : PJ X (v₁ :: v₂ :: rest) tj) (hl : rest.length ≤ 7 := by decide) : PE X (.JoinedStr (v₁ :: v₂ :: rest) pos) (tFstr tj) := by
  intro pins s σ H Q I hw
  refine wpAny_JoinedStr (joins_mono (h pins s σ H Str.empty _ I ?_ hw) fun out s' ⟨hz, H', I', q⟩ => ⟨?_, .str out, H', I'.tok _, ⟨_, rfl⟩, q out hz⟩)
  · show 0 + 100000 * (rest.length + 2) ≤ 1000000
    omega
  · rw [sizeLine_eq]; omega
def tFmt (te : TE) : TE := fun σ H Q => te σ H fun v H1 => (∃ i : Int, v = .int i ∧ i.natAbs.log2 < 1920 ∧ ∀ x : Str, x.length ≤ 100000 → Q (.str x) H1) ∨ ∃ x : Str, v = .str x ∧ x.length ≤ 100000 ∧ Q (.str x) H1
theorem pe_fmt (he : PE X e te) : PE X (.FormattedValue e (-1) none pos) (tFmt te) := by
  intro pins s σ H Q I hw
  refine wpAny_FormattedValue_plain (thn (he pins s σ H _ I hw) fun u s1 ⟨v, H1, I1, r, q⟩ => ?_)
  rcases q with ⟨i, rfl, hi, q⟩ | ⟨x, rfl, hx, q⟩
  · obtain ⟨t, rfl⟩ := r
    refine PySem.wpAny_formatField_int hi ⟨.str (toString i), H1, I1.tok _, ⟨_, rfl⟩, q _ ?_⟩
    have := int_text_length_le (k := 1920) (by decide) hi
    rw [PySem.ofString_length]
    omega
  · obtain ⟨t, rfl⟩ := r
    exact PySem.wpAny_formatField_str ⟨.str x, H1, I1, ⟨_, rfl⟩, q⟩ ⟨.str x, H1, I1.tok _, ⟨_, rfl⟩, q⟩ (by rw [sizeLine_eq]; omega)
end
end L2

set_option linter.all false

namespace Hb

def facesBy (w : List Int) (fam : Int) : List (List Int) :=
  if fam = 0 then (if w.length < 2 then [] else (List.range w.length).map fun i => w.take i ++ w.drop (i + 1))
  else if w.length = 0 then []
  else if fam < 0 then (if w.length = 1 then [[], []] else w.map fun l => [l])
  else w.drop 1 :: ((List.range (w.length - 1)).map fun i => w.take i ++ [(w.getD i 0 + w.getD (i + 1) 0) % fam] ++ w.drop (i + 2)) ++ [w.take (w.length - 1)]


def Word (fam : Int) (w : List Int) : Prop :=
  (fam = 0 ∧ 1 ≤ w.length ∧ w.length ≤ 4) ∨ (fam < 0 ∧ (w.length = 0 ∨ w.length = 1 ∨ w.length = 3)) ∨ (0 < fam ∧ w.length ≤ 3)
def lv (fam : Int) (w : List Int) : Nat := if fam = 0 then w.length - 1 else if fam < 0 then (if w.length = 3 then 2 else w.length) else w.length


theorem word_cases {fam : Int} {w : List Int} (h : Word fam w) :
    (fam = 0 ∧ ((∃ a, w = [a]) ∨ (∃ a b, w = [a, b]) ∨ (∃ a b c, w = [a, b, c]) ∨ ∃ a b c d, w = [a, b, c, d])) ∨
    (fam < 0 ∧ (w = [] ∨ (∃ a, w = [a]) ∨ ∃ a b c, w = [a, b, c])) ∨
    (0 < fam ∧ (w = [] ∨ (∃ a, w = [a]) ∨ (∃ a b, w = [a, b]) ∨ ∃ a b c, w = [a, b, c])) := by
  rcases h with ⟨h0, h1, h2⟩ | ⟨h0, h1⟩ | ⟨h0, h1⟩
  · left
    refine ⟨h0, ?_⟩
    match w, h1, h2 with
    | [a], _, _ => exact .inl ⟨a, rfl⟩
    | [a, b], _, _ => exact .inr (.inl ⟨a, b, rfl⟩)
    | [a, b, c], _, _ => exact .inr (.inr (.inl ⟨a, b, c, rfl⟩))
    | [a, b, c, d], _, _ => exact .inr (.inr (.inr ⟨a, b, c, d, rfl⟩))
    | _ :: _ :: _ :: _ :: _ :: _, _, h => simp at h
  · right; left
    refine ⟨h0, ?_⟩
    match w, h1 with
    | [], _ => exact .inl rfl
    | [a], _ => exact .inr (.inl ⟨a, rfl⟩)
    | [a, b], h => simp at h
    | [a, b, c], _ => exact .inr (.inr ⟨a, b, c, rfl⟩)
    | _ :: _ :: _ :: _ :: _, h => simp at h
  · right; right
    refine ⟨h0, ?_⟩
    match w, h1 with
    | [], _ => exact .inl rfl
    | [a], _ => exact .inr (.inl ⟨a, rfl⟩)
    | [a, b], _ => exact .inr (.inr (.inl ⟨a, b, rfl⟩))
    | [a, b, c], _ => exact .inr (.inr (.inr ⟨a, b, c, rfl⟩))
    | _ :: _ :: _ :: _ :: _, h => simp at h

theorem f0_1 (a : Int) : facesBy [a] 0 = [] := rfl
theorem f0_2 (a b : Int) : facesBy [a, b] 0 = [[b], [a]] := rfl
theorem f0_3 (a b c : Int) : facesBy [a, b, c] 0 = [[b, c], [a, c], [a, b]] := rfl
theorem f0_4 (a b c d : Int) : facesBy [a, b, c, d] 0 = [[b, c, d], [a, c, d], [a, b, d], [a, b, c]] := rfl
section
variable {fam : Int}
theorem fn_0 (h : fam < 0) : facesBy [] fam = [] := by unfold facesBy; rw [if_neg (by omega), if_pos (by simp)]
theorem fn_1 (h : fam < 0) (a : Int) : facesBy [a] fam = [[], []] := by unfold facesBy; rw [if_neg (by omega), if_neg (by simp), if_pos h, if_pos (by simp)]
theorem fn_3 (h : fam < 0) (a b c : Int) : facesBy [a, b, c] fam = [[a], [b], [c]] := by unfold facesBy; rw [if_neg (by omega), if_neg (by simp), if_pos h, if_neg (by simp)]; rfl
theorem fp_0 (h : 0 < fam) : facesBy [] fam = [] := by unfold facesBy; rw [if_neg (by omega), if_pos (by simp)]
theorem fp_1 (h : 0 < fam) (a : Int) : facesBy [a] fam = [[], []] := by unfold facesBy; rw [if_neg (by omega), if_neg (by simp), if_neg (by omega)]; rfl
theorem fp_2 (h : 0 < fam) (a b : Int) : facesBy [a, b] fam = [[b], [(a + b) % fam], [a]] := by unfold facesBy; rw [if_neg (by omega), if_neg (by simp), if_neg (by omega)]; rfl
theorem fp_3 (h : 0 < fam) (a b c : Int) : facesBy [a, b, c] fam = [[b, c], [(a + b) % fam, c], [a, (b + c) % fam], [a, b]] := by unfold facesBy; rw [if_neg (by omega), if_neg (by simp), if_neg (by omega)]; rfl

theorem faces_word {w f : List Int} (h : Word fam w) (hf : f ∈ facesBy w fam) : Word fam f ∧ lv fam f + 1 = lv fam w := by
  rcases word_cases h with ⟨h0, ⟨a, rfl⟩ | ⟨a, b, rfl⟩ | ⟨a, b, c, rfl⟩ | ⟨a, b, c, d, rfl⟩⟩ | ⟨h0, rfl | ⟨a, rfl⟩ | ⟨a, b, c, rfl⟩⟩ | ⟨h0, rfl | ⟨a, rfl⟩ | ⟨a, b, rfl⟩ | ⟨a, b, c, rfl⟩⟩
  · subst h0; rw [f0_1] at hf; exact nomatch hf
  · subst h0; rw [f0_2] at hf
    simp only [List.mem_cons, List.not_mem_nil, or_false] at hf
    rcases hf with rfl | rfl <;> simp [Word, lv]
  · subst h0; rw [f0_3] at hf
    simp only [List.mem_cons, List.not_mem_nil, or_false] at hf
    rcases hf with rfl | rfl | rfl <;> simp [Word, lv]
  · subst h0; rw [f0_4] at hf
    simp only [List.mem_cons, List.not_mem_nil, or_false] at hf
    rcases hf with rfl | rfl | rfl | rfl <;> simp [Word, lv]
  · rw [fn_0 h0] at hf; exact nomatch hf
  · rw [fn_1 h0] at hf
    simp only [List.mem_cons, List.not_mem_nil, or_false, or_self] at hf
    subst hf
    have e : ¬ fam = 0 := by omega
    simp [Word, lv, h0, e]
  · rw [fn_3 h0] at hf
    have e : ¬ fam = 0 := by omega
    simp only [List.mem_cons, List.not_mem_nil, or_false] at hf
    rcases hf with rfl | rfl | rfl <;> simp [Word, lv, h0, e]
  · rw [fp_0 h0] at hf; exact nomatch hf
  · rw [fp_1 h0] at hf
    have e : ¬ fam = 0 := by omega
    have e' : ¬ fam < 0 := by omega
    simp only [List.mem_cons, List.not_mem_nil, or_false, or_self] at hf
    subst hf
    simp [Word, lv, h0, e, e']
  · rw [fp_2 h0] at hf
    have e : ¬ fam = 0 := by omega
    have e' : ¬ fam < 0 := by omega
    simp only [List.mem_cons, List.not_mem_nil, or_false] at hf
    rcases hf with rfl | rfl | rfl <;> simp [Word, lv, h0, e, e']
  · rw [fp_3 h0] at hf
    have e : ¬ fam = 0 := by omega
    have e' : ¬ fam < 0 := by omega
    simp only [List.mem_cons, List.not_mem_nil, or_false] at hf
    rcases hf with rfl | rfl | rfl | rfl <;> simp [Word, lv, h0, e, e']

theorem faces_len {w : List Int} (h : Word fam w) : (facesBy w fam).length = (if lv fam w = 0 then 0 else lv fam w + 1) ∧ lv fam w ≤ 3 := by
  rcases word_cases h with ⟨h0, ⟨a, rfl⟩ | ⟨a, b, rfl⟩ | ⟨a, b, c, rfl⟩ | ⟨a, b, c, d, rfl⟩⟩ | ⟨h0, rfl | ⟨a, rfl⟩ | ⟨a, b, c, rfl⟩⟩ | ⟨h0, rfl | ⟨a, rfl⟩ | ⟨a, b, rfl⟩ | ⟨a, b, c, rfl⟩⟩
  · subst h0; simp [f0_1, lv]
  · subst h0; simp [f0_2, lv]
  · subst h0; simp [f0_3, lv]
  · subst h0; simp [f0_4, lv]
  all_goals have e : ¬ fam = 0 := by omega
  · simp [fn_0 h0, lv, e, h0]
  · simp [fn_1 h0, lv, e, h0]
  · simp [fn_3 h0, lv, e, h0]
  all_goals have e' : ¬ fam < 0 := by omega
  · simp [fp_0 h0, lv, e, e']
  · simp [fp_1 h0, lv, e, e']
  · simp [fp_2 h0, lv, e, e']
  · simp [fp_3 h0, lv, e, e']


theorem faces_agree {w f g : List Int} {i j : Nat} (h : Word fam w) (hl : 2 ≤ lv fam w) (hij : i < j) (hf : (facesBy w fam)[j]? = some f) (hg : (facesBy w fam)[i]? = some g) : (facesBy f fam)[i]? = (facesBy g fam)[j - 1]? := by
  have hj : j < (facesBy w fam).length := (List.getElem?_eq_some_iff.mp hf).1
  rcases word_cases h with ⟨h0, ⟨a, rfl⟩ | ⟨a, b, rfl⟩ | ⟨a, b, c, rfl⟩ | ⟨a, b, c, d, rfl⟩⟩ | ⟨h0, rfl | ⟨a, rfl⟩ | ⟨a, b, c, rfl⟩⟩ | ⟨h0, rfl | ⟨a, rfl⟩ | ⟨a, b, rfl⟩ | ⟨a, b, c, rfl⟩⟩
  · subst h0; simp [lv] at hl
  · subst h0; simp [lv] at hl
  · subst h0
    rw [f0_3] at hf hg hj
    have hc : (i = 0 ∧ j = 1) ∨ (i = 0 ∧ j = 2) ∨ (i = 1 ∧ j = 2) := by simp at hj; omega
    rcases hc with ⟨rfl, rfl⟩ | ⟨rfl, rfl⟩ | ⟨rfl, rfl⟩
    · simp at hf hg; subst hf hg; rfl
    · simp at hf hg; subst hf hg; rfl
    · simp at hf hg; subst hf hg; rfl
  · subst h0
    rw [f0_4] at hf hg hj
    have hc : (i = 0 ∧ j = 1) ∨ (i = 0 ∧ j = 2) ∨ (i = 0 ∧ j = 3) ∨ (i = 1 ∧ j = 2) ∨ (i = 1 ∧ j = 3) ∨ (i = 2 ∧ j = 3) := by simp at hj; omega
    rcases hc with ⟨rfl, rfl⟩ | ⟨rfl, rfl⟩ | ⟨rfl, rfl⟩ | ⟨rfl, rfl⟩ | ⟨rfl, rfl⟩ | ⟨rfl, rfl⟩
    · simp at hf hg; subst hf hg; rfl
    · simp at hf hg; subst hf hg; rfl
    · simp at hf hg; subst hf hg; rfl
    · simp at hf hg; subst hf hg; rfl
    · simp at hf hg; subst hf hg; rfl
    · simp at hf hg; subst hf hg; rfl
  all_goals have e : ¬ fam = 0 := by omega
  · simp [lv, e, h0] at hl
  · simp [lv, e, h0] at hl
  · rw [fn_3 h0] at hf hg hj
    have hc : (i = 0 ∧ j = 1) ∨ (i = 0 ∧ j = 2) ∨ (i = 1 ∧ j = 2) := by simp at hj; omega
    rcases hc with ⟨rfl, rfl⟩ | ⟨rfl, rfl⟩ | ⟨rfl, rfl⟩
    · simp at hf hg; subst hf hg; simp [fn_1 h0]
    · simp at hf hg; subst hf hg; simp [fn_1 h0]
    · simp at hf hg; subst hf hg; simp [fn_1 h0]
  all_goals have e' : ¬ fam < 0 := by omega
  · simp [lv, e, e'] at hl
  · simp [lv, e, e'] at hl
  · rw [fp_2 h0] at hf hg hj
    have hc : (i = 0 ∧ j = 1) ∨ (i = 0 ∧ j = 2) ∨ (i = 1 ∧ j = 2) := by simp at hj; omega
    rcases hc with ⟨rfl, rfl⟩ | ⟨rfl, rfl⟩ | ⟨rfl, rfl⟩
    · simp at hf hg; subst hf hg; simp [fp_1 h0]
    · simp at hf hg; subst hf hg; simp [fp_1 h0]
    · simp at hf hg; subst hf hg; simp [fp_1 h0]
  · rw [fp_3 h0] at hf hg hj
    have hc : (i = 0 ∧ j = 1) ∨ (i = 0 ∧ j = 2) ∨ (i = 0 ∧ j = 3) ∨ (i = 1 ∧ j = 2) ∨ (i = 1 ∧ j = 3) ∨ (i = 2 ∧ j = 3) := by simp at hj; omega
    rcases hc with ⟨rfl, rfl⟩ | ⟨rfl, rfl⟩ | ⟨rfl, rfl⟩ | ⟨rfl, rfl⟩ | ⟨rfl, rfl⟩ | ⟨rfl, rfl⟩
    · simp at hf hg; subst hf hg; simp [fp_2 h0]
    · simp at hf hg; subst hf hg; simp [fp_2 h0]
    · simp at hf hg; subst hf hg; simp [fp_2 h0]
    · skip
      simp at hf hg; subst hf hg
      simp only [fp_2 h0, List.getElem?_cons_succ, List.getElem?_cons_zero, Nat.add_one_sub_one]
      congr 2
      rw [Int.add_emod_emod, Int.emod_add_emod, Int.add_assoc]
    · simp at hf hg; subst hf hg; simp [fp_2 h0]
    · simp at hf hg; subst hf hg; simp [fp_2 h0]
end


def lev (p : List Int) : Nat := p.length - 1

structure Fits (xs : List (List Int)) (p : List Int) : Prop where
  cnt : p.length = 0 ∨ p.length = 2 ∨ p.length = 3 ∨ p.length = 4
  low : ∀ f ∈ p, 0 ≤ f
  bel : ∀ f ∈ p, ∃ q, xs[f.toNat]? = some q ∧ lev q + 1 = lev p
  agr : 3 ≤ p.length → ∀ (i j : Nat) (f g : Int) (q r : List Int), i < j → p[j]? = some f → p[i]? = some g → xs[f.toNat]? = some q → xs[g.toNat]? = some r → q[i]? = r[j - 1]?
def IsShape (xs : List (List Int)) : Prop := ∀ (k : Nat) (p : List Int), xs[k]? = some p → Fits (xs.take k) p


def Ord (fam : Int) (ws : List (List Int)) : Prop := ∀ (k : Nat) (w : List Int), ws[k]? = some w → Word fam w ∧ ∀ f ∈ facesBy w fam, f ∈ ws.take k
theorem Ord.nil {fam : Int} : Ord fam [] := fun k w h => by simp at h
theorem Ord.snoc {fam : Int} {ws : List (List Int)} {w : List Int} (h : Ord fam ws) (hw : Word fam w) (hf : ∀ f ∈ facesBy w fam, f ∈ ws) : Ord fam (ws ++ [w]) := by
  intro k v hk
  by_cases hlt : k < ws.length
  · rw [List.getElem?_append_left hlt] at hk
    rw [List.take_append_of_le_length (by omega)]
    exact h k v hk
  · have hk' : k < (ws ++ [w]).length := (List.getElem?_eq_some_iff.mp hk).1
    have e : k = ws.length := by simp at hk'; omega
    subst e
    simp at hk
    subst hk
    rw [List.take_append_of_le_length (Nat.le_refl _), List.take_length]
    exact ⟨hw, hf⟩
theorem Ord.mem {fam : Int} {ws : List (List Int)} (h : Ord fam ws) {w : List Int} (hw : w ∈ ws) : Word fam w ∧ ∀ f ∈ facesBy w fam, f ∈ ws := by
  obtain ⟨k, hk⟩ := List.getElem?_of_mem hw
  obtain ⟨h1, h2⟩ := h k w hk
  exact ⟨h1, fun f hf => List.mem_of_mem_take (h2 f hf)⟩

def addAll (ws : List (List Int)) : List (List Int) → List (List Int)
  | [] => ws
  | w :: r => addAll (if w ∈ ws then ws else ws ++ [w]) r
theorem addAll_len : ∀ (rows ws : List (List Int)), (addAll ws rows).length ≤ ws.length + rows.length
  | [], ws => by simp [addAll]
  | w :: r, ws => by
    have h1 := addAll_len r (if w ∈ ws then ws else ws ++ [w])
    have h2 : (if w ∈ ws then ws else ws ++ [w]).length ≤ ws.length + 1 := by
      split
      · omega
      · simp
    simp only [addAll, List.length_cons]
    omega
theorem addAll_ord {fam : Int} : ∀ (rows ws : List (List Int)), Ord fam ws → (∀ (k : Nat) (w : List Int), rows[k]? = some w → Word fam w ∧ ∀ f ∈ facesBy w fam, f ∈ ws ∨ f ∈ rows.take k) → Ord fam (addAll ws rows)
  | [], ws, h, _ => h
  | w :: r, ws, h, hr => by
    have h0 := hr 0 w rfl
    have hw : ∀ f ∈ facesBy w fam, f ∈ ws := fun f hf => (h0.2 f hf).resolve_right (by simp)
    simp only [addAll]
    refine addAll_ord r _ ?_ fun k v hk => ?_
    · split
      · exact h
      · exact h.snoc h0.1 hw
    · obtain ⟨h1, h2⟩ := hr (k + 1) v (by simpa using hk)
      refine ⟨h1, fun f hf => ?_⟩
      rcases h2 f hf with z | z
      · left
        split
        · exact z
        · exact List.mem_append_left _ z
      · rw [List.take_succ_cons] at z
        rcases List.mem_cons.mp z with z | z
        · left
          subst z
          split
          · assumption
          · simp
        · exact .inr z

def addNew (ws : List (List Int)) : List (List Int) → List (List Int) → List (List Int)
  | acc, [] => acc
  | acc, f :: r => addNew ws (if f ∉ ws ∧ f ∉ acc then acc ++ [f] else acc) r
theorem addNew_sub {ws : List (List Int)} {x : List Int} : ∀ (fs acc : List (List Int)), x ∈ addNew ws acc fs → x ∈ acc ∨ x ∈ fs
  | [], acc, h => .inl h
  | f :: r, acc, h => by
    rcases addNew_sub r _ h with z | z
    · split at z
      · rcases List.mem_append.mp z with z | z
        · exact .inl z
        · exact .inr (by simp at z; simp [z])
      · exact .inl z
    · exact .inr (List.mem_cons_of_mem _ z)
theorem addNew_mono {ws : List (List Int)} {x : List Int} : ∀ (fs acc : List (List Int)), x ∈ acc → x ∈ addNew ws acc fs
  | [], acc, h => h
  | f :: r, acc, h => addNew_mono r _ (by split; exact List.mem_append_left _ h; exact h)
theorem addNew_has {ws : List (List Int)} {x : List Int} : ∀ (fs acc : List (List Int)), x ∈ fs → x ∈ ws ∨ x ∈ addNew ws acc fs
  | f :: r, acc, h => by
    rcases List.mem_cons.mp h with e | e
    · subst e
      by_cases h1 : x ∈ ws
      · exact .inl h1
      · right
        refine addNew_mono r _ ?_
        by_cases h2 : x ∈ acc
        · rw [if_neg (by simp [h2])]; exact h2
        · rw [if_pos ⟨h1, h2⟩]; simp
    · exact addNew_has r _ e
theorem addNew_len {ws : List (List Int)} : ∀ (fs acc : List (List Int)), (addNew ws acc fs).length ≤ acc.length + fs.length
  | [], acc => by simp [addNew]
  | f :: r, acc => by
    have h1 := addNew_len (ws := ws) r (if f ∉ ws ∧ f ∉ acc then acc ++ [f] else acc)
    have h2 : (if f ∉ ws ∧ f ∉ acc then acc ++ [f] else acc).length ≤ acc.length + 1 := by
      split
      · simp
      · omega
    simp only [addNew, List.length_cons]
    omega

def below (ws : List (List Int)) (fam : Int) : List (List Int) → List (List Int) → List (List Int)
  | acc, [] => acc
  | acc, w :: r => below ws fam (addNew ws acc (facesBy w fam)) r
theorem below_sub {ws : List (List Int)} {fam : Int} {x : List Int} : ∀ (l acc : List (List Int)), x ∈ below ws fam acc l → x ∈ acc ∨ ∃ w ∈ l, x ∈ facesBy w fam
  | [], acc, h => .inl h
  | w :: r, acc, h => by
    rcases below_sub r _ h with z | ⟨v, hv, z⟩
    · rcases addNew_sub _ _ z with z | z
      · exact .inl z
      · exact .inr ⟨w, List.mem_cons_self, z⟩
    · exact .inr ⟨v, List.mem_cons_of_mem _ hv, z⟩
theorem below_mono {ws : List (List Int)} {fam : Int} {x : List Int} : ∀ (l acc : List (List Int)), x ∈ acc → x ∈ below ws fam acc l
  | [], acc, h => h
  | w :: r, acc, h => below_mono r _ (addNew_mono _ _ h)
theorem below_has {ws : List (List Int)} {fam : Int} {x w : List Int} : ∀ (l acc : List (List Int)), w ∈ l → x ∈ facesBy w fam → x ∈ ws ∨ x ∈ below ws fam acc l
  | v :: r, acc, h, hx => by
    rcases List.mem_cons.mp h with e | e
    · subst e
      rcases addNew_has (ws := ws) _ acc hx with z | z
      · exact .inl z
      · exact .inr (below_mono r _ z)
    · exact below_has r _ e hx
theorem below_len {ws : List (List Int)} {fam : Int} : ∀ (l acc : List (List Int)), (∀ w ∈ l, Word fam w) → (below ws fam acc l).length ≤ acc.length + 4 * l.length
  | [], acc, _ => by simp [below]
  | w :: r, acc, h => by
    have h1 := below_len (ws := ws) r (addNew ws acc (facesBy w fam)) fun v hv => h v (List.mem_cons_of_mem _ hv)
    have h2 := addNew_len (ws := ws) (facesBy w fam) acc
    have h3 := faces_len (h w List.mem_cons_self)
    simp only [below, List.length_cons]
    split at h3 <;> omega
theorem addNew_snoc (ws : List (List Int)) (f : List Int) : ∀ (fs acc : List (List Int)), addNew ws acc (fs ++ [f]) = (if f ∉ ws ∧ f ∉ addNew ws acc fs then addNew ws acc fs ++ [f] else addNew ws acc fs)
  | [], acc => rfl
  | g :: fs, acc => addNew_snoc ws f fs _
theorem below_snoc (ws : List (List Int)) (fam : Int) (w : List Int) : ∀ (l acc : List (List Int)), below ws fam acc (l ++ [w]) = addNew ws (below ws fam acc l) (facesBy w fam)
  | [], acc => rfl
  | v :: l, acc => below_snoc ws fam w l _
theorem addAll_snoc (w : List Int) : ∀ (rows ws : List (List Int)), addAll ws (rows ++ [w]) = (if w ∈ addAll ws rows then addAll ws rows else addAll ws rows ++ [w])
  | [], ws => rfl
  | v :: rows, ws => addAll_snoc w rows _

def layers (ws : List (List Int)) (fam : Int) : Nat → List (List Int) → List (List Int) → List (List Int)
  | 0, layer, rows => rows
  | n + 1, layer, rows => layers ws fam n (below ws fam [] layer) (layer ++ rows)
theorem layers_ok {ws : List (List Int)} {fam : Int} : ∀ (n : Nat) (layer rows : List (List Int)), (∀ w ∈ layer, Word fam w ∧ lv fam w < n) →
    (∀ (k : Nat) (w : List Int), rows[k]? = some w → Word fam w ∧ ∀ f ∈ facesBy w fam, f ∈ ws ∨ f ∈ layer ∨ f ∈ rows.take k) →
    ∀ (k : Nat) (w : List Int), (layers ws fam n layer rows)[k]? = some w → Word fam w ∧ ∀ f ∈ facesBy w fam, f ∈ ws ∨ f ∈ (layers ws fam n layer rows).take k
  | 0, layer, rows, hl, hr, k, w, hk => by
    obtain ⟨h1, h2⟩ := hr k w hk
    refine ⟨h1, fun f hf => ?_⟩
    rcases h2 f hf with z | z | z
    · exact .inl z
    · exact absurd (hl f z).2 (by omega)
    · exact .inr z
  | n + 1, layer, rows, hl, hr, k, w, hk => by
    refine layers_ok n _ _ ?_ ?_ k w hk
    · intro v hv
      rcases below_sub _ _ hv with z | ⟨u, hu, z⟩
      · exact nomatch z
      · obtain ⟨q1, q2⟩ := hl u hu
        obtain ⟨q3, q4⟩ := faces_word q1 z
        exact ⟨q3, by omega⟩
    · intro m v hm
      by_cases hlt : m < layer.length
      · rw [List.getElem?_append_left hlt] at hm
        have hv : v ∈ layer := List.mem_of_getElem? hm
        refine ⟨(hl v hv).1, fun f hf => ?_⟩
        rcases below_has (ws := ws) layer [] hv hf with z | z
        · exact .inl z
        · exact .inr (.inl z)
      · rw [List.getElem?_append_right (by omega)] at hm
        obtain ⟨h1, h2⟩ := hr _ v hm
        refine ⟨h1, fun f hf => ?_⟩
        rcases h2 f hf with z | z | z
        · exact .inl z
        · right; right
          rw [List.take_append]
          refine List.mem_append_left _ ?_
          rw [List.take_of_length_le (by omega)]
          exact z
        · right; right
          rw [List.take_append]
          exact List.mem_append_right _ z

def wordsWith (ws : List (List Int)) (w : List Int) (fam : Int) : List (List Int) := addAll ws (layers ws fam 4 [w] [])
theorem wordsWith_ord {ws : List (List Int)} {w : List Int} {fam : Int} (h : Ord fam ws) (hw : Word fam w) : Ord fam (wordsWith ws w fam) := by
  refine addAll_ord _ _ h (layers_ok 4 [w] [] ?_ ?_)
  · intro v hv
    have e : v = w := by simpa using hv
    subst e
    exact ⟨hw, by have := (faces_len hw).2; omega⟩
  · intro k v hk
    simp at hk

def idx (ws : List (List Int)) (f : List Int) : Nat := ws.findIdx (· == f)
theorem idx_get {ws : List (List Int)} {f : List Int} (h : f ∈ ws) : ws[idx ws f]? = some f := by
  unfold idx
  have hl : ws.findIdx (· == f) < ws.length := List.findIdx_lt_length_of_exists ⟨f, h, by simp⟩
  rw [List.getElem?_eq_getElem hl]
  have := List.findIdx_getElem (xs := ws) (p := (· == f)) (w := hl)
  simpa using this
theorem idx_lt {ws : List (List Int)} {f : List Int} {k : Nat} (h : f ∈ ws.take k) : idx ws f < k := by
  unfold idx
  obtain ⟨i, hi⟩ := List.getElem?_of_mem h
  have hlt : i < (ws.take k).length := (List.getElem?_eq_some_iff.mp hi).1
  rw [List.getElem?_take] at hi
  split at hi
  · rename_i hik
    have hl : i < ws.length := (List.getElem?_eq_some_iff.mp hi).1
    have e : ws[i] = f := by
      rw [List.getElem?_eq_getElem hl] at hi
      exact Option.some.inj hi
    have hle : ws.findIdx (· == f) ≤ i := by
      apply Nat.le_of_not_lt
      intro hgt
      have := List.not_of_lt_findIdx hgt
      simp [e] at this
    omega
  · cases hi

def shapeOf (ws : List (List Int)) (fam : Int) : List (List Int) := ws.map fun w => (facesBy w fam).map fun f => (idx ws f : Int)
theorem shapeOf_get {ws : List (List Int)} {fam : Int} {k : Nat} {w : List Int} (h : ws[k]? = some w) : (shapeOf ws fam)[k]? = some ((facesBy w fam).map fun f => (idx ws f : Int)) := by
  unfold shapeOf
  rw [List.getElem?_map, h]
  rfl
theorem shapeOf_shape {ws : List (List Int)} {fam : Int} (h : Ord fam ws) : IsShape (shapeOf ws fam) := by
  intro k p hp
  unfold shapeOf at hp
  rw [List.getElem?_map] at hp
  cases hw : ws[k]? with
  | none => rw [hw] at hp; cases hp
  | some w =>
    rw [hw] at hp
    have hp' : (facesBy w fam).map (fun f => (idx ws f : Int)) = p := by simpa using hp
    subst hp'
    obtain ⟨h1, h2⟩ := h k w hw
    obtain ⟨n1, n2⟩ := faces_len h1
    have look : ∀ f ∈ facesBy w fam, ((shapeOf ws fam).take k)[((idx ws f : Nat) : Int).toNat]? = some ((facesBy f fam).map fun g => (idx ws g : Int)) := fun f hf => by
      have hm := h2 f hf
      have hlt := idx_lt hm
      rw [Int.toNat_natCast, List.getElem?_take, if_pos hlt]
      exact shapeOf_get (idx_get (List.mem_of_mem_take hm))
    refine ⟨?_, ?_, ?_, ?_⟩
    · rw [List.length_map]
      by_cases hz : lv fam w = 0
      · rw [if_pos hz] at n1; omega
      · rw [if_neg hz] at n1; omega
    · intro f hf
      obtain ⟨g, _, rfl⟩ := List.mem_map.mp hf
      omega
    · intro f hf
      obtain ⟨g, hg, rfl⟩ := List.mem_map.mp hf
      refine ⟨_, look g hg, ?_⟩
      obtain ⟨w1, l1⟩ := faces_word h1 hg
      obtain ⟨m1, _⟩ := faces_len w1
      unfold lev
      rw [List.length_map, List.length_map]
      have hz : ¬ lv fam w = 0 := by omega
      rw [if_neg hz] at n1
      by_cases hy : lv fam g = 0
      · rw [if_pos hy] at m1; omega
      · rw [if_neg hy] at m1; omega
    · intro hl i j f g q r hij hf hg hq hr
      rw [List.length_map] at hl
      rw [List.getElem?_map] at hf hg
      cases ef : (facesBy w fam)[j]? with
      | none => rw [ef] at hf; cases hf
      | some F =>
        cases eg : (facesBy w fam)[i]? with
        | none => rw [eg] at hg; cases hg
        | some G =>
          rw [ef] at hf
          rw [eg] at hg
          have ef' : ((idx ws F : Nat) : Int) = f := by simpa using hf
          have eg' : ((idx ws G : Nat) : Int) = g := by simpa using hg
          subst ef' eg'
          rw [look F (List.mem_of_getElem? ef)] at hq
          rw [look G (List.mem_of_getElem? eg)] at hr
          cases hq
          cases hr
          have hz : ¬ lv fam w = 0 := by intro z; rw [if_pos z] at n1; omega
          rw [if_neg hz] at n1
          rw [List.getElem?_map, List.getElem?_map, faces_agree h1 (by omega) hij ef eg]
theorem layers_len {ws : List (List Int)} {fam : Int} {w : List Int} (hw : Word fam w) : (layers ws fam 4 [w] []).length ≤ 85 := by
  have step : ∀ l : List (List Int), (∀ v ∈ l, Word fam v) → (below ws fam [] l).length ≤ 4 * l.length ∧ ∀ v ∈ below ws fam [] l, Word fam v := fun l hl => by
    refine ⟨by have := below_len (ws := ws) l [] hl; simpa using this, fun v hv => ?_⟩
    rcases below_sub _ _ hv with z | ⟨u, hu, z⟩
    · exact nomatch z
    · exact (faces_word (hl u hu) z).1
  have s0 : ∀ v ∈ [w], Word fam v := fun v hv => by have e : v = w := by simpa using hv
                                                    subst e; exact hw
  obtain ⟨a1, b1⟩ := step _ s0
  obtain ⟨a2, b2⟩ := step _ b1
  obtain ⟨a3, b3⟩ := step _ b2
  simp only [layers, List.length_append, List.length_nil, List.length_cons] at a1 a2 a3 ⊢
  omega
end Hb

set_option linter.all false
namespace Hb

def pc (xs : List (List Int)) (p : Int) : List Int := xs.getD p.toNat []
def InS (xs : List (List Int)) (p : Int) : Prop := 0 ≤ p ∧ p < (xs.length : Int)
def lastL (l : List Int) : List Int := l.drop (l.length - 1)
def corn (xs : List (List Int)) : Nat → Int → List Int
  | 0, p => [p]
  | n + 1, p => if (pc xs p).length = 0 then [p] else corn xs n ((pc xs p).getD ((pc xs p).length - 1) 0) ++ lastL (corn xs n ((pc xs p).getD 0 0))
section
variable {xs : List (List Int)}
def cor (xs : List (List Int)) (p : Int) : List Int := corn xs 3 p
end
end Hb

set_option Elab.async false
set_option linter.all false
set_option maxRecDepth 100000
set_option maxHeartbeats 4000000

namespace Hb
open PySem L2

def cellAt (ns : List Int) (k : Int) : Int := ns.getD k.toNat 0

abbrev LT (K : PySem.W.Frag) (H : Hp) (v : V) (xs : List (List Int)) : Prop := Rep K H v (.lst (xs.map tI))
abbrev TI (K : PySem.W.Frag) (H : Hp) (v : V) (ns : List Int) : Prop := Rep K H v (tI ns)

section
variable {K : PySem.W.Frag} {H H' : Hp}
theorem TI.sq {v : V} {ns : List Int} (h : TI K H v ns) : ∃ a, v = .ref a ∧ SqT K H a (ns.map V.int) := by
  obtain ⟨a, vs, e, q, r⟩ := h
  rw [reps_nums.mp r] at q
  exact ⟨a, e, q⟩
theorem TI.mk {a : Addr} {ns : List Int} (h : SqT K H a (ns.map V.int)) : TI K H (.ref a) ns := ⟨a, _, rfl, h, reps_nums.mpr rfl⟩
theorem TI.same {v : V} {ns : List Int} (s : Same H H') (h : TI K H v ns) : TI K H' v ns := Rep.same s h
theorem TI.t {v : V} {ns : List Int} (s : TSame H H') (h : TI K H v ns) : TI K H' v ns := Rep.t s (imm_tI ns) h
theorem cut_take (xs : List V) (k : Nat) : cutV xs none (some (k : Int)) = xs.take k := by
  unfold cutV
  rw [HT.sIx_none, HT.sIx_nat, Nat.sub_zero, List.drop_zero, List.take_eq_take_iff]
  omega
theorem cut_drop (xs : List V) (k : Nat) : cutV xs (some (k : Int)) none = xs.drop k := by
  unfold cutV
  rw [HT.sIx_none, HT.sIx_nat]
  by_cases h : k ≤ xs.length
  · rw [Nat.min_eq_left h, List.take_of_length_le (by rw [List.length_drop]; omega)]
  · rw [Nat.min_eq_right (by omega), List.drop_length, List.drop_of_length_le (by omega)]
    simp
theorem push_reps {D : Addr} {ys : List V} {v : V} {d : L2.D} {ds : List L2.D} (hD : H D = some (.lst ys)) (r : Reps K H ys ds) (rv : Rep K H v d) (hi : imms (ds ++ [d]) = true) : Reps K (upd H D (.lst (ys ++ [v]))) (ys ++ [v]) (ds ++ [d]) :=
  (r.snoc rv).t (TSame.lst hD) hi
theorem push_TI {D : Addr} {ys : List V} {v : V} {xs : List (List Int)} {x : List Int} (hD : H D = some (.lst ys)) (r : Reps K H ys (xs.map tI)) (rv : TI K H v x) : Reps K (upd H D (.lst (ys ++ [v]))) (ys ++ [v]) ((xs ++ [x]).map tI) := by
  have e : (xs ++ [x]).map tI = xs.map tI ++ [tI x] := by simp
  have h := imms_tIs (xs ++ [x])
  rw [e] at h ⊢
  exact push_reps hD r rv h

def SameX (B : Addr) (H H' : Hp) : Prop := ∀ b o, b ≠ B → H b = some o → H' b = some o
theorem SameX.refl (B : Addr) (H : Hp) : SameX B H H := fun _ _ _ h => h
theorem SameX.trans {B : Addr} {H H1 H2 : Hp} (a : SameX B H H1) (b : SameX B H1 H2) : SameX B H H2 := fun c o n h => b c o n (a c o n h)
theorem SameX.of {B : Addr} {H H1 : Hp} (a : Same H H1) : SameX B H H1 := fun c o _ h => a c o h
theorem SameX.upd {B : Addr} {H H1 : Hp} {o : HO} (a : SameX B H H1) : SameX B H (upd H1 B o) := fun c u n h => by rw [upd_ne n]; exact a c u n h
theorem SameX.t {B : Addr} {H H1 : Hp} {us : List V} (a : SameX B H H1) (h : H B = some (.lst us)) : TSame H H1 :=
  ⟨fun b xs e => a b _ (ne_of e h (by intro z; cases z)) e, fun b o u e => a b _ (ne_of e h (by intro z; cases z)) e⟩
theorem SameX.same {B : Addr} {H0 H H1 : Hp} (a : SameX B H H1) (s : Same H0 H) (h : H0 B = none) : Same H0 H1 := fun b o e => a b o (ne_of_none e h) (s b o e)
theorem deps_nums : ∀ ns : List Int, deps (nums ns) = 0
  | [] => rfl
  | n :: ns => by show max (dep (.int n)) (deps (nums ns)) = 0; rw [deps_nums ns]; rfl
theorem deps_tIs : ∀ xs : List (List Int), deps (xs.map tI) ≤ 1
  | [] => Nat.zero_le _
  | x :: xs => by
    have h1 := deps_tIs xs
    have h2 : dep (tI x) = 1 := by show deps (nums x) + 1 = 1; rw [deps_nums]
    show max (dep (tI x)) (deps (xs.map tI)) ≤ 1
    omega
theorem any_tI (f : List Int) : ∀ xs : List (List Int), (xs.map tI).any (fun e => eqD e (tI f)) = decide (f ∈ xs)
  | [] => rfl
  | x :: xs => by
    rw [List.map_cons, List.any_cons, any_tI f xs, eqD_tI]
    by_cases h : x = f
    · subst h; simp
    · have h' : ¬ f = x := fun z => h z.symm
      simp [h, h']
theorem ifP {c A B : Prop} [Decidable c] (hc : c) (h : A) : if c then A else B := by rw [if_pos hc]; exact h
theorem ifN {c A B : Prop} [Decidable c] (hc : ¬ c) (h : B) : if c then A else B := by rw [if_neg hc]; exact h
theorem neI {a b : Int} (h : ¬ a = b) : (!decide (V.int a = V.int b)) = true := by simp [h]
theorem eqI {a b : Int} (h : a = b) : ¬ (!decide (V.int a = V.int b)) = true := by simp [h]
theorem comp_list0 {g : TG} {te : TE} {D : Addr} {Q : Hp → Prop} {τ : St} {H : Hp} {K : PySem.W.Frag} {a : Addr} {xs : List V} (Pv : Nat → List V → St → Hp → Prop) (h0 : Pv 0 [] τ H) (hl : ∀ i ys τ H, i ≤ xs.length → Pv i ys τ H → SqL K H a xs)
    (hs : ∀ i x ys τ H, xs[i]? = some x → Pv i ys τ H → g x τ H fun τ2 H2 => te τ2 H2 fun y H4 => H4 D = some (.lst ys) ∧ ys.length < sizeLine ∧ Pv (i + 1) (ys ++ [y]) τ2 (upd H4 D (.lst (ys ++ [y]))))
    (hd : ∀ ys τ H, Pv xs.length ys τ H → Q H) : RunC (Itl K a) g tYes te D Q τ H := comp_list Pv h0 hl (fun i x ys τ H e p => hs i x ys τ H e p) hd
theorem comp_tup0 {g : TG} {te : TE} {D : Addr} {Q : Hp → Prop} {τ : St} {H : Hp} {K : PySem.W.Frag} {a : Addr} {xs : List V} (Pv : Nat → List V → St → Hp → Prop) (h0 : Pv 0 [] τ H) (hl : ∀ i ys τ H, i ≤ xs.length → Pv i ys τ H → SqT K H a xs)
    (hs : ∀ i x ys τ H, xs[i]? = some x → Pv i ys τ H → g x τ H fun τ2 H2 => te τ2 H2 fun y H4 => H4 D = some (.lst ys) ∧ ys.length < sizeLine ∧ Pv (i + 1) (ys ++ [y]) τ2 (upd H4 D (.lst (ys ++ [y]))))
    (hd : ∀ ys τ H, Pv xs.length ys τ H → Q H) : RunC (Itt K a) g tYes te D Q τ H := comp_tup Pv h0 hl (fun i x ys τ H e p => hs i x ys τ H e p) hd
theorem comp_range0 {g : TG} {te : TE} {D : Addr} {Q : Hp → Prop} {τ : St} {H : Hp} {lo : Int} {n : Nat} (Pv : Nat → List V → St → Hp → Prop) (h0 : Pv 0 [] τ H)
    (hs : ∀ i ys τ H, i < n → Pv i ys τ H → g (.int (lo + i)) τ H fun τ2 H2 => te τ2 H2 fun y H4 => H4 D = some (.lst ys) ∧ ys.length < sizeLine ∧ Pv (i + 1) (ys ++ [y]) τ2 (upd H4 D (.lst (ys ++ [y]))))
    (hd : ∀ ys τ H, Pv n ys τ H → Q H) : RunC (Itr lo n) g tYes te D Q τ H := comp_range Pv h0 (fun i ys τ H e p => hs i ys τ H e p) hd
theorem tSeq_cut {t u : TS} {D : Ends} {σ : St} {H : Hp} (P : St → Hp → Prop) (hu : ∀ σ' H', P σ' H' → u D σ' H') (h : (∀ σ' H', P σ' H' → u D σ' H') → tSeq t u D σ H) : tSeq t u D σ H := h hu
theorem findIdx_tI {f : List Int} : ∀ {ws : List (List Int)}, f ∈ ws → (ws.map tI).findIdx? (fun e => eqD e (tI f)) = some (idx ws f) := fun {ws} h => by
  have e : (ws.map tI).findIdx? (fun e => eqD e (tI f)) = ws.findIdx? (fun w => w == f) := by
    rw [List.findIdx?_map]
    congr 1
    funext w
    show eqD (tI w) (tI f) = (w == f)
    rw [eqD_tI]
    by_cases z : w = f
    · subst z; simp
    · simp [z]
  rw [e, List.findIdx?_eq_some_of_exists (xs := ws) (p := fun w => w == f) ⟨f, h, by simp⟩]
  rfl
theorem small {n : Nat} (h : n ≤ 1000000) : n < sizeLine := Nat.lt_of_le_of_lt h (by decide)
theorem smallE {n : Nat} (h : n ≤ 1000000) : n ≤ sizeLine := Nat.le_of_lt (small h)
end
section
variable (K : PySem.W.Frag)
def sp_cell_at : Sp := fun vs H Q _ => ∃ (a : Addr) (ns : List Int) (k : Int), vs = [.ref a, .int k] ∧ SqL K H a (ns.map V.int) ∧ 0 ≤ k ∧ ns.length ≤ 63 ∧ Q (.int (cellAt ns k)) H

def sp_faces_by : Sp := fun vs H Q _ => ∃ (v : V) (w : List Int) (fam : Int), vs = [v, .int fam] ∧ TI K H v w ∧ Word fam w ∧
  ∀ (p : Addr) (us : List V) (H' : Hp), H p = none → Same H H' → H' p = some (.lst us) → Reps K H' us ((facesBy w fam).map tI) → Q (.ref p) H'
def sp_word_by : Sp := fun vs H Q _ => ∃ (c fam letters : Int), vs = [.int c, .int fam, .int letters] ∧ 0 < letters ∧ letters < 100 ∧ fam < 100 ∧
  ∀ (v : V) (H' : Hp) (w : List Int), Same H H' → TI K H' v w → Word fam w → Q v H'
def sp_words_with : Sp := fun vs H Q _ => ∃ (l : Addr) (us : List V) (v : V) (ws : List (List Int)) (w : List Int) (fam : Int), vs = [.ref l, v, .int fam] ∧ H l = some (.lst us) ∧ Reps K H us (ws.map tI) ∧ TI K H v w ∧ Word fam w ∧ ws.length ≤ 100 ∧
  ∀ (p : Addr) (us' : List V) (H' : Hp), H p = none → Same H H' → H' p = some (.lst us') → Reps K H' us' ((wordsWith ws w fam).map tI) → Q (.ref p) H'

def sp_law : Sp := fun vs H Q _ => ∃ (a : Addr) (ns : List Int), vs = [.ref a] ∧ SqL K H a (ns.map V.int) ∧ ns.length ≤ 63 ∧ ∀ H', Q (.bl true) H'
def sp_shape_by : Sp := fun vs H Q _ => ∃ (a : Addr) (ns : List Int) (kind most : Int), vs = [.int kind, .ref a, .int most] ∧ SqL K H a (ns.map V.int) ∧ ns.length ≤ 63 ∧ 0 ≤ most ∧ most ≤ 100 ∧
  ∀ (p : Addr) (us : List V) (H' : Hp) (xs : List (List Int)), H p = none → Same H H' → H' p = some (.lst us) → Reps K H' us (xs.map tI) → IsShape xs → (xs.length : Int) ≤ most → Q (.ref p) H'
end
end Hb

set_option Elab.async false
set_option linter.all false
set_option maxRecDepth 100000
set_option maxHeartbeats 4000000
namespace Hb
open PySem L2
def wholeD (d : L2.D) : Bool := isD "int" d && !isD "bool" d
def belowD (d : L2.D) (b : Int) : Bool := match d with
  | .int i => decide (0 ≤ i) && decide (i < b)
  | _ => false
def levI (n : Nat) : Int := if (0 : Int) > (n : Int) - 1 then 0 else (n : Int) - 1
def placeLev (xs : List (List Int)) (d : L2.D) (l : Int) : Bool := match d with
  | .int i => decide (0 ≤ i) && decide (i < (xs.length : Int)) && decide (levI (xs.getD i.toNat []).length = l)
  | _ => false
def agreeAt (xs : List (List Int)) (p : List Int) (j i : Nat) : Bool := decide ((xs.getD (p.getD j 0).toNat []).getD i 0 = (xs.getD (p.getD i 0).toNat []).getD (j - 1) 0)
def agreeB (xs : List (List Int)) (p : List Int) : Bool := (List.range p.length).all fun j => (List.range j).all fun i => agreeAt xs p j i
def toI : L2.D → Int
  | .int i => i
  | _ => 0
def cntB (n : Nat) : Bool := n == 0 || n == 2 || n == 3 || n == 4
def fitsD (xs : List (List Int)) (d : L2.D) : Bool := match d with
  | .tup ds => cntB ds.length && ds.all (fun e => placeLev xs e (levI ds.length - 1)) && (decide (levI ds.length < 2) || agreeB xs (ds.map toI))
  | _ => false
theorem fitsD_tup (xs : List (List Int)) (ds : List L2.D) : fitsD xs (.tup ds) = (cntB ds.length && ds.all (fun e => placeLev xs e (levI ds.length - 1)) && (decide (levI ds.length < 2) || agreeB xs (ds.map toI))) := rfl
theorem cntB_le {n : Nat} (h : cntB n = true) : n ≤ 4 ∧ n ≠ 1 := by
  unfold cntB at h
  simp only [Bool.or_eq_true, beq_iff_eq] at h
  omega
section
variable (K : PySem.W.Frag)
def sp_is_whole : Sp := fun vs H Q _ => ∃ (x : V) (d : L2.D), vs = [x] ∧ Rep K H x d ∧ Q (.bl (wholeD d)) H
abbrev sp_L_whole : Sp := sp_is_whole K
def sp_is_whole_below : Sp := fun vs H Q _ => ∃ (x : V) (d : L2.D) (b : Int), vs = [x, .int b] ∧ Rep K H x d ∧ Q (.bl (belowD d b)) H
def sp_level_of : Sp := fun vs H Q _ => ∃ (x : V) (ds : List L2.D), vs = [x] ∧ SeqD K H x ds ∧ Q (.int (levI ds.length)) H
def sp_is_place_of_level : Sp := fun vs H Q _ => ∃ (a : Addr) (x : V) (d : L2.D) (l : Int) (xs : List (List Int)), vs = [.ref a, x, .int l] ∧ LT K H (.ref a) xs ∧ Rep K H x d ∧ Q (.bl (placeLev xs d l)) H
def sp_faces_agree : Sp := fun vs H Q _ => ∃ (a : Addr) (v : V) (xs : List (List Int)) (p : List Int), vs = [.ref a, v] ∧ LT K H (.ref a) xs ∧ TI K H v p ∧ p.length ≤ 4 ∧
  (∀ f ∈ p, 0 ≤ f ∧ f < (xs.length : Int) ∧ (xs.getD f.toNat []).length + 1 = p.length) ∧ Q (.bl (agreeB xs p)) H
def sp_fits : Sp := fun vs H Q _ => ∃ (a : Addr) (th : V) (d : L2.D) (xs : List (List Int)), vs = [.ref a, th] ∧ LT K H (.ref a) xs ∧ Rep K H th d ∧ ∀ H', Same H H' → Q (.bl (fitsD xs d)) H'
abbrev sp_L_fits_by : Sp := sp_fits K
abbrev sp_L_cell_at : Sp := sp_cell_at K
abbrev sp_L_faces_by : Sp := sp_faces_by K
abbrev sp_L_word_by : Sp := sp_word_by K
abbrev sp_L_words_with : Sp := sp_words_with K
abbrev sp_L_shape_by : Sp := sp_shape_by K
end
section
variable {K : PySem.W.Frag} {H : Hp}
theorem wholeD_int {d : L2.D} (h : wholeD d = true) : ∃ i, d = .int i := by
  cases d <;> simp [wholeD, isD] at h
  exact ⟨_, rfl⟩

theorem LT.get {a : Addr} {xs : List (List Int)} {i : Int} (h : LT K H (.ref a) xs) (h0 : 0 ≤ i) (h1 : i < (xs.length : Int)) : ∃ us v, SqL K H a us ∧ atI us i = some v ∧ TI K H v (xs.getD i.toNat []) := by
  obtain ⟨a', us, e, hq, r⟩ := h
  cases e
  obtain ⟨j, rfl⟩ := Int.eq_ofNat_of_zero_le h0
  have hj : j < xs.length := by omega
  have e : (xs.map tI)[j]? = some (tI xs[j]) := by rw [List.getElem?_map, List.getElem?_eq_getElem hj]; rfl
  obtain ⟨v, hv, tv⟩ := r.get e
  refine ⟨us, v, hq, atI_nat hv, ?_⟩
  rw [Int.toNat_natCast, List.getD_eq_getElem?_getD, List.getElem?_eq_getElem hj]
  exact tv
theorem LT.len {a : Addr} {xs : List (List Int)} (h : LT K H (.ref a) xs) : ∃ us, SqL K H a us ∧ us.length = xs.length := by
  obtain ⟨a', us, e, hq, r⟩ := h
  cases e
  exact ⟨us, hq, by have := r.length; simpa using this⟩
theorem TI.get {v : V} {p : List Int} {i : Int} (h : TI K H v p) (h0 : 0 ≤ i) (h1 : i < (p.length : Int)) : ∃ a, v = .ref a ∧ SqT K H a (p.map V.int) ∧ atI (p.map V.int) i = some (.int (p.getD i.toNat 0)) := by
  obtain ⟨a, e, hq⟩ := h.sq
  refine ⟨a, e, hq, ?_⟩
  obtain ⟨j, rfl⟩ := Int.eq_ofNat_of_zero_le h0
  have hj : j < p.length := by omega
  refine atI_nat ?_
  rw [List.getElem?_map, List.getElem?_eq_getElem hj]
  simp [hj]
theorem levI_eq (n : Nat) : levI n = ((n - 1 : Nat) : Int) := by unfold levI; split <;> omega
theorem all_nums {xs : List (List Int)} {l : Int} : ∀ {ds : List L2.D}, ds.all (fun e => placeLev xs e l) = true → ds = nums (ds.map toI)
  | [], _ => rfl
  | d :: ds, h => by
    simp only [List.all_cons, Bool.and_eq_true] at h
    cases d with
    | int i =>
      show L2.D.int i :: ds = L2.D.int i :: nums (ds.map toI)
      rw [← all_nums h.2]
    | _ => simp [placeLev] at h
end
end Hb

set_option Elab.async false
set_option linter.all false
set_option maxRecDepth 100000
set_option maxHeartbeats 4000000

namespace Hb
open PySem L2
def toTI : L2.D → List Int
  | .tup ds => ds.map toI
  | _ => []
theorem fits_tup {xs : List (List Int)} {d : L2.D} (h : fitsD xs d = true) : d = tI (toTI d) := by
  cases d with
  | tup ds =>
    rw [fitsD_tup] at h
    simp only [Bool.and_eq_true] at h
    have := all_nums h.1.2
    show L2.D.tup ds = .tup (nums (ds.map toI))
    rw [← this]
  | _ => simp [fitsD] at h
def misFrom (xs : List (List Int)) : List L2.D → Nat → Option Nat
  | [], _ => none
  | d :: r, k => if fitsD xs d = true then misFrom (xs ++ [toTI d]) r (k + 1) else some k
def misD (ds : List L2.D) : Option Nat := misFrom [] ds 0
theorem mis_good : ∀ {ds : List L2.D} {xs : List (List Int)} {k : Nat}, misFrom xs ds k = none → ∃ ys : List (List Int), ds = ys.map tI
  | [], _, _, _ => ⟨[], rfl⟩
  | d :: r, xs, k, h => by
    unfold misFrom at h
    split at h
    · next hf =>
      obtain ⟨ys, e⟩ := mis_good h
      exact ⟨toTI d :: ys, by rw [List.map_cons, ← e, ← fits_tup hf]⟩
    · cases h
theorem mis_lt : ∀ {ds : List L2.D} {xs : List (List Int)} {k i : Nat}, misFrom xs ds k = some i → i < k + ds.length
  | [], _, _, _, h => by simp [misFrom] at h
  | d :: r, xs, k, i, h => by
    unfold misFrom at h
    split at h
    · have := mis_lt h
      simp only [List.length_cons]
      omega
    · cases h
      simp

def SoFar (ds : List L2.D) (i : Nat) (xs : List (List Int)) : Prop := ds.take i = xs.map tI ∧ misD ds = misFrom xs (ds.drop i) i
theorem SoFar.zero (ds : List L2.D) : SoFar ds 0 [] := ⟨rfl, rfl⟩
theorem SoFar.next {ds : List L2.D} {i : Nat} {xs : List (List Int)} {d : L2.D} (h : SoFar ds i xs) (e : ds[i]? = some d) (hf : fitsD xs d = true) : SoFar ds (i + 1) (xs ++ [toTI d]) := by
  obtain ⟨h1, h2⟩ := h
  have hi : i < ds.length := (List.getElem?_eq_some_iff.mp e).1
  have ed : ds[i] = d := (List.getElem?_eq_some_iff.mp e).2
  refine ⟨?_, ?_⟩
  · rw [List.take_succ, e, h1, List.map_append]
    show xs.map tI ++ [d] = xs.map tI ++ [tI (toTI d)]
    rw [← fits_tup hf]
  · rw [h2, List.drop_eq_getElem_cons hi, ed, misFrom, if_pos hf]
theorem SoFar.bad {ds : List L2.D} {i : Nat} {xs : List (List Int)} {d : L2.D} (h : SoFar ds i xs) (e : ds[i]? = some d) (hf : ¬ fitsD xs d = true) : misD ds = some i := by
  have hi : i < ds.length := (List.getElem?_eq_some_iff.mp e).1
  have ed : ds[i] = d := (List.getElem?_eq_some_iff.mp e).2
  rw [h.2, List.drop_eq_getElem_cons hi, ed, misFrom, if_neg hf]
theorem SoFar.done {ds : List L2.D} {xs : List (List Int)} (h : SoFar ds ds.length xs) : misD ds = none := by
  rw [h.2, List.drop_length, misFrom]
def misV (ds : List L2.D) : V := match misD ds with
  | some i => .int (i : Int)
  | none => .non
def fewE : DE → Bool
  | .d (.lst ds) => decide (ds.length ≤ 40)
  | _ => false
def itemsE : DE → List L2.D
  | .d (.lst ds) => ds
  | _ => []
def shapeE (e : DE) : Bool := fewE e && (misD (itemsE e)).isNone
theorem few_lst {e : DE} (h : fewE e = true) : e = .d (.lst (itemsE e)) ∧ (itemsE e).length ≤ 40 := by
  match e, h with
  | .d (.lst ds), h => exact ⟨rfl, of_decide_eq_true h⟩
theorem isE_lst {e : DE} (h : isE "list" e = true) : ∃ ds, e = .d (.lst ds) := by
  cases e with
  | nul => exact absurd h (by decide)
  | d d => cases d <;> first | exact ⟨_, rfl⟩ | exact absurd h (by simp [isE, isD])
theorem few_not {e : DE} (h : ¬ isE "list" e = true) : fewE e = false := by
  cases e with
  | nul => rfl
  | d d => cases d <;> first | rfl | exact absurd rfl h
theorem log_small {n : Int} (h : n.natAbs < 1024) : n.natAbs.log2 < 1920 := by
  by_cases z : n.natAbs = 0
  · rw [z]; decide
  · exact Nat.lt_of_lt_of_le ((Nat.log2_lt (k := 10) z).mpr h) (by decide)
theorem at0 (x : V) (r : List V) : atI (x :: r) 0 = some x := atI_nat (j := 0) rfl
theorem at1 (x y : V) (r : List V) : atI (x :: y :: r) 1 = some y := atI_nat (j := 1) rfl
theorem at2 (x y z : V) (r : List V) : atI (x :: y :: z :: r) 2 = some z := atI_nat (j := 2) rfl
theorem at_nat {us : List V} {i : Nat} (h : i < us.length) : atI us (0 + (i : Int)) = some us[i] := by
  rw [show (0 + (i : Int)) = (i : Int) by omega]
  exact atI_nat (List.getElem?_eq_getElem h)
theorem shape_good {e : DE} (h : shapeE e = true) : fewE e = true ∧ misD (itemsE e) = none := by
  unfold shapeE at h
  simp only [Bool.and_eq_true, Option.isNone_iff_eq_none] at h
  exact h
theorem smallS {x : Str} (h : x.length ≤ 100 := by decide) : x.length ≤ 100000 := by omega
def dueE (e : DE) : L2.D := if fewE e = true then (match misD (itemsE e) with
    | some i => .tup [.str "piece", .bl true, .int (i : Int)]
    | none => .tup [.str "good", .lst (itemsE e)])
  else .tup [.str "shape", .bl true]
theorem due_shape {e : DE} (h : ¬ fewE e = true) : dueE e = .tup [.str "shape", .bl true] := if_neg h
theorem due_piece {e : DE} {i : Nat} (h : fewE e = true) (hm : misD (itemsE e) = some i) : dueE e = .tup [.str "piece", .bl true, .int (i : Int)] := by unfold dueE; rw [if_pos h, hm]
theorem due_good {e : DE} (h : fewE e = true) (hm : misD (itemsE e) = none) : dueE e = .tup [.str "good", .lst (itemsE e)] := by unfold dueE; rw [if_pos h, hm]
theorem due_dep (e : DE) : dep (dueE e) ≤ 6 := by
  by_cases h : fewE e = true
  · cases hm : misD (itemsE e) with
    | some i => rw [due_piece h hm]; simp [dep, deps]
    | none =>
      rw [due_good h hm]
      obtain ⟨ys, ey⟩ := mis_good (show misFrom [] (itemsE e) 0 = none from hm)
      rw [ey]
      have := deps_tIs ys
      simp only [dep, deps]
      omega
  · rw [due_shape h]; simp [dep, deps]

theorem raised_same {H H1 : Hp} {e d C : Addr} {fs : List (Str × V)} (s : Same H H1) (he : H1 e = none) (hd : upd H1 e (newE e C) d = none) :
    Same H (del (upd (upd (upd H1 e (newE e C)) d (.xd fs)) e (madeE e C d)) e) ∧ del (upd (upd (upd H1 e (newE e C)) d (.xd fs)) e (madeE e C d)) e d = some (.xd fs) := by
  have hde : d ≠ e := fun z => by rw [z, upd_same] at hd; cases hd
  have hd1 : H1 d = none := by rw [upd_ne hde] at hd; exact hd
  refine ⟨fun b u q => ?_, by rw [del_ne hde, upd_ne hde, upd_same]⟩
  have q1 := s b u q
  rw [del_ne (ne_of_none q1 he), upd_ne (ne_of_none q1 he), upd_ne (ne_of_none q1 hd1), upd_ne (ne_of_none q1 he)]
  exact q1

def NewIn (K : PySem.W.Frag) (H H' : Hp) (v : V) (e : DE) : Prop := shapeE e = true → ∃ (t l : Addr) (us : List V), v = .ref t ∧ H t = none ∧ H' t = some (.tup [.str "good", .ref l]) ∧ H l = none ∧ H' l = some (.lst us) ∧ Reps K H' us (itemsE e)
section
variable (K : PySem.W.Frag)
def sp_NoPiece_init (_K : PySem.W.Frag) (C : Addr) : Sp := fun vs H Q _ => ∃ (e : Addr) (n : Int), vs = [.ref e, .int n] ∧ H e = some (newE e C) ∧ n.natAbs.log2 < 1920 ∧ ∀ d, H d = none → Q .non (upd (upd H d (.xd [("place", .int n)])) e (madeE e C d))
def sp_mFew : Sp := fun vs H Q _ => ∃ (v : V) (e : DE), vs = [v] ∧ RepE K H v e ∧ Q (.bl (fewE e)) H
def sp_mMisfit : Sp := fun vs H Q _ => ∃ (v : V) (ds : List L2.D), vs = [v] ∧ Rep K H v (.lst ds) ∧ ds.length ≤ 40 ∧ ∀ H', Same H H' → Q (misV ds) H'
def sp_mIs : Sp := fun vs H Q _ => ∃ (v : V) (e : DE), vs = [v] ∧ RepE K H v e ∧ ∀ H', Same H H' → Q (.bl (shapeE e)) H'
def sp_mShapeOf (CS CP : Addr) : Sp := fun vs H Q E => ∃ (v : V) (e : DE), vs = [v] ∧ RepE K H v e ∧ (¬ fewE e = true → ∀ H', Same H H' → E (.ref CS) none H') ∧
  (∀ i : Nat, fewE e = true → misD (itemsE e) = some i → ∀ (d : Addr) (H' : Hp), Same H H' → H' d = some (.xd [("place", .int (i : Int))]) → E (.ref CP) (some d) H') ∧
  (shapeE e = true → ∀ (l : Addr) (us : List V) (H' : Hp), H l = none → Same H H' → H' l = some (.lst us) → Reps K H' us (itemsE e) → Q (.ref l) H')
def sp_mTold : Sp := fun vs H Q _ => ∃ (v : V) (e : DE), vs = [v] ∧ RepE K H v e ∧ ∀ (u : V) (H' : Hp), Same H H' → Rep K H' u (dueE e) → NewIn K H H' u e → Q u H'
def sp_mDue : Sp := fun vs H Q _ => ∃ (v : V) (e : DE), vs = [v] ∧ RepE K H v e ∧ ∀ (u : V) (H' : Hp), Same H H' → Rep K H' u (dueE e) → Q u H'
def sp_mSpoilt : Sp := fun vs H Q _ => ∃ (s p : Addr) (ns : List Int) (xs : List (List Int)), vs = [.ref s, .ref p] ∧ SqL K H s (ns.map V.int) ∧ ns.length ≤ 63 ∧ LT K H (.ref p) xs ∧ xs.length ≤ 40 ∧ (∀ x ∈ xs, x.length ≤ 4) ∧
  ∀ (l : Addr) (us : List V) (ds : List L2.D) (H' : Hp), Same H H' → H' l = some (.lst us) → Reps K H' us ds → ds.length ≤ 40 → Q (.ref l) H'
def sp_mThing : Sp := fun vs H Q _ => ∃ (s l : Addr) (ns : List Int) (us : List V) (ds : List L2.D), vs = [.ref s, .ref l] ∧ SqL K H s (ns.map V.int) ∧ ns.length ≤ 63 ∧ H l = some (.lst us) ∧ Reps K H us ds ∧ ds.length ≤ 40 ∧
  ∀ (v : V) (e : DE) (H' : Hp), Same H H' → RepE K H' v e → Q v H'
end
end Hb
namespace Hb
open PySem L2
theorem max1 (n : Nat) : (0 : Int) < (if (n : Int) > 1 then (n : Int) else 1) := by split <;> omega
theorem mod_max (c : Int) {n : Nat} (h : 0 < n) : ∃ A : Nat, c % (if (n : Int) > 1 then (n : Int) else 1) = (A : Int) ∧ A < n := by
  have e : (if (n : Int) > 1 then (n : Int) else 1) = (n : Int) := by split <;> omega
  rw [e]
  have h0 := Int.emod_nonneg c (show (n : Int) ≠ 0 by omega)
  have h1 := Int.emod_lt_of_pos c (show (0 : Int) < (n : Int) by omega)
  obtain ⟨A, hA⟩ := Int.eq_ofNat_of_zero_le h0
  exact ⟨A, hA, by omega⟩
theorem _root_.L2.Reps.put {K : PySem.W.Frag} {H : Hp} {v : V} {d : L2.D} (h : Rep K H v d) : ∀ {vs : List V} {ds : List L2.D} (j : Nat), Reps K H vs ds → Reps K H (vs.set j v) (ds.set j d)
  | vs, [], j, r => by cases (show vs = [] from r); exact rfl
  | vs, e :: ds, 0, r => by
    obtain ⟨u, q, rfl, h1, h2⟩ := r
    exact ⟨v, q, rfl, h, h2⟩
  | vs, e :: ds, j + 1, r => by
    obtain ⟨u, q, rfl, h1, h2⟩ := r
    exact ⟨u, q.set j v, rfl, h1, L2.Reps.put h j h2⟩
theorem imms_bl : ∀ ns : List Int, imms (nums ns ++ [.bl true]) = true
  | [] => rfl
  | n :: ns => by show (imm (.int n) && imms (nums ns ++ [.bl true])) = true; rw [imms_bl ns]; rfl
theorem imms_reps : ∀ n : Nat, imms (List.replicate n (L2.D.tup [])) = true
  | 0 => rfl
  | n + 1 => by rw [List.replicate_succ]; show (imm (.tup []) && imms _) = true; rw [imms_reps n]; rfl
theorem le4_of {xs : List (List Int)} (h : IsShape xs) {x : List Int} (hx : x ∈ xs) : x.length ≤ 4 := by
  obtain ⟨k, hk⟩ := List.getElem?_of_mem hx
  have := (h k x hk).cnt
  omega

theorem due_at {K : PySem.W.Frag} {H : Hp} {u : V} {e : DE} (h : Rep K H u (dueE e)) : ∃ (t : Addr) (x : Str) (r : List V), u = .ref t ∧ SqT K H t (.str x :: r) ∧ decide (V.str x = V.str "good") = shapeE e := by
  by_cases hf : fewE e = true
  · cases hm : misD (itemsE e) with
    | some i =>
      rw [due_piece hf hm] at h
      obtain ⟨t, us, rfl, hq, v, r, rfl, hv, _⟩ := h
      cases (show v = .str "piece" from hv)
      exact ⟨t, _, r, rfl, hq, by unfold shapeE; rw [hf, hm]; exact (show decide (V.str "piece" = V.str "good") = false by decide)⟩
    | none =>
      rw [due_good hf hm] at h
      obtain ⟨t, us, rfl, hq, v, r, rfl, hv, _⟩ := h
      cases (show v = .str "good" from hv)
      exact ⟨t, _, r, rfl, hq, by unfold shapeE; rw [hf, hm]; decide⟩
  · rw [due_shape hf] at h
    obtain ⟨t, us, rfl, hq, v, r, rfl, hv, _⟩ := h
    cases (show v = .str "shape" from hv)
    exact ⟨t, _, r, rfl, hq, by unfold shapeE; rw [Bool.eq_false_iff.mpr hf]; exact (show decide (V.str "shape" = V.str "good") = false by decide)⟩
theorem three_at {a b c : Int} {w : Nat} (h : w < 3) : ([V.int a, V.int b, V.int c] : List V)[w]? = some (.int (([a, b, c] : List Int).getD w 0)) := by
  match w, h with
  | 0, _ => rfl
  | 1, _ => rfl
  | 2, _ => rfl
theorem ixN_nat {n A : Nat} (h : A < n) : ixN n (A : Int) = some A := by
  unfold ixN
  rw [if_pos (by omega), if_pos (by omega)]
  simp
end Hb

set_option Elab.async false
set_option linter.all false
set_option maxRecDepth 100000
set_option maxHeartbeats 4000000
namespace Hb
open PySem L2
def top (i : Nat) : Stmt := PySem.Challenge.pw_holebook_k04_what_is_a_shape.main.body.getD i (.Pass ⟨0, 0, 0, 0⟩)
structure Txt (K : PySem.W.Frag) (mg : Str → Option Value) (C_HoleError C_NoShape C_NoPiece : Addr) : Prop where
  m_HoleError : mg "HoleError" = some (.ref C_HoleError)
  m_NoShape : mg "NoShape" = some (.ref C_NoShape)
  e_NoShape : PySem.W.excIn K C_NoShape bmV "ValueError.__new__" = true
  x_NoShape : ExcC K C_NoShape
  k_NoShape : PySem.W.ktsIn K C_NoShape "BaseException" = true
  m_NoPiece : mg "NoPiece" = some (.ref C_NoPiece)
  x_NoPiece : ExcC K C_NoPiece
  k_NoPiece : PySem.W.ktsIn K C_NoPiece "BaseException" = true
  iv_NoPiece : PySem.W.kitOne K (.ref C_NoPiece) (.type "ValueError") = some true
  i_NoShape_HoleError : PySem.W.kitOne K (.ref C_NoShape) (.ref C_HoleError) = some true
  s_NoShape_NoShape : PySem.W.subIn K (.ref C_NoShape) (.ref C_NoShape) = some true
  i_NoShape_NoPiece : PySem.W.kitOne K (.ref C_NoShape) (.ref C_NoPiece) = some false
  i_NoPiece_HoleError : PySem.W.kitOne K (.ref C_NoPiece) (.ref C_HoleError) = some true
  s_NoPiece_NoShape : PySem.W.subIn K (.ref C_NoPiece) (.ref C_NoShape) = some false
  s_NoPiece_NoPiece : PySem.W.subIn K (.ref C_NoPiece) (.ref C_NoPiece) = some true
  bi_HoleError : BaseInit K C_HoleError
  ec_NoPiece : ∃ f, ErrC K C_NoPiece C_HoleError f
  ea_NoPiece_place : ErrA K C_NoPiece "place"
  x_FACE_COUNTS : ∃ a, mg "FACE_COUNTS" = some (.ref a) ∧ ∀ H, SqT K H a (([0, 2, 3, 4] : List Int).map V.int)
  x_MOST_PIECES : ∃ t, mg "MOST_PIECES" = some (.int 40 t)
  n_isinstance : mg "isinstance" = none
  n_int : mg "int" = none
  n_bool : mg "bool" = none
  n_max : mg "max" = none
  n_len : mg "len" = none
  n_all : mg "all" = none
  n_tuple : mg "tuple" = none
  n_range : mg "range" = none
  n_list : mg "list" = none
  n_enumerate : mg "enumerate" = none
  n_ValueError : mg "ValueError" = none
def cutI (ns : List Int) (lo hi : Option Int) : List Int := (ns.drop (HT.sIx ns.length 0 lo)).take (HT.sIx ns.length ns.length hi - HT.sIx ns.length 0 lo)
theorem cutV_map (ns : List Int) (lo hi : Option Int) : cutV (ns.map V.int) lo hi = (cutI ns lo hi).map V.int := by
  unfold cutV cutI
  rw [List.length_map, List.map_take, List.map_drop]
theorem cutI_len (ns : List Int) (lo hi : Option Int) : (cutI ns lo hi).length ≤ ns.length := by
  unfold cutI
  rw [List.length_take, List.length_drop]
  omega

theorem ndc_0 : (["face", "shape", "level"] : List Str).Nodup := by decide +kernel
theorem ndc_1 : (["_law_letter"] : List Str).Nodup := by decide +kernel
theorem ndc_2 : (["_law_i", "_law_word"] : List Str).Nodup := by decide +kernel
theorem ndc_3 : (["_law_word", "_law_family", "_law_words"] : List Str).Nodup := by decide +kernel
theorem ndc_4 : (["_law_face", "_law_words"] : List Str).Nodup := by decide +kernel
theorem ndc_5 : (["_law_k"] : List Str).Nodup := by decide +kernel
section
variable {P : Program} {w : World} {K : PySem.W.Frag} {mg : Str → Option Value} {base : Heap} {C_HoleError C_NoShape C_NoPiece : Addr}
abbrev s_NoPiece__init_ : Stmt := inClass (top 3) 0
theorem sc_NoPiece__init_ : FnScope ["self", "place"] ["self", "place"] (defScope s_NoPiece__init_) := ⟨rfl, rfl, rfl, by decide +kernel, rfl, by decide +kernel, by decide +kernel⟩
theorem ok_NoPiece__init_ {f : Addr} {fd : FuncData} (F : Fun K "__init__" "NoPiece.__init__" s_NoPiece__init_ f fd) (T : Txt K mg C_HoleError C_NoShape C_NoPiece)  : FnOk P w K mg base CX0 1 f fd ["self", "place"] (sp_NoPiece_init K  C_NoPiece) := by
  refine F.ok sc_NoPiece__init_ (fun vs H Q E h => ?_) (fun cdv A outer s H vs Q E hr h => ?_)
  · obtain ⟨e, n, rfl, he, hn, k⟩ := h
    rfl
  · obtain ⟨e, n, rfl, he, hn, k⟩ := h
    refine ⟨_, (pss_cons (ps_expr (pe_base (K := K) (by rfl) T.m_HoleError T.bi_HoleError (pa_cons (pv 0) (pa_cons (pe_fstr (pj_cons pe_str (pj_cons (pe_fmt (pv 1)) (pj_cons pe_str pj_nil)))) pa_nil))))
      (pss_one (ps_err (K := K) (pv 0) (pv 1) (by rfl)))), ?_⟩
    obtain ⟨fi, Z⟩ := T.ec_NoPiece
    refine ⟨_, rfl, ?_⟩
    refine ⟨_, rfl, smallS, ?_⟩
    refine ⟨_, rfl, .inl ⟨n, rfl, hn, fun z hz => ⟨_, rfl, hz, ?_⟩⟩⟩
    refine ⟨_, rfl, smallS, fun x hx => ?_⟩
    refine ⟨e, C_NoPiece, C_HoleError, fi, _, rfl, he, Z, ?_⟩
    refine ⟨_, rfl, _, rfl, e, C_NoPiece, C_HoleError, fi, rfl, he, Z, T.ea_NoPiece_place.no, fun d hd => ?_⟩
    exact k d hd
abbrev s_is_whole : Stmt := top 5
theorem sc_is_whole : FnScope ["thing"] ["thing"] (defScope s_is_whole) := ⟨rfl, rfl, rfl, by decide +kernel, rfl, by decide +kernel, by decide +kernel⟩
theorem ok_is_whole {f : Addr} {fd : FuncData} (F : Fun K "is_whole" "is_whole" s_is_whole f fd) (T : Txt K mg C_HoleError C_NoShape C_NoPiece)  : FnOk P w K mg base CX0 1 f fd ["thing"] (sp_is_whole K) := by
  refine F.ok sc_is_whole (fun vs H Q E h => ?_) (fun cdv A outer s H vs Q E hr h => ?_)
  · obtain ⟨x, d, rfl, hx, k⟩ := h
    rfl
  · obtain ⟨x, d, rfl, hx, k⟩ := h
    refine ⟨_, (pss_one (ps_ret (pe_and (pe_callB (kcall_isinst (K := K)) (by rfl) T.n_isinstance boot_isinstanceB (pa_cons (pv 0) (pa_cons (pe_bltn (v := .ty "int") rfl T.n_int boot_intT rfl) pa_nil))) (pe_one (pe_not (pe_callB (kcall_isinst (K := K)) (by rfl) T.n_isinstance boot_isinstanceB (pa_cons (pv 0) (pa_cons (pe_bltn (v := .ty "bool") rfl T.n_bool boot_boolT rfl) pa_nil)))))))), ?_⟩
    refine ⟨_, rfl, _, _, d, rfl, .inl rfl, hx, _, rfl, ?_⟩
    refine ite2 (fun e => ?_) (fun e => ?_)
    · refine ⟨_, rfl, _, _, d, rfl, .inr (.inl rfl), hx, _, rfl, ?_⟩
      have e2 : wholeD d = !isD "bool" d := by unfold wholeD; rw [e]; rfl
      rw [e2] at k
      exact k
    · have e2 : wholeD d = false := by unfold wholeD; simp [e]
      rw [e2] at k
      exact k
abbrev s_level_of : Stmt := top 9
theorem sc_level_of : FnScope ["piece"] ["piece"] (defScope s_level_of) := ⟨rfl, rfl, rfl, by decide +kernel, rfl, by decide +kernel, by decide +kernel⟩
theorem ok_level_of {f : Addr} {fd : FuncData} (F : Fun K "level_of" "level_of" s_level_of f fd) (T : Txt K mg C_HoleError C_NoShape C_NoPiece)  : FnOk P w K mg base CX0 1 f fd ["piece"] (sp_level_of K) := by
  refine F.ok sc_level_of (fun vs H Q E h => ?_) (fun cdv A outer s H vs Q E hr h => ?_)
  · obtain ⟨x, ds, rfl, hx, k⟩ := h
    rfl
  · obtain ⟨x, ds, rfl, hx, k⟩ := h
    refine ⟨_, (pss_one (ps_ret (pe_callB (call_max2 (by rfl)) (by rfl) T.n_max boot_maxB (pa_cons (pe_op op_sub (pe_callB (kcall_len_seq (K := K)) (by rfl) T.n_len PySem.boot_len (pa_cons (pv 0) pa_nil)) pe_int) (pa_cons pe_int pa_nil))))), ?_⟩
    obtain ⟨p, us, e, hq, hl⟩ : ∃ (p : Addr) (us : List V), x = .ref p ∧ (SqL K H p us ∨ SqT K H p us) ∧ us.length = ds.length := by
      rcases hx with ⟨p, us, e, hq, r⟩ | ⟨p, us, e, hq, r⟩
      · exact ⟨p, us, e, .inl hq, r.length⟩
      · exact ⟨p, us, e, .inr hq, r.length⟩
    subst e
    refine ⟨_, rfl, p, us, rfl, hq, _, _, rfl, rfl, _, _, rfl, ?_⟩
    rw [hl]
    exact k
abbrev s_faces_agree : Stmt := top 12
theorem sc_faces_agree : FnScope ["shape", "faces", "j", "i"] ["shape", "faces"] (defScope s_faces_agree) := ⟨rfl, rfl, rfl, by decide +kernel, rfl, by decide +kernel, by decide +kernel⟩
theorem nd_faces_agree : (["shape", "faces", "j", "i"] : List Str).Nodup := by decide +kernel

theorem ok_faces_agree {f : Addr} {fd : FuncData} (F : Fun K "faces_agree" "faces_agree" s_faces_agree f fd) (T : Txt K mg C_HoleError C_NoShape C_NoPiece)  : FnOk P w K mg base CX0 1 f fd ["shape", "faces"] (sp_faces_agree K) := by
  refine F.ok sc_faces_agree (fun vs H Q E h => ?_) (fun cdv A outer s H vs Q E hr h => ?_)
  · obtain ⟨a, v, xs, p, rfl, hL, hv, hp4, hf, k⟩ := h
    rfl
  · obtain ⟨a, v, xs, p, rfl, hL, hv, hp4, hf, k⟩ := h
    refine ⟨_, (pss_cons (ps_for PassesOwn.never rfl (pi_range1 (by rfl) T.n_range (pa_cons (pe_callB (kcall_len_seq (K := K)) (by rfl) T.n_len PySem.boot_len (pa_cons (pv 1) pa_nil)) pa_nil)) (pg_name (i := 2) nd_faces_agree (by rfl) (by first | exact Or.inl rfl | exact Or.inr rfl)) (pss_one (ps_for PassesOwn.never rfl (pi_range1 (by rfl) T.n_range (pa_cons (pv 2) pa_nil)) (pg_name (i := 3) nd_faces_agree (by rfl) (by first | exact Or.inl rfl | exact Or.inr rfl)) (pss_one (ps_if (pt_cmpR op_ne (pe_ix (kix_tup (K := K)) (pe_ix (kix_list (K := K)) (pv 0) (pe_ix (kix_tup (K := K)) (pv 1) (pv 2) (fun _ _ => rfl)) (fun _ _ => rfl)) (pv 3) (fun _ _ => rfl)) (pe_ix (kix_tup (K := K)) (pe_ix (kix_list (K := K)) (pv 0) (pe_ix (kix_tup (K := K)) (pv 1) (pv 3) (fun _ _ => rfl)) (fun _ _ => rfl)) (pe_op op_sub (pv 2) pe_int) (fun _ _ => rfl)) (nomark _)) (pss_one (ps_ret pe_bl)) pss_nil)))))
      (pss_one (ps_ret pe_bl))), ?_⟩
    obtain ⟨pa, rfl, hq⟩ := hv.sq
    have hpl : (p.map V.int).length = p.length := List.length_map ..
    refine ⟨_, rfl, pa, _, rfl, .inr hq, _, rfl, by omega, by omega, ?_⟩
    rw [hpl]
    refine for_range (lo := 0) (n := ((p.length : Nat) : Int).toNat) (fun j σ H2 => H = H2 ∧ (∃ o2 o3, σ = [some (.ref a), some (.ref pa), o2, o3]) ∧ ∀ j' i', j' < j → i' < j' → agreeAt xs p j' i' = true)
      ⟨rfl, ⟨none, none, rfl⟩, fun j' i' h => absurd h (by omega)⟩ ?_ ?_
    · rintro j σ H2 hj ⟨rfl, ⟨o2, o3, rfl⟩, hall⟩
      have hj' : j < p.length := by omega
      refine ⟨_, rfl, _, rfl, by omega, by omega, ?_⟩
      refine for_range (lo := 0) (n := ((0 : Int) + (j : Int)).toNat) (fun i σ H2 => H = H2 ∧ (∃ o3, σ = [some (.ref a), some (.ref pa), some (.int (0 + j)), o3]) ∧ ∀ i', i' < i → agreeAt xs p j i' = true)
        ⟨rfl, ⟨_, rfl⟩, fun i' h => absurd h (by omega)⟩ ?_ ?_
      · rintro i σ H2 hi ⟨rfl, ⟨o3, rfl⟩, hall2⟩
        have hij : i < j := by omega
        have mj : p.getD j 0 ∈ p := by rw [List.getD_eq_getElem?_getD, List.getElem?_eq_getElem hj']; exact List.getElem_mem _
        have mi : p.getD i 0 ∈ p := by rw [List.getD_eq_getElem?_getD, List.getElem?_eq_getElem (by omega)]; exact List.getElem_mem _
        obtain ⟨j0, j1, j2⟩ := hf _ mj
        obtain ⟨i0, i1, i2⟩ := hf _ mi
        obtain ⟨_, z, hq1, at1⟩ := TI.get (i := (0 : Int) + (j : Int)) hv (by omega) (by omega)
        cases z
        rw [show ((0 : Int) + (j : Int)).toNat = j by omega] at at1
        obtain ⟨_, z, hq2, at2⟩ := TI.get (i := (0 : Int) + (i : Int)) hv (by omega) (by omega)
        cases z
        rw [show ((0 : Int) + (i : Int)).toNat = i by omega] at at2
        obtain ⟨us1, v1, hu1, av1, tv1⟩ := LT.get hL j0 j1
        obtain ⟨us2, v2, hu2, av2, tv2⟩ := LT.get hL i0 i1
        obtain ⟨b1, e1, hb1, ab1⟩ := TI.get (i := (0 : Int) + (i : Int)) tv1 (by omega) (by omega)
        obtain ⟨b2, e2, hb2, ab2⟩ := TI.get (i := (0 : Int) + (j : Int) - 1) tv2 (by omega) (by omega)
        subst e1 e2
        rw [show ((0 : Int) + (i : Int)).toNat = i by omega] at ab1
        rw [show ((0 : Int) + (j : Int) - 1).toNat = j - 1 by omega] at ab2
        refine ⟨_, rfl, _, rfl, _, rfl, pa, _, _, _, rfl, rfl, hq1, at1, a, us1, _, _, rfl, rfl, hu1, av1, _, rfl, b1, _, _, _, rfl, rfl, hb1, ab1, ?_⟩
        refine ⟨_, rfl, _, rfl, _, rfl, pa, _, _, _, rfl, rfl, hq2, at2, a, us2, _, _, rfl, rfl, hu2, av2, _, rfl, _, _, rfl, rfl, b2, _, _, _, rfl, rfl, hb2, ab2, ?_⟩
        refine ⟨rfl, _, rfl, ?_⟩
        by_cases hag : (xs.getD (p.getD j 0).toNat []).getD i 0 = (xs.getD (p.getD i 0).toNat []).getD (j - 1) 0
        · refine ifN (eqI hag) ?_
          refine ⟨rfl, ⟨_, rfl⟩, fun i' h => ?_⟩
          by_cases hz : i' = i
          · subst hz; unfold agreeAt; exact decide_eq_true hag
          · exact hall2 i' (by omega)
        · refine ifP (neI hag) ?_
          have e2 : agreeB xs p = false := by
            cases q : agreeB xs p with
            | false => rfl
            | true =>
              unfold agreeB at q
              rw [List.all_eq_true] at q
              have q2 := q j (List.mem_range.mpr hj')
              rw [List.all_eq_true] at q2
              have q3 := q2 i (List.mem_range.mpr hij)
              exact absurd (of_decide_eq_true q3) hag
          rw [e2] at k
          exact k
      · rintro σ H2 ⟨rfl, ⟨o3, rfl⟩, hall2⟩
        refine ⟨rfl, ⟨_, _, rfl⟩, fun j' i' h1 h2 => ?_⟩
        by_cases hz : j' = j
        · subst hz; exact hall2 i' (by omega)
        · exact hall j' i' (by omega) h2
    · rintro σ H2 ⟨rfl, ⟨o2, o3, rfl⟩, hall⟩
      have e2 : agreeB xs p = true := by
        unfold agreeB
        rw [List.all_eq_true]
        intro j hj
        rw [List.all_eq_true]
        intro i hi
        have := List.mem_range.mp hj
        exact hall j i (by omega) (List.mem_range.mp hi)
      rw [e2] at k
      exact k
abbrev s_is_list_of_few : Stmt := top 17
theorem sc_is_list_of_few : FnScope ["thing"] ["thing"] (defScope s_is_list_of_few) := ⟨rfl, rfl, rfl, by decide +kernel, rfl, by decide +kernel, by decide +kernel⟩
theorem ok_is_list_of_few {f : Addr} {fd : FuncData} (F : Fun K "is_list_of_few" "is_list_of_few" s_is_list_of_few f fd) (T : Txt K mg C_HoleError C_NoShape C_NoPiece)  : FnOk P w K mg base CX0 1 f fd ["thing"] (sp_mFew K) := by
  refine F.ok sc_is_list_of_few (fun vs H Q E h => ?_) (fun cdv A outer s H vs Q E hr h => ?_)
  · obtain ⟨v, e, rfl, hv, k⟩ := h
    rfl
  · obtain ⟨v, e, rfl, hv, k⟩ := h
    obtain ⟨t_MOST_PIECES, c_MOST_PIECES⟩ := T.x_MOST_PIECES
    refine ⟨_, (pss_one (ps_ret (pe_and (pe_callB (call_isiT (K := K)) (by rfl) T.n_isinstance boot_isinstanceB (pa_cons (pv 0) (pa_cons (pe_bltn (v := .ty "list") rfl T.n_list boot_listT rfl) pa_nil))) (pe_one (pe_cmpR op_le (pe_callB (kcall_len_seq (K := K)) (by rfl) T.n_len PySem.boot_len (pa_cons (pv 0) pa_nil)) (pe_glob (v := .int 40) (by rfl) c_MOST_PIECES ⟨_, rfl⟩) (nomark _)))))), ?_⟩
    refine ⟨_, rfl, v, "list", .one e, rfl, .inr (.inr (.inr (.inr (.inl rfl)))), hv, _, rfl, ?_⟩
    refine ite2 (fun h1 => ?_) (fun h1 => ?_)
    · obtain ⟨ds, rfl⟩ := isE_lst h1
      obtain ⟨a, vs, rfl, hq, hr⟩ := hv
      have hl : vs.length = ds.length := hr.length
      refine ⟨_, rfl, a, _, rfl, .inl hq, _, _, rfl, rfl, ?_⟩
      show Q (.bl (decide ((vs.length : Int) ≤ 40))) H
      rw [hl]
      have : decide ((ds.length : Int) ≤ 40) = fewE (.d (.lst ds)) := by
        show _ = decide (ds.length ≤ 40)
        exact decide_eq_decide.mpr (by omega)
      rw [this]
      exact k
    · have : fewE e = false := few_not h1
      rw [this] at k
      exact k
abbrev s_L_whole : Stmt := top 20
theorem sc_L_whole : FnScope ["_law_found"] ["_law_found"] (defScope s_L_whole) := ⟨rfl, rfl, rfl, by decide +kernel, rfl, by decide +kernel, by decide +kernel⟩
theorem ok_L_whole {f : Addr} {fd : FuncData} (F : Fun K "_law_whole" "_law_whole" s_L_whole f fd) (T : Txt K mg C_HoleError C_NoShape C_NoPiece)  : FnOk P w K mg base CX0 1 f fd ["_law_found"] (sp_L_whole K) := by
  refine F.ok sc_L_whole (fun vs H Q E h => ?_) (fun cdv A outer s H vs Q E hr h => ?_)
  · obtain ⟨x, d, rfl, hx, k⟩ := h
    rfl
  · obtain ⟨x, d, rfl, hx, k⟩ := h
    refine ⟨_, (pss_one (ps_ret (pe_and (pe_callB (kcall_isinst (K := K)) (by rfl) T.n_isinstance boot_isinstanceB (pa_cons (pv 0) (pa_cons (pe_bltn (v := .ty "int") rfl T.n_int boot_intT rfl) pa_nil))) (pe_one (pe_not (pe_callB (kcall_isinst (K := K)) (by rfl) T.n_isinstance boot_isinstanceB (pa_cons (pv 0) (pa_cons (pe_bltn (v := .ty "bool") rfl T.n_bool boot_boolT rfl) pa_nil)))))))), ?_⟩
    refine ⟨_, rfl, _, _, d, rfl, .inl rfl, hx, _, rfl, ?_⟩
    refine ite2 (fun e => ?_) (fun e => ?_)
    · refine ⟨_, rfl, _, _, d, rfl, .inr (.inl rfl), hx, _, rfl, ?_⟩
      have e2 : wholeD d = !isD "bool" d := by unfold wholeD; rw [e]; rfl
      rw [e2] at k
      exact k
    · have e2 : wholeD d = false := by unfold wholeD; simp [e]
      rw [e2] at k
      exact k
abbrev s_L_cell_at : Stmt := top 22
theorem sc_L_cell_at : FnScope ["_law_script", "_law_k"] ["_law_script", "_law_k"] (defScope s_L_cell_at) := ⟨rfl, rfl, rfl, by decide +kernel, rfl, by decide +kernel, by decide +kernel⟩
theorem ok_L_cell_at {f : Addr} {fd : FuncData} (F : Fun K "_law_cell_at" "_law_cell_at" s_L_cell_at f fd) (T : Txt K mg C_HoleError C_NoShape C_NoPiece)  : FnOk P w K mg base CX0 1 f fd ["_law_script", "_law_k"] (sp_L_cell_at K) := by
  refine F.ok sc_L_cell_at (fun vs H Q E h => ?_) (fun cdv A outer s H vs Q E hr h => ?_)
  · obtain ⟨a, ns, k, rfl, hS, h0, hl, kq⟩ := h
    rfl
  · obtain ⟨a, ns, k, rfl, hS, h0, hl, kq⟩ := h
    refine ⟨_, (pss_cons (ps_if (pt_cmpR op_lt (pv 1) (pe_callB (kcall_len_seq (K := K)) (by rfl) T.n_len PySem.boot_len (pa_cons (pv 0) pa_nil)) (nomark _)) (pss_one (ps_ret (pe_ix (kix_list (K := K)) (pv 0) (pv 1) (fun _ _ => rfl)))) pss_nil)
      (pss_one (ps_ret pe_int))), ?_⟩
    refine ⟨_, rfl, _, rfl, a, _, rfl, .inl hS, _, _, rfl, rfl, _, rfl, ?_⟩
    refine ite2 (fun h1 => ?_) (fun h1 => ?_)
    · have h2 : k < (ns.length : Int) := by simpa using h1
      have e : atI (ns.map V.int) k = some (.int (cellAt ns k)) := by
        obtain ⟨j, rfl⟩ := Int.eq_ofNat_of_zero_le h0
        refine atI_nat ?_
        have hj : j < ns.length := by omega
        rw [List.getElem?_map, List.getElem?_eq_getElem hj]
        simp [cellAt, hj]
      exact ⟨_, rfl, _, rfl, a, _, k, _, rfl, rfl, hS, e, kq⟩
    · have h2 : ¬ k < (ns.length : Int) := by simpa using h1
      have e : cellAt ns k = 0 := by
        unfold cellAt
        have : ns.length ≤ k.toNat := by omega
        simp [this]
      rw [e] at kq
      exact kq
abbrev s_L_faces_by : Stmt := top 23
theorem sc_L_faces_by : FnScope ["_law_word", "_law_family", "_law_size", "_law_faces", "_law_i"] ["_law_word", "_law_family"] (defScope s_L_faces_by) := ⟨rfl, rfl, rfl, by decide +kernel, rfl, by decide +kernel, by decide +kernel⟩
theorem nd_L_faces_by : (["_law_word", "_law_family", "_law_size", "_law_faces", "_law_i"] : List Str).Nodup := by decide +kernel

theorem ok_L_faces_by {f : Addr} {fd : FuncData} (F : Fun K "_law_faces_by" "_law_faces_by" s_L_faces_by f fd) (T : Txt K mg C_HoleError C_NoShape C_NoPiece)  : FnOk P w K mg base CX0 1 f fd ["_law_word", "_law_family"] (sp_L_faces_by K) := by
  refine F.ok sc_L_faces_by (fun vs H Q E h => ?_) (fun cdv A outer s H vs Q E hr h => ?_)
  · obtain ⟨v, w, fam, rfl, hv, hw, k⟩ := h
    rfl
  · obtain ⟨v, w, fam, rfl, hv, hw, k⟩ := h
    refine ⟨_, (pss_cons (ps_set (i := 2) nd_L_faces_by (by rfl) (by first | exact Or.inl rfl | exact Or.inr rfl) (pe_callB (kcall_len_seq (K := K)) (by rfl) T.n_len PySem.boot_len (pa_cons (pv 0) pa_nil)))
      (pss_cons (ps_if (pt_cmpR op_eq (pv 1) pe_int (nomark _)) (pss_cons (ps_if (pt_cmpR op_lt (pv 2) pe_int (nomark _)) (pss_one (ps_ret (pe_lst pa_nil))) pss_nil)
      (pss_one (ps_ret (pe_comp (N' := ["_law_i", "_law_word"]) (cap := [none, some 0]) (by rfl) (by kernel_rfl) (pi_range1 (by rfl) T.n_range (pa_cons (pv 2) pa_nil)) (fun _ _ _ _ => (pg_name (i := 0) ndc_2 (by rfl) (by first | exact Or.inl rfl | exact Or.inr rfl))) (fun _ _ _ _ => pts_nil) (fun _ _ _ _ => (pe_op (kop_catW (K := K)) (pe_slice (ksl_tupW (K := K)) (pv 1) po_none (po_some (pv 0))) (pe_slice (ksl_tupW (K := K)) (pv 1) (po_some (pe_op op_add (pv 0) pe_int)) po_none))))))) pss_nil)
      (pss_cons (ps_if (pt_cmpR op_eq (pv 2) pe_int (nomark _)) (pss_one (ps_ret (pe_lst pa_nil))) pss_nil)
      (pss_cons (ps_if (pt_cmpR op_lt (pv 1) pe_int (nomark _)) (pss_cons (ps_if (pt_cmpR op_eq (pv 2) pe_int (nomark _)) (pss_one (ps_ret (pe_lst (pa_cons (pe_tup pa_nil) (pa_cons (pe_tup pa_nil) pa_nil))))) pss_nil)
      (pss_one (ps_ret (pe_comp (N' := ["_law_letter"]) (cap := [none]) (by rfl) (by kernel_rfl) (kpi_tup (K := K) (pv 0)) (fun _ _ _ _ => (pg_name (i := 0) ndc_1 (by rfl) (by first | exact Or.inl rfl | exact Or.inr rfl))) (fun _ _ _ _ => pts_nil) (fun _ _ _ _ => (pe_tup (pa_cons (pv 0) pa_nil))))))) pss_nil)
      (pss_cons (ps_set (i := 3) nd_L_faces_by (by rfl) (by first | exact Or.inl rfl | exact Or.inr rfl) (pe_lst (pa_cons (pe_slice (ksl_tupW (K := K)) (pv 0) (po_some pe_int) po_none) pa_nil)))
      (pss_cons (ps_for PassesOwn.never rfl (pi_range1 (by rfl) T.n_range (pa_cons (pe_op op_sub (pv 2) pe_int) pa_nil)) (pg_name (i := 4) nd_L_faces_by (by rfl) (by first | exact Or.inl rfl | exact Or.inr rfl)) (pss_one (ps_expr (kpe_bm (K := K) PySem.F.plainAttrs_list PySem.F.slot_list_append PySem.F.type_list_append mt_append (pv 3) (pa_cons (pe_op (kop_catW (K := K)) (pe_op (kop_catW (K := K)) (pe_slice (ksl_tupW (K := K)) (pv 0) po_none (po_some (pv 4))) (pe_tup (pa_cons (pe_op op_mod (pe_op op_add (pe_ix (kix_tup (K := K)) (pv 0) (pv 4) (fun _ _ => rfl)) (pe_ix (kix_tup (K := K)) (pv 0) (pe_op op_add (pv 4) pe_int) (fun _ _ => rfl))) (pv 1)) pa_nil))) (pe_slice (ksl_tupW (K := K)) (pv 0) (po_some (pe_op op_add (pv 4) pe_int)) po_none)) pa_nil)))))
      (pss_cons (ps_expr (kpe_bm (K := K) PySem.F.plainAttrs_list PySem.F.slot_list_append PySem.F.type_list_append mt_append (pv 3) (pa_cons (pe_slice (ksl_tupW (K := K)) (pv 0) po_none (po_some (pe_op op_sub (pv 2) pe_int))) pa_nil)))
      (pss_one (ps_ret (pv 3)))))))))), ?_⟩
    obtain ⟨aw, rfl, hq⟩ := hv.sq
    have hlen : (w.map V.int).length = w.length := List.length_map ..
    have hl4 : w.length ≤ 4 := by rcases hw with z | z | z <;> omega
    refine ⟨_, rfl, aw, _, rfl, .inr hq, ?_⟩
    rw [hlen]
    refine ⟨_, rfl, rfl, _, rfl, ?_⟩
    refine ite2 (fun h1 => ?_) (fun h1 => ?_)
    · have hf : fam = 0 := by simpa using h1
      subst hf
      refine ⟨_, rfl, _, _, rfl, rfl, _, rfl, ?_⟩
      refine ite2 (fun h2 => ?_) (fun h2 => ?_)
      · have h3 : w.length < 2 := by have : (w.length : Int) < 2 := by simpa using h2
                                     omega
        refine ⟨Nat.zero_le _, fun p hp => ?_⟩
        refine k p [] _ hp (Same.new hp) upd_same ?_
        have e : facesBy w 0 = [] := by unfold facesBy; rw [if_pos rfl, if_pos h3]
        rw [e]
        rfl
      · have h3 : ¬ w.length < 2 := by have : ¬ (w.length : Int) < 2 := by simpa using h2
                                       omega
        have e : facesBy w 0 = (List.range w.length).map fun i => w.take i ++ w.drop (i + 1) := by unfold facesBy; rw [if_pos rfl, if_neg h3]
        rw [e] at k
        refine ⟨_, rfl, _, rfl, by omega, by omega, fun D hD => ?_⟩
        refine comp_range0 (fun i ys τ H1 => i ≤ w.length ∧ Same H H1 ∧ H1 D = some (.lst ys) ∧ Reps K H1 ys (((List.range i).map fun i => w.take i ++ w.drop (i + 1)).map tI) ∧ ∃ o, τ = [o, some (.ref aw)])
          ⟨Nat.zero_le _, Same.new hD, upd_same, rfl, none, rfl⟩ ?_ ?_
        · rintro i ys τ H1 hi ⟨hi1, s1, hD1, r1, o, rfl⟩
          have hi2 : i < w.length := by simpa using hi
          have hq1 : SqT K H1 aw (w.map V.int) := s1.seqT hq
          refine ⟨_, rfl, _, rfl, _, rfl, aw, _, rfl, hq1, ?_, fun p1 H2 s2 q2 => ?_⟩
          · rw [hlen]; rintro ⟨_, z⟩
            rw [show ((0 : Int) + (i : Int)) = ((i : Nat) : Int) by omega, HT.sIx_nat] at z
            omega
          refine ⟨_, rfl, _, rfl, _, _, rfl, rfl, _, rfl, aw, _, rfl, s2.seqT hq1, ?_, fun p2 H3 s3 q3 => ?_⟩
          · rw [hlen]; rintro ⟨z, _⟩
            rw [show ((0 : Int) + (i : Int) + 1) = ((i + 1 : Nat) : Int) by omega, HT.sIx_nat] at z
            omega
          rw [show ((0 : Int) + (i : Int)) = ((i : Nat) : Int) by omega, cut_take] at q2
          rw [show ((0 : Int) + (i : Int) + 1) = ((i + 1 : Nat) : Int) by omega, cut_drop] at q3
          refine ⟨p1, p2, _, _, rfl, rfl, s3.seqT q2, q3, ?_, fun p H4 s4 q4 => ?_⟩
          · refine smallE ?_
            simp only [List.length_take, List.length_drop, List.length_map]
            omega
          have s14 : Same H1 H4 := (s2.trans s3).trans s4
          have hD4 : H4 D = some (.lst ys) := s14 _ _ hD1
          have t4 : TI K H4 (.ref p) (w.take i ++ w.drop (i + 1)) := by
            refine TI.mk ?_
            rw [List.map_append, List.map_take, List.map_drop]
            exact q4
          have r4 : Reps K H4 ys (((List.range i).map fun i => w.take i ++ w.drop (i + 1)).map tI) := Reps.same s14 r1
          have hyl : ys.length = i := by have := r1.length; simpa using this
          refine ⟨hD4, small (by omega), by omega, (s1.trans s14).turn hD, upd_same, ?_, _, rfl⟩
          rw [List.range_succ, List.map_append]
          exact push_TI hD4 r4 t4
        · rintro ys τ H1 ⟨_, s1, hD1, r1, _⟩
          rw [show ((w.length : Int)).toNat = w.length by omega] at r1
          exact k D ys H1 hD s1 hD1 r1
    · have hf : ¬ fam = 0 := by simpa using h1
      refine ⟨_, rfl, rfl, _, rfl, ?_⟩
      refine ite2 (fun h2 => ?_) (fun h2 => ?_)
      · have h3 : w.length = 0 := by simpa using h2
        refine ⟨Nat.zero_le _, fun p hp => ?_⟩
        refine k p [] _ hp (Same.new hp) upd_same ?_
        have e : facesBy w fam = [] := by unfold facesBy; rw [if_neg hf, if_pos h3]
        rw [e]
        rfl
      have h3 : ¬ w.length = 0 := by simpa using h2
      refine ⟨_, rfl, _, _, rfl, rfl, _, rfl, ?_⟩
      refine ite2 (fun h4 => ?_) (fun h4 => ?_)
      · have h5 : fam < 0 := by simpa using h4
        refine ⟨_, rfl, rfl, _, rfl, ?_⟩
        refine ite2 (fun h6 => ?_) (fun h6 => ?_)
        · have h7 : w.length = 1 := by
            have : (w.length : Int) = 1 := by simpa using h6
            omega
          have e : facesBy w fam = [[], []] := by unfold facesBy; rw [if_neg hf, if_neg h3, if_pos h5, if_pos h7]
          rw [e] at k
          refine ⟨Nat.zero_le _, fun p1 hp1 => ⟨Nat.zero_le _, fun p2 hp2 => ⟨smallE (by simp), fun p hp => ?_⟩⟩⟩
          have s1 : Same H (upd H p1 (.tup [])) := Same.new hp1
          have s2 : Same (upd H p1 (.tup [])) (upd (upd H p1 (.tup [])) p2 (.tup [])) := Same.new hp2
          have s3 : Same (upd (upd H p1 (.tup [])) p2 (.tup [])) (upd (upd (upd H p1 (.tup [])) p2 (.tup [])) p (.lst [.ref p1, .ref p2])) := Same.new hp
          have hp0 : H p = none := (s1.trans s2).free hp
          refine k p _ _ hp0 ((s1.trans s2).trans s3) upd_same ?_
          have t1 : TI K _ (.ref p1) [] := TI.mk (.of (s3 _ _ (s2 _ _ upd_same)))
          have t2 : TI K _ (.ref p2) [] := TI.mk (.of (s3 _ _ upd_same))
          exact ⟨_, _, rfl, t1, _, _, rfl, t2, rfl⟩
        · have h7 : ¬ w.length = 1 := by
            have : ¬ (w.length : Int) = 1 := by simpa using h6
            omega
          have e : facesBy w fam = w.map fun l => [l] := by unfold facesBy; rw [if_neg hf, if_neg h3, if_pos h5, if_neg h7]
          rw [e] at k
          refine ⟨_, rfl, aw, rfl, ⟨_, hq⟩, fun D hD => ?_⟩
          refine comp_tup0 (xs := w.map V.int) (fun i ys τ H1 => i ≤ w.length ∧ Same H H1 ∧ H1 D = some (.lst ys) ∧ Reps K H1 ys (((w.take i).map fun l => [l]).map tI) ∧ ∃ o, τ = [o])
            ⟨Nat.zero_le _, Same.new hD, upd_same, rfl, none, rfl⟩ (fun i ys τ H1 _ ⟨_, s1, _⟩ => s1.seqT hq) ?_ ?_
          · rintro i x ys τ H1 hx ⟨hi1, s1, hD1, r1, o, rfl⟩
            have hi2 : i < w.length := by have := (List.getElem?_eq_some_iff.mp hx).1; simpa using this
            have hx2 : x = .int w[i] := by
              rw [List.getElem?_map, List.getElem?_eq_getElem hi2] at hx
              simpa using hx.symm
            subst hx2
            refine ⟨_, rfl, smallE (by simp), fun p hp => ?_⟩
            have s2 : Same H1 (upd H1 p (.tup [.int w[i]])) := Same.new hp
            have hD4 := s2 _ _ hD1
            have t4 : TI K (upd H1 p (.tup [.int w[i]])) (.ref p) [w[i]] := TI.mk (.of upd_same)
            have r4 := Reps.same s2 r1
            have hyl : ys.length = i := by have := r1.length; simp at this; omega
            refine ⟨hD4, small (by omega), by omega, (s1.trans s2).turn hD, upd_same, ?_, _, rfl⟩
            have e2 : (w.take (i + 1)).map (fun l => [l]) = (w.take i).map (fun l => [l]) ++ [[w[i]]] := by
              rw [List.take_succ, List.getElem?_eq_getElem hi2, List.map_append]
              rfl
            rw [e2]
            exact push_TI hD4 r4 t4
          · rintro ys τ H1 ⟨_, s1, hD1, r1, _⟩
            rw [hlen, List.take_length] at r1
            exact k D ys H1 hD s1 hD1 r1
      have h5 : ¬ fam < 0 := by simpa using h4
      have hpos : 0 < fam := by omega
      have e : facesBy w fam = w.drop 1 :: ((List.range (w.length - 1)).map fun i => w.take i ++ [(w.getD i 0 + w.getD (i + 1) 0) % fam] ++ w.drop (i + 2)) ++ [w.take (w.length - 1)] := by
        unfold facesBy; rw [if_neg hf, if_neg h3, if_neg h5]
      rw [e] at k
      refine ⟨_, rfl, _, rfl, aw, _, rfl, hq, ?_, fun p1 H1 s1 q1 => ⟨smallE (by simp), fun D hD => ?_⟩⟩
      · rw [hlen]; rintro ⟨z, _⟩
        rw [show (1 : Int) = ((1 : Nat) : Int) by omega, HT.sIx_nat] at z
        omega
      rw [show (1 : Int) = ((1 : Nat) : Int) by omega, cut_drop] at q1
      have hD0 : H D = none := s1.free hD
      have s2 : Same H1 (upd H1 D (.lst [.ref p1])) := Same.new hD
      have t1 : TI K (upd H1 D (.lst [.ref p1])) (.ref p1) (w.drop 1) := by
        refine TI.mk ?_
        rw [List.map_drop]
        exact s2.seqT q1
      have hn : ((w.length : Int) - 1).toNat = w.length - 1 := by omega
      refine ⟨_, rfl, _, _, rfl, rfl, _, rfl, by omega, by omega, for_range (lo := 0) (n := ((w.length : Int) - 1).toNat)
        (fun i σ H2 => ∃ (ys : List V) (o : Option V), σ = [some (.ref aw), some (.int fam), some (.int w.length), some (.ref D), o] ∧ Same H H2 ∧ H2 D = some (.lst ys) ∧
          Reps K H2 ys ((w.drop 1 :: ((List.range i).map fun i => w.take i ++ [(w.getD i 0 + w.getD (i + 1) 0) % fam] ++ w.drop (i + 2))).map tI))
        ⟨_, none, rfl, s1.trans s2, upd_same, ⟨_, _, rfl, t1, rfl⟩⟩ ?_ ?_⟩
      · rintro i σ H2 hi ⟨ys, o, rfl, sH, hD2, r2⟩
        rw [hn] at hi
        have hq2 : SqT K H2 aw (w.map V.int) := sH.seqT hq
        have c0 : ((0 : Int) + (i : Int)) = ((i : Nat) : Int) := by omega
        have c1 : ((0 : Int) + (i : Int) + 1) = ((i + 1 : Nat) : Int) := by omega
        have c2 : ((0 : Int) + (i : Int) + 2) = ((i + 2 : Nat) : Int) := by omega
        have at0 : atI (w.map V.int) ((0 : Int) + (i : Int)) = some (.int (w.getD i 0)) := by
          rw [c0]
          refine atI_nat ?_
          rw [List.getElem?_map, List.getElem?_eq_getElem (by omega)]
          simp [show i < w.length by omega]
        have at1 : atI (w.map V.int) ((0 : Int) + (i : Int) + 1) = some (.int (w.getD (i + 1) 0)) := by
          rw [c1]
          refine atI_nat ?_
          rw [List.getElem?_map, List.getElem?_eq_getElem (by omega)]
          simp [show i + 1 < w.length by omega]
        refine ⟨_, rfl, .inl ⟨rfl, _, SqL.of hD2⟩, ?_⟩
        refine ⟨_, rfl, _, rfl, _, rfl, aw, _, rfl, hq2, ?_, fun pa Ha sa qa => ?_⟩
        · rw [hlen]; rintro ⟨_, z⟩
          rw [c0, HT.sIx_nat] at z
          omega
        rw [c0, cut_take] at qa
        refine ⟨_, rfl, _, rfl, aw, _, _, _, rfl, rfl, sa.seqT hq2, at0, _, rfl, _, rfl, _, _, rfl, rfl, aw, _, _, _, rfl, rfl, sa.seqT hq2, at1, _, _, rfl, rfl, _, rfl, _, _, rfl, rfl, hpos, smallE (by simp), fun pb hb => ?_⟩
        have sb : Same Ha (upd Ha pb (.tup [.int ((w.getD i 0 + w.getD (i + 1) 0) % fam)])) := Same.new hb
        refine ⟨pa, pb, _, _, rfl, rfl, sb.seqT qa, .of upd_same, smallE (by simp; omega), fun pc Hc sc qc => ?_⟩
        have sac := (sa.trans sb).trans sc
        refine ⟨_, rfl, _, rfl, _, _, rfl, rfl, _, rfl, aw, _, rfl, sac.seqT hq2, ?_, fun pd Hd sd qd => ?_⟩
        · rw [hlen]; rintro ⟨z, _⟩
          rw [c2, HT.sIx_nat] at z
          omega
        rw [c2, cut_drop] at qd
        refine ⟨pc, pd, _, _, rfl, rfl, sd.seqT qc, qd, smallE (by simp; omega), fun pe He se qe => ?_⟩
        have sall := (sac.trans sd).trans se
        have hDe := sall _ _ hD2
        have te : TI K He (.ref pe) (w.take i ++ [(w.getD i 0 + w.getD (i + 1) 0) % fam] ++ w.drop (i + 2)) := by
          refine TI.mk ?_
          simp only [List.map_append, List.map_take, List.map_drop, List.map_cons, List.map_nil]
          exact qe
        have hyl : ys.length = i + 1 := by have := r2.length; simpa using this
        refine ⟨D, _, _, rfl, rfl, hDe, small (by omega), ?_⟩
        refine ⟨_, _, rfl, (sH.trans sall).turn hD0, upd_same, ?_⟩
        have e3 : (w.drop 1 :: ((List.range (i + 1)).map fun i => w.take i ++ [(w.getD i 0 + w.getD (i + 1) 0) % fam] ++ w.drop (i + 2))) =
            (w.drop 1 :: ((List.range i).map fun i => w.take i ++ [(w.getD i 0 + w.getD (i + 1) 0) % fam] ++ w.drop (i + 2))) ++ [w.take i ++ [(w.getD i 0 + w.getD (i + 1) 0) % fam] ++ w.drop (i + 2)] := by
          rw [List.range_succ, List.map_append]
          rfl
        rw [e3]
        exact push_TI hDe (Reps.same sall r2) te
      · rintro σ H2 ⟨ys, o, rfl, sH, hD2, r2⟩
        rw [hn] at r2
        have hq2 : SqT K H2 aw (w.map V.int) := sH.seqT hq
        have c1 : ((w.length : Int) - 1) = ((w.length - 1 : Nat) : Int) := by omega
        refine ⟨_, rfl, .inl ⟨rfl, _, SqL.of hD2⟩, _, rfl, _, rfl, _, _, rfl, rfl, _, rfl, aw, _, rfl, hq2, ?_, fun pa Ha sa qa => ?_⟩
        · rw [hlen]; rintro ⟨_, z⟩
          rw [c1, HT.sIx_nat] at z
          omega
        rw [c1, cut_take] at qa
        have hDa := sa _ _ hD2
        have ta : TI K Ha (.ref pa) (w.take (w.length - 1)) := by
          refine TI.mk ?_
          rw [List.map_take]
          exact qa
        have hyl : ys.length = w.length := by have := r2.length; simp at this; omega
        refine ⟨D, _, _, rfl, rfl, hDa, small (by omega), ?_⟩
        refine ⟨_, rfl, ?_⟩
        exact k D _ _ hD0 ((sH.trans sa).turn hD0) upd_same (push_TI hDa (Reps.same sa r2) ta)
abbrev s_L_word_by : Stmt := top 24
theorem sc_L_word_by : FnScope ["_law_cell", "_law_family", "_law_letters", "_law_size", "_law_base", "_law_word", "_law_k"] ["_law_cell", "_law_family", "_law_letters"] (defScope s_L_word_by) := ⟨rfl, rfl, rfl, by decide +kernel, rfl, by decide +kernel, by decide +kernel⟩
theorem nd_L_word_by : (["_law_cell", "_law_family", "_law_letters", "_law_size", "_law_base", "_law_word", "_law_k"] : List Str).Nodup := by decide +kernel

theorem ok_L_word_by {f : Addr} {fd : FuncData} (F : Fun K "_law_word_by" "_law_word_by" s_L_word_by f fd) (T : Txt K mg C_HoleError C_NoShape C_NoPiece)  : FnOk P w K mg base CX0 1 f fd ["_law_cell", "_law_family", "_law_letters"] (sp_L_word_by K) := by
  refine F.ok sc_L_word_by (fun vs H Q E h => ?_) (fun cdv A outer s H vs Q E hr h => ?_)
  · obtain ⟨c, fam, letters, rfl, hl0, hl1, hf, k⟩ := h
    rfl
  · obtain ⟨c, fam, letters, rfl, hl0, hl1, hf, k⟩ := h
    refine ⟨_, (pss_cons (ps_set (i := 0) nd_L_word_by (by rfl) (by first | exact Or.inl rfl | exact Or.inr rfl) (pe_op op_mod (pv 0) pe_int))
      (pss_cons (ps_set (i := 3) nd_L_word_by (by rfl) (by first | exact Or.inl rfl | exact Or.inr rfl) (pe_op op_mod (pv 0) pe_int))
      (pss_cons (ps_set (i := 4) nd_L_word_by (by rfl) (by first | exact Or.inl rfl | exact Or.inr rfl) (pv 2))
      (pss_cons (ps_if (pt_cmpR op_eq (pv 1) pe_int (nomark _)) (pss_one (ps_set (i := 3) nd_L_word_by (by rfl) (by first | exact Or.inl rfl | exact Or.inr rfl) (pe_op op_add (pv 3) pe_int))) pss_nil)
      (pss_cons (ps_if (PW.pt (pw_and (pt_cmpR op_lt (pv 1) pe_int (nomark _)) (pw_and1 (pt_cmpR op_ne (pv 3) pe_int (nomark _))))) (pss_one (ps_set (i := 3) nd_L_word_by (by rfl) (by first | exact Or.inl rfl | exact Or.inr rfl) pe_int)) pss_nil)
      (pss_cons (ps_if (pt_cmpR op_gt (pv 1) pe_int (nomark _)) (pss_one (ps_set (i := 4) nd_L_word_by (by rfl) (by first | exact Or.inl rfl | exact Or.inr rfl) (pv 1))) pss_nil)
      (pss_cons (ps_set (i := 0) nd_L_word_by (by rfl) (by first | exact Or.inl rfl | exact Or.inr rfl) (pe_op op_fdiv (pv 0) pe_int))
      (pss_cons (ps_set (i := 5) nd_L_word_by (by rfl) (by first | exact Or.inl rfl | exact Or.inr rfl) (pe_tup pa_nil))
      (pss_cons (ps_for PassesOwn.never rfl (pi_range1 (by rfl) T.n_range (pa_cons (pv 3) pa_nil)) (pg_name (i := 6) nd_L_word_by (by rfl) (by first | exact Or.inl rfl | exact Or.inr rfl)) (pss_cons (ps_set (i := 5) nd_L_word_by (by rfl) (by first | exact Or.inl rfl | exact Or.inr rfl) (pe_op (kop_catW (K := K)) (pv 5) (pe_tup (pa_cons (pe_op op_mod (pv 0) (pv 4)) pa_nil))))
      (pss_one (ps_set (i := 0) nd_L_word_by (by rfl) (by first | exact Or.inl rfl | exact Or.inr rfl) (pe_op op_fdiv (pv 0) (pv 4))))))
      (pss_one (ps_ret (pv 5)))))))))))), ?_⟩
    have m1 : 0 ≤ c % 1000000 % 4 := Int.emod_nonneg _ (by decide)
    have m2 : c % 1000000 % 4 < 4 := Int.emod_lt_of_pos _ (by decide)
    refine ⟨_, rfl, _, _, rfl, rfl, (by show (0 : Int) < 1000000; decide), ?_⟩
    refine ⟨_, rfl, _, _, rfl, rfl, (by show (0 : Int) < 4; decide), ?_⟩
    refine ⟨_, rfl, ?_⟩
    have fork : (fam = 0) ∨ (fam < 0 ∧ c % 1000000 % 4 = 1) ∨ (fam < 0 ∧ ¬ c % 1000000 % 4 = 1) ∨ 0 < fam := by omega
    have nofam : ¬ fam = 0 → ¬ (decide (V.int fam = V.int 0) = true) := fun z q => z (by simpa using q)
    have isfam : fam = 0 → decide (V.int fam = V.int 0) = true := fun z => by simp [z]
    have hb0 : 0 < letters := hl0
    have hb1 : letters < 1073741824 := by omega
    rcases fork with hz | ⟨hz, h1⟩ | ⟨hz, h1⟩ | hz
    · refine ⟨_, rfl, rfl, _, rfl, ?_⟩
      refine ifP (isfam hz) ?_
      refine ⟨_, rfl, _, _, rfl, rfl, ?_⟩
      refine ⟨_, rfl, _, _, rfl, rfl, _, rfl, ?_⟩
      refine ifN (by simp; omega) ?_
      refine ifN (by simp) ?_
      refine ⟨_, rfl, _, _, rfl, rfl, _, rfl, ?_⟩
      refine ifN (by simp; omega) ?_
      have hW : ∀ w : List Int, w.length = (c % 1000000 % 4 + 1).toNat → Word fam w := fun w e => .inl ⟨hz, by omega, by omega⟩
      refine ⟨_, rfl, _, _, rfl, rfl, ⟨by decide, by decide⟩, Nat.zero_le _, fun p0 hp0 => ?_⟩
      refine ⟨_, rfl, _, rfl, by omega, by omega, ?_⟩
      refine for_range (lo := 0) (n := (c % 1000000 % 4 + 1 : Int).toNat)
        (fun i σ H2 => ∃ (c' : Int) (v : V) (o : Option V) (w : List Int), σ = [some (.int c'), some (.int fam), some (.int letters), some (.int (c % 1000000 % 4 + 1)), some (.int letters), some v, o] ∧ Same H H2 ∧ TI K H2 v w ∧ w.length = i)
        ⟨_, _, none, [], rfl, Same.new hp0, TI.mk (.of upd_same), rfl⟩ ?_ ?_
      · rintro i σ H2 hi ⟨c', v, o, w, rfl, s2, tv, hwl⟩
        obtain ⟨a, rfl, hqa⟩ := tv.sq
        refine ⟨_, rfl, _, rfl, _, rfl, _, _, rfl, rfl, hb0, smallE (by simp), fun pt hpt => ?_⟩
        have s3 : Same H2 (upd H2 pt (.tup [.int (c' % letters)])) := Same.new hpt
        refine ⟨a, pt, _, _, rfl, rfl, s3.seqT hqa, .of upd_same, smallE (by simp; omega), fun p3 H3 s4 q3 => ?_⟩
        refine ⟨_, rfl, _, rfl, _, _, rfl, rfl, ⟨hb0, hb1⟩, ?_⟩
        refine ⟨_, _, _, w ++ [c' % letters], rfl, (s2.trans s3).trans s4, TI.mk ?_, by simp [hwl]⟩
        rw [List.map_append]
        exact q3
      · rintro σ H2 ⟨c', v, o, w, rfl, s2, tv, hwl⟩
        exact ⟨_, rfl, k v H2 w s2 tv (hW w hwl)⟩
    · refine ⟨_, rfl, rfl, _, rfl, ?_⟩
      refine ifN (nofam (by omega)) ?_
      refine ⟨_, rfl, _, _, rfl, rfl, _, rfl, ?_⟩
      refine ifP (by simp; omega) ?_
      refine ⟨_, rfl, rfl, _, rfl, ?_⟩
      refine ifN (eqI h1) ?_
      refine ⟨_, rfl, _, _, rfl, rfl, _, rfl, ?_⟩
      refine ifN (by simp; omega) ?_
      have hW : ∀ w : List Int, w.length = (c % 1000000 % 4).toNat → Word fam w := fun w e => .inr (.inl ⟨hz, by omega⟩)
      refine ⟨_, rfl, _, _, rfl, rfl, ⟨by decide, by decide⟩, Nat.zero_le _, fun p0 hp0 => ?_⟩
      refine ⟨_, rfl, _, rfl, by omega, by omega, ?_⟩
      refine for_range (lo := 0) (n := (c % 1000000 % 4 : Int).toNat)
        (fun i σ H2 => ∃ (c' : Int) (v : V) (o : Option V) (w : List Int), σ = [some (.int c'), some (.int fam), some (.int letters), some (.int (c % 1000000 % 4)), some (.int letters), some v, o] ∧ Same H H2 ∧ TI K H2 v w ∧ w.length = i)
        ⟨_, _, none, [], rfl, Same.new hp0, TI.mk (.of upd_same), rfl⟩ ?_ ?_
      · rintro i σ H2 hi ⟨c', v, o, w, rfl, s2, tv, hwl⟩
        obtain ⟨a, rfl, hqa⟩ := tv.sq
        refine ⟨_, rfl, _, rfl, _, rfl, _, _, rfl, rfl, hb0, smallE (by simp), fun pt hpt => ?_⟩
        have s3 : Same H2 (upd H2 pt (.tup [.int (c' % letters)])) := Same.new hpt
        refine ⟨a, pt, _, _, rfl, rfl, s3.seqT hqa, .of upd_same, smallE (by simp; omega), fun p3 H3 s4 q3 => ?_⟩
        refine ⟨_, rfl, _, rfl, _, _, rfl, rfl, ⟨hb0, hb1⟩, ?_⟩
        refine ⟨_, _, _, w ++ [c' % letters], rfl, (s2.trans s3).trans s4, TI.mk ?_, by simp [hwl]⟩
        rw [List.map_append]
        exact q3
      · rintro σ H2 ⟨c', v, o, w, rfl, s2, tv, hwl⟩
        exact ⟨_, rfl, k v H2 w s2 tv (hW w hwl)⟩
    · refine ⟨_, rfl, rfl, _, rfl, ?_⟩
      refine ifN (nofam (by omega)) ?_
      refine ⟨_, rfl, _, _, rfl, rfl, _, rfl, ?_⟩
      refine ifP (by simp; omega) ?_
      refine ⟨_, rfl, rfl, _, rfl, ?_⟩
      refine ifP (neI h1) ?_
      refine ⟨_, rfl, _, _, rfl, rfl, _, rfl, ?_⟩
      refine ifN (by simp; omega) ?_
      have hW : ∀ w : List Int, w.length = (3 : Int).toNat → Word fam w := fun w e => .inr (.inl ⟨hz, .inr (.inr e)⟩)
      refine ⟨_, rfl, _, _, rfl, rfl, ⟨by decide, by decide⟩, Nat.zero_le _, fun p0 hp0 => ?_⟩
      refine ⟨_, rfl, _, rfl, by omega, by omega, ?_⟩
      refine for_range (lo := 0) (n := (3 : Int).toNat)
        (fun i σ H2 => ∃ (c' : Int) (v : V) (o : Option V) (w : List Int), σ = [some (.int c'), some (.int fam), some (.int letters), some (.int (3)), some (.int letters), some v, o] ∧ Same H H2 ∧ TI K H2 v w ∧ w.length = i)
        ⟨_, _, none, [], rfl, Same.new hp0, TI.mk (.of upd_same), rfl⟩ ?_ ?_
      · rintro i σ H2 hi ⟨c', v, o, w, rfl, s2, tv, hwl⟩
        obtain ⟨a, rfl, hqa⟩ := tv.sq
        refine ⟨_, rfl, _, rfl, _, rfl, _, _, rfl, rfl, hb0, smallE (by simp), fun pt hpt => ?_⟩
        have s3 : Same H2 (upd H2 pt (.tup [.int (c' % letters)])) := Same.new hpt
        refine ⟨a, pt, _, _, rfl, rfl, s3.seqT hqa, .of upd_same, smallE (by simp; omega), fun p3 H3 s4 q3 => ?_⟩
        refine ⟨_, rfl, _, rfl, _, _, rfl, rfl, ⟨hb0, hb1⟩, ?_⟩
        refine ⟨_, _, _, w ++ [c' % letters], rfl, (s2.trans s3).trans s4, TI.mk ?_, by simp [hwl]⟩
        rw [List.map_append]
        exact q3
      · rintro σ H2 ⟨c', v, o, w, rfl, s2, tv, hwl⟩
        exact ⟨_, rfl, k v H2 w s2 tv (hW w hwl)⟩
    · refine ⟨_, rfl, rfl, _, rfl, ?_⟩
      refine ifN (nofam (by omega)) ?_
      refine ⟨_, rfl, _, _, rfl, rfl, _, rfl, ?_⟩
      refine ifN (by simp; omega) ?_
      refine ifN (by simp) ?_
      refine ⟨_, rfl, _, _, rfl, rfl, _, rfl, ?_⟩
      refine ifP (by simp; omega) ?_
      refine ⟨_, rfl, ?_⟩
      have hW : ∀ w : List Int, w.length = (c % 1000000 % 4).toNat → Word fam w := fun w e => .inr (.inr ⟨hz, by omega⟩)
      have hb0 : 0 < fam := hz
      have hb1 : fam < 1073741824 := by omega
      refine ⟨_, rfl, _, _, rfl, rfl, ⟨by decide, by decide⟩, Nat.zero_le _, fun p0 hp0 => ?_⟩
      refine ⟨_, rfl, _, rfl, by omega, by omega, ?_⟩
      refine for_range (lo := 0) (n := (c % 1000000 % 4 : Int).toNat)
        (fun i σ H2 => ∃ (c' : Int) (v : V) (o : Option V) (w : List Int), σ = [some (.int c'), some (.int fam), some (.int letters), some (.int (c % 1000000 % 4)), some (.int fam), some v, o] ∧ Same H H2 ∧ TI K H2 v w ∧ w.length = i)
        ⟨_, _, none, [], rfl, Same.new hp0, TI.mk (.of upd_same), rfl⟩ ?_ ?_
      · rintro i σ H2 hi ⟨c', v, o, w, rfl, s2, tv, hwl⟩
        obtain ⟨a, rfl, hqa⟩ := tv.sq
        refine ⟨_, rfl, _, rfl, _, rfl, _, _, rfl, rfl, hb0, smallE (by simp), fun pt hpt => ?_⟩
        have s3 : Same H2 (upd H2 pt (.tup [.int (c' % fam)])) := Same.new hpt
        refine ⟨a, pt, _, _, rfl, rfl, s3.seqT hqa, .of upd_same, smallE (by simp; omega), fun p3 H3 s4 q3 => ?_⟩
        refine ⟨_, rfl, _, rfl, _, _, rfl, rfl, ⟨hb0, hb1⟩, ?_⟩
        refine ⟨_, _, _, w ++ [c' % fam], rfl, (s2.trans s3).trans s4, TI.mk ?_, by simp [hwl]⟩
        rw [List.map_append]
        exact q3
      · rintro σ H2 ⟨c', v, o, w, rfl, s2, tv, hwl⟩
        exact ⟨_, rfl, k v H2 w s2 tv (hW w hwl)⟩
abbrev s_is_whole_below : Stmt := top 6
theorem sc_is_whole_below : FnScope ["thing", "bound"] ["thing", "bound"] (defScope s_is_whole_below) := ⟨rfl, rfl, rfl, by decide +kernel, rfl, by decide +kernel, by decide +kernel⟩
theorem ok_is_whole_below {f : Addr} {fd : FuncData} (F : Fun K "is_whole_below" "is_whole_below" s_is_whole_below f fd) (T : Txt K mg C_HoleError C_NoShape C_NoPiece) (h_is_whole : Has P w K mg base "is_whole" ["thing"] 1 (sp_is_whole K)) : FnOk P w K mg base CX0 2 f fd ["thing", "bound"] (sp_is_whole_below K) := by
  refine F.ok sc_is_whole_below (fun vs H Q E h => ?_) (fun cdv A outer s H vs Q E hr h => ?_)
  · obtain ⟨x, d, b, rfl, hx, k⟩ := h
    rfl
  · obtain ⟨x, d, b, rfl, hx, k⟩ := h
    refine ⟨_, (pss_one (ps_ret (pe_and (pe_callH h_is_whole hr (by rfl) (pa_cons (pv 0) pa_nil)) (pe_one (pe_chain op_le op_lt pe_int (pv 0) (pv 1)))))), ?_⟩
    refine ⟨_, rfl, x, d, rfl, hx, _, rfl, ?_⟩
    refine ite2 (fun e => ?_) (fun e => ?_)
    · obtain ⟨i, rfl⟩ := wholeD_int e
      cases (show x = .int i from hx)
      refine ⟨_, rfl, _, _, rfl, rfl, _, rfl, ?_⟩
      refine ite2 (fun e1 => ?_) (fun e1 => ?_)
      · refine ⟨_, rfl, _, _, rfl, rfl, ?_⟩
        have e2 : belowD (.int i) b = decide (i < b) := by show (decide (0 ≤ i) && decide (i < b)) = _; rw [e1]; rfl
        rw [e2] at k
        exact k
      · have e2 : belowD (.int i) b = false := by show (decide (0 ≤ i) && decide (i < b)) = _; simp at e1; simp; omega
        rw [e2] at k
        exact k
    · have e2 : belowD d b = false := by
        cases d <;> first | rfl | (exfalso; exact e rfl)
      rw [e2] at k
      exact k
abbrev s_L_fits_by : Stmt := top 21
theorem sc_L_fits_by : FnScope ["_law_shape", "_law_thing", "_law_face", "_law_j", "_law_i"] ["_law_shape", "_law_thing"] (defScope s_L_fits_by) := ⟨rfl, rfl, rfl, by decide +kernel, rfl, by decide +kernel, by decide +kernel⟩
theorem nd_L_fits_by : (["_law_shape", "_law_thing", "_law_face", "_law_j", "_law_i"] : List Str).Nodup := by decide +kernel

theorem ok_L_fits_by {f : Addr} {fd : FuncData} (F : Fun K "_law_fits_by" "_law_fits_by" s_L_fits_by f fd) (T : Txt K mg C_HoleError C_NoShape C_NoPiece) (h_L_whole : Has P w K mg base "_law_whole" ["_law_found"] 1 (sp_L_whole K)) : FnOk P w K mg base CX0 2 f fd ["_law_shape", "_law_thing"] (sp_L_fits_by K) := by
  refine F.ok sc_L_fits_by (fun vs H Q E h => ?_) (fun cdv A outer s H vs Q E hr h => ?_)
  · obtain ⟨a, th, d, xs, rfl, hL, hd, k⟩ := h
    rfl
  · obtain ⟨a, th, d, xs, rfl, hL, hd, k⟩ := h
    have hu8 : (A.deeper (PyProof.Rows.envOfC "_law_fits_by" (defScope s_L_fits_by) s.heap.objs.size f cdv)).units + 8 < cLine := by have := hr.units; omega
    refine ⟨_, (pss_cons (ps_if (PW.pt (pw_or (pt_not (pt_val (pe_callB (kcall_isinst (K := K)) (by rfl) T.n_isinstance boot_isinstanceB (pa_cons (pv 1) (pa_cons (pe_bltn (v := .ty "tuple") rfl T.n_tuple boot_tupleT rfl) pa_nil))))) (pw_or1 (pt_cmpR (kop_notInD (K := K) hu8) (pe_callB (kcall_len_seq (K := K)) (by rfl) T.n_len PySem.boot_len (pa_cons (pv 1) pa_nil)) (pe_tup (pa_cons pe_int (pa_cons pe_int (pa_cons pe_int (pa_cons pe_int pa_nil))))) rfl)))) (pss_one (ps_ret pe_bl)) pss_nil)
      (pss_cons (ps_for PassesOwn.never rfl (kpi_tup (K := K) (pv 1)) (pg_name (i := 2) nd_L_fits_by (by rfl) (by first | exact Or.inl rfl | exact Or.inr rfl)) (pss_cons (ps_if (PW.pt (pw_or (pt_not (pt_val (pe_callH h_L_whole hr (by rfl) (pa_cons (pv 2) pa_nil)))) (pw_or (pt_cmpR op_lt (pv 2) pe_int (nomark _)) (pw_or1 (pt_cmpR op_ge (pv 2) (pe_callB (kcall_len_seq (K := K)) (by rfl) T.n_len PySem.boot_len (pa_cons (pv 0) pa_nil)) (nomark _)))))) (pss_one (ps_ret pe_bl)) pss_nil)
      (pss_one (ps_if (pt_cmpR op_ne (pe_callB (call_max2 (by rfl)) (by rfl) T.n_max boot_maxB (pa_cons pe_int (pa_cons (pe_callB (kcall_len_seq (K := K)) (by rfl) T.n_len PySem.boot_len (pa_cons (pe_ix (kix_list (K := K)) (pv 0) (pv 2) (fun _ _ => rfl)) pa_nil)) pa_nil))) (pe_op op_sub (pe_callB (kcall_len_seq (K := K)) (by rfl) T.n_len PySem.boot_len (pa_cons (pv 1) pa_nil)) pe_int) (nomark _)) (pss_one (ps_ret pe_bl)) pss_nil))))
      (pss_cons (ps_for PassesOwn.never rfl (pi_range1 (by rfl) T.n_range (pa_cons (pe_callB (kcall_len_seq (K := K)) (by rfl) T.n_len PySem.boot_len (pa_cons (pv 1) pa_nil)) pa_nil)) (pg_name (i := 3) nd_L_fits_by (by rfl) (by first | exact Or.inl rfl | exact Or.inr rfl)) (pss_one (ps_for PassesOwn.never rfl (pi_range1 (by rfl) T.n_range (pa_cons (pv 3) pa_nil)) (pg_name (i := 4) nd_L_fits_by (by rfl) (by first | exact Or.inl rfl | exact Or.inr rfl)) (pss_one (ps_if (PW.pt (pw_and (pt_cmpR op_gt (pe_callB (kcall_len_seq (K := K)) (by rfl) T.n_len PySem.boot_len (pa_cons (pv 1) pa_nil)) pe_int (nomark _)) (pw_and1 (pt_cmpR op_ne (pe_ix (kix_tup (K := K)) (pe_ix (kix_list (K := K)) (pv 0) (pe_ix (kix_tup (K := K)) (pv 1) (pv 3) (fun _ _ => rfl)) (fun _ _ => rfl)) (pv 4) (fun _ _ => rfl)) (pe_ix (kix_tup (K := K)) (pe_ix (kix_list (K := K)) (pv 0) (pe_ix (kix_tup (K := K)) (pv 1) (pv 4) (fun _ _ => rfl)) (fun _ _ => rfl)) (pe_op op_sub (pv 3) pe_int) (fun _ _ => rfl)) (nomark _))))) (pss_one (ps_ret pe_bl)) pss_nil)))))
      (pss_one (ps_ret pe_bl))))), ?_⟩
    refine ⟨_, rfl, _, _, d, rfl, .inr (.inr (.inr (.inl rfl))), hd, _, rfl, ?_⟩
    cases d with
    | non => exact k H (Same.refl H)
    | bl b => exact k H (Same.refl H)
    | int i => exact k H (Same.refl H)
    | str z => exact k H (Same.refl H)
    | lst es => exact k H (Same.refl H)
    | tup ds =>
      obtain ⟨pa, us, rfl, hq0, r0⟩ := id hd
      have ul : us.length = ds.length := r0.length
      refine ifN (by simp [isD]) ?_
      refine ⟨_, rfl, pa, us, rfl, .inr hq0, smallE (by simp), fun C hC => ?_⟩
      have sC : Same H (upd H C (.tup [.int 0, .int 2, .int 3, .int 4])) := Same.new hC
      refine ⟨.int (us.length : Int), nums [0, 2, 3, 4], rfl, .inr ⟨C, _, rfl, .of upd_same, reps_nums.mpr rfl⟩, (by rw [deps_nums]; decide), _, rfl, ?_⟩
      rw [ul]
      have cnt : (!(nums [0, 2, 3, 4]).any fun e => eqD e (.int (ds.length : Int))) = !cntB ds.length := by
        have : (nums [0, 2, 3, 4]).any (fun e => eqD e (.int (ds.length : Int))) = cntB ds.length := by
          simp only [nums, List.map_cons, List.map_nil, List.any_cons, List.any_nil, eqD, cntB]
          rw [Bool.eq_iff_iff]
          simp only [Bool.or_eq_true, beq_iff_eq, Bool.or_false]
          omega
        rw [this]
      have k1 := k _ sC
      by_cases hc : cntB ds.length = true
      rotate_left
      · have hc' : cntB ds.length = false := by simpa using hc
        refine ifP (by rw [if_pos rfl, cnt, hc']; rfl) ?_
        have e2 : fitsD xs (.tup ds) = false := by rw [fitsD_tup]; simp [hc']
        rw [e2] at k1
        exact k1
      refine ifN (by rw [if_pos rfl, cnt, hc]; simp) ?_
      have hn4 : ds.length ≤ 4 := (cntB_le hc).1
      refine ⟨_, rfl, pa, rfl, ⟨_, sC.seqT hq0⟩, for_tup (K := K) (a := pa) (xs := us) (fun i σ H2 => Same H H2 ∧ (∃ o2, σ = [some (.ref a), some (.ref pa), o2, none, none]) ∧ ((ds.take i).all fun e => placeLev xs e (levI ds.length - 1)) = true)
        ⟨sC, ⟨none, rfl⟩, rfl⟩ (fun i σ H2 _ ⟨s2, _⟩ => s2.seqT hq0) ?_ ?_⟩
      · rintro i x σ H2 hx ⟨s2, ⟨o2, rfl⟩, hall⟩
        have hq : SqT K H2 pa us := s2.seqT hq0
        have r : Reps K H2 us ds := Reps.same s2 r0
        have hL1 : LT K H2 (.ref a) xs := Rep.same s2 hL
        have k1 := k H2 s2
        obtain ⟨xu, hxq, hxl⟩ := LT.len hL1
        obtain ⟨e, he, re⟩ := r.getV hx
        have hne : 1 ≤ ds.length := by have := (List.getElem?_eq_some_iff.mp he).1; omega
        have hn2 : 2 ≤ ds.length := by have := (cntB_le hc).2; omega
        have bad : placeLev xs e (levI ds.length - 1) = false → fitsD xs (.tup ds) = false := fun z => by
          have : (ds.all fun e => placeLev xs e (levI ds.length - 1)) = false := by
            rw [List.all_eq_false]
            exact ⟨e, List.mem_of_getElem? he, by simp [z]⟩
          rw [fitsD_tup, this]
          simp
        refine ⟨_, rfl, x, e, rfl, re, _, rfl, ?_⟩
        by_cases hw : wholeD e = true
        rotate_left
        · have hw' : wholeD e = false := by simpa using hw
          refine ifP (by rw [hw']; rfl) ?_
          have e2 := bad (by cases e <;> first | rfl | (exfalso; exact hw rfl))
          rw [e2] at k1
          exact k1
        refine ifN (by rw [hw]; simp) ?_
        obtain ⟨f, rfl⟩ := wholeD_int hw
        cases (show x = .int f from re)
        refine ⟨_, rfl, _, _, rfl, rfl, _, rfl, ?_⟩
        by_cases h0 : 0 ≤ f
        rotate_left
        · refine ifP (by simp; omega) ?_
          have e2 := bad (by show (decide (0 ≤ f) && decide (f < (xs.length : Int)) && decide (levI (xs.getD f.toNat []).length = _)) = false; simp [h0])
          rw [e2] at k1
          exact k1
        refine ifN (by simp; omega) ?_
        refine ⟨_, rfl, _, rfl, a, xu, rfl, .inl hxq, _, _, rfl, rfl, _, rfl, ?_⟩
        rw [hxl]
        by_cases h1 : f < (xs.length : Int)
        rotate_left
        · refine ifP (by simp; omega) ?_
          have e2 := bad (by show (decide (0 ≤ f) && decide (f < (xs.length : Int)) && decide (levI (xs.getD f.toNat []).length = _)) = false; simp [h1])
          rw [e2] at k1
          exact k1
        refine ifN (by simp; omega) ?_
        obtain ⟨xu', v, hq', hv, tv⟩ := LT.get hL1 h0 h1
        obtain ⟨b, rfl, hb⟩ := tv.sq
        refine ⟨_, rfl, _, rfl, a, xu', f, _, rfl, rfl, hq', hv, b, _, rfl, .inr hb, _, _, rfl, _, rfl, pa, us, rfl, .inr hq, _, _, rfl, rfl, rfl, _, rfl, ?_⟩
        rw [ul, List.length_map]
        have key : placeLev xs (.int f) (levI ds.length - 1) = decide ((if ((xs.getD f.toNat []).length : Int) > 1 then ((xs.getD f.toNat []).length : Int) else 1) = (ds.length : Int) - 1) := by
          show (decide (0 ≤ f) && decide (f < (xs.length : Int)) && decide (levI (xs.getD f.toNat []).length = levI ds.length - 1)) = _
          rw [decide_eq_true h0, decide_eq_true h1, levI_eq, levI_eq]
          simp only [Bool.and_self, Bool.true_and]
          rw [Bool.eq_iff_iff]
          simp only [decide_eq_true_eq]
          split <;> omega
        by_cases hg : (if ((xs.getD f.toNat []).length : Int) > 1 then ((xs.getD f.toNat []).length : Int) else 1) = (ds.length : Int) - 1
        rotate_left
        · refine ifP (neI hg) ?_
          have e2 := bad (by rw [key]; exact decide_eq_false hg)
          rw [e2] at k1
          exact k1
        refine ifN (eqI hg) ?_
        refine ⟨s2, ⟨_, rfl⟩, ?_⟩
        rw [List.take_succ, he, List.all_append, hall]
        show (true && (placeLev xs (.int f) (levI ds.length - 1) && true)) = true
        rw [key, decide_eq_true hg]
        rfl
      · rintro σ H1 ⟨s1, ⟨o2, rfl⟩, hall⟩
        have hq : SqT K H1 pa us := s1.seqT hq0
        have hL1 : LT K H1 (.ref a) xs := Rep.same s1 hL
        have hd1 : Rep K H1 (.ref pa) (.tup ds) := Rep.same s1 hd
        have k1 := k H1 s1
        rw [ul, List.take_length] at hall
        have hint := all_nums hall
        have tv : TI K H1 (.ref pa) (ds.map toI) := by
          have := hd1
          rw [hint] at this
          exact this
        generalize hp : ds.map toI = p at hint tv
        have hpn : p.length = ds.length := by rw [← hp, List.length_map]
        have e2 : fitsD xs (.tup ds) = (decide (levI ds.length < 2) || agreeB xs p) := by rw [fitsD_tup]; rw [hall, hc, hp]; rfl
        rw [e2] at k1
        have hf : 2 < ds.length → ∀ f ∈ p, 0 ≤ f ∧ f < (xs.length : Int) ∧ (xs.getD f.toNat []).length + 1 = p.length := by
          intro h3 f hf
          rw [List.all_eq_true] at hall
          have hm : L2.D.int f ∈ ds := by
            rw [hint]
            exact List.mem_map.mpr ⟨f, hf, rfl⟩
          have := hall _ hm
          simp only [placeLev, Bool.and_eq_true, decide_eq_true_eq] at this
          obtain ⟨⟨f0, f1⟩, f2⟩ := this
          refine ⟨f0, f1, ?_⟩
          rw [levI_eq, levI_eq] at f2
          omega
        refine ⟨_, rfl, pa, us, rfl, .inr hq, _, rfl, by omega, by omega, ?_⟩
        rw [ul]
        refine for_range (lo := 0) (n := ((ds.length : Nat) : Int).toNat) (fun j σ H2 => H1 = H2 ∧ (∃ o2 o3 o4, σ = [some (.ref a), some (.ref pa), o2, o3, o4]) ∧ (2 < ds.length → ∀ j' i', j' < j → i' < j' → agreeAt xs p j' i' = true))
          ⟨rfl, ⟨_, none, none, rfl⟩, fun _ j' i' h => absurd h (by omega)⟩ ?_ ?_
        · rintro j σ H2 hj ⟨rfl, ⟨o2, o3, o4, rfl⟩, hall2⟩
          have hj' : j < p.length := by omega
          refine ⟨_, rfl, _, rfl, by omega, by omega, ?_⟩
          refine for_range (lo := 0) (n := ((0 : Int) + (j : Int)).toNat) (fun i σ H2 => H1 = H2 ∧ (∃ o2 o4, σ = [some (.ref a), some (.ref pa), o2, some (.int (0 + j)), o4]) ∧ (2 < ds.length → ∀ i', i' < i → agreeAt xs p j i' = true))
            ⟨rfl, ⟨_, _, rfl⟩, fun _ i' h => absurd h (by omega)⟩ ?_ ?_
          · rintro i σ H2 hi ⟨rfl, ⟨o2, o4, rfl⟩, hall3⟩
            have hij : i < j := by omega
            refine ⟨_, rfl, pa, us, rfl, .inr hq, _, _, rfl, rfl, _, rfl, ?_⟩
            rw [ul]
            by_cases h3 : 2 < ds.length
            rotate_left
            · refine ifN (by simp; omega) ?_
              refine ifN (by simp) ?_
              exact ⟨rfl, ⟨_, _, rfl⟩, fun z => absurd z h3⟩
            refine ifP (by simp; omega) ?_
            have hf3 := hf h3
            have mj : p.getD j 0 ∈ p := by rw [List.getD_eq_getElem?_getD, List.getElem?_eq_getElem hj']; exact List.getElem_mem _
            have mi : p.getD i 0 ∈ p := by rw [List.getD_eq_getElem?_getD, List.getElem?_eq_getElem (by omega)]; exact List.getElem_mem _
            obtain ⟨j0, j1, j2⟩ := hf3 _ mj
            obtain ⟨i0, i1, i2⟩ := hf3 _ mi
            obtain ⟨_, z, hq1, at1⟩ := TI.get (i := (0 : Int) + (j : Int)) tv (by omega) (by omega)
            cases z
            rw [show ((0 : Int) + (j : Int)).toNat = j by omega] at at1
            obtain ⟨_, z, hq2, at2⟩ := TI.get (i := (0 : Int) + (i : Int)) tv (by omega) (by omega)
            cases z
            rw [show ((0 : Int) + (i : Int)).toNat = i by omega] at at2
            obtain ⟨us1, v1, hu1, av1, tv1⟩ := LT.get hL1 j0 j1
            obtain ⟨us2, v2, hu2, av2, tv2⟩ := LT.get hL1 i0 i1
            obtain ⟨b1, e1, hb1, ab1⟩ := TI.get (i := (0 : Int) + (i : Int)) tv1 (by omega) (by omega)
            obtain ⟨b2, e3, hb2, ab2⟩ := TI.get (i := (0 : Int) + (j : Int) - 1) tv2 (by omega) (by omega)
            subst e1 e3
            rw [show ((0 : Int) + (i : Int)).toNat = i by omega] at ab1
            rw [show ((0 : Int) + (j : Int) - 1).toNat = j - 1 by omega] at ab2
            refine ⟨_, rfl, _, rfl, _, rfl, pa, _, _, _, rfl, rfl, hq1, at1, a, us1, _, _, rfl, rfl, hu1, av1, _, rfl, b1, _, _, _, rfl, rfl, hb1, ab1, ?_⟩
            refine ⟨_, rfl, _, rfl, _, rfl, pa, _, _, _, rfl, rfl, hq2, at2, a, us2, _, _, rfl, rfl, hu2, av2, _, rfl, _, _, rfl, rfl, b2, _, _, _, rfl, rfl, hb2, ab2, ?_⟩
            refine ⟨rfl, _, rfl, ?_⟩
            by_cases hag : (xs.getD (p.getD j 0).toNat []).getD i 0 = (xs.getD (p.getD i 0).toNat []).getD (j - 1) 0
            · refine ifN (eqI hag) ?_
              refine ⟨rfl, ⟨_, _, rfl⟩, fun z i' h => ?_⟩
              by_cases hz : i' = i
              · subst hz; unfold agreeAt; exact decide_eq_true hag
              · exact hall3 z i' (by omega)
            · refine ifP (neI hag) ?_
              have e2 : agreeB xs p = false := by
                cases q : agreeB xs p with
                | false => rfl
                | true =>
                  unfold agreeB at q
                  rw [List.all_eq_true] at q
                  have q2 := q j (List.mem_range.mpr hj')
                  rw [List.all_eq_true] at q2
                  have q3 := q2 i (List.mem_range.mpr hij)
                  exact absurd (of_decide_eq_true q3) hag
              have e4 : decide (levI ds.length < 2) = false := by rw [levI_eq]; exact decide_eq_false (by omega)
              rw [e2, e4] at k1
              exact k1
          · rintro σ H2 ⟨rfl, ⟨o2, o4, rfl⟩, hall3⟩
            refine ⟨rfl, ⟨_, _, _, rfl⟩, fun z j' i' h1 h2 => ?_⟩
            by_cases hz : j' = j
            · subst hz; exact hall3 z i' (by omega)
            · exact hall2 z j' i' (by omega) h2
        · rintro σ H2 ⟨rfl, ⟨o2, o3, o4, rfl⟩, hall2⟩
          have e4 : (decide (levI ds.length < 2) || agreeB xs p) = true := by
            by_cases h3 : 2 < ds.length
            · have : agreeB xs p = true := by
                unfold agreeB
                rw [List.all_eq_true]
                intro j hj
                rw [List.all_eq_true]
                intro i hi
                have := List.mem_range.mp hj
                exact hall2 h3 j i (by omega) (List.mem_range.mp hi)
              rw [this]; simp
            · have : decide (levI ds.length < 2) = true := by rw [levI_eq]; exact decide_eq_true (by omega)
              rw [this]; rfl
          rw [e4] at k1
          exact k1
abbrev s_L_words_with : Stmt := top 25
theorem sc_L_words_with : FnScope ["_law_words", "_law_word", "_law_family", "_law_layer", "_law_rows", "_law_k", "_law_below", "_law_one", "_law_face", "_law_more"] ["_law_words", "_law_word", "_law_family"] (defScope s_L_words_with) := ⟨rfl, rfl, rfl, by decide +kernel, rfl, by decide +kernel, by decide +kernel⟩
theorem nd_L_words_with : (["_law_words", "_law_word", "_law_family", "_law_layer", "_law_rows", "_law_k", "_law_below", "_law_one", "_law_face", "_law_more"] : List Str).Nodup := by decide +kernel

theorem ok_L_words_with {f : Addr} {fd : FuncData} (F : Fun K "_law_words_with" "_law_words_with" s_L_words_with f fd) (T : Txt K mg C_HoleError C_NoShape C_NoPiece) (h_L_faces_by : Has P w K mg base "_law_faces_by" ["_law_word", "_law_family"] 1 (sp_L_faces_by K)) : FnOk P w K mg base CX0 2 f fd ["_law_words", "_law_word", "_law_family"] (sp_L_words_with K) := by
  refine F.ok sc_L_words_with (fun vs H Q E h => ?_) (fun cdv A outer s H vs Q E hr h => ?_)
  · obtain ⟨l, us, v, ws, w, fam, rfl, hl, hr0, hv, hw, hlen, k⟩ := h
    rfl
  · obtain ⟨l, us, v, ws, w, fam, rfl, hl, hr0, hv, hw, hlen, k⟩ := h
    have hu8 : (A.deeper (PyProof.Rows.envOfC "_law_words_with" (defScope s_L_words_with) s.heap.objs.size f cdv)).units + 8 < cLine := by have := hr.units; omega
    refine ⟨_, (pss_cons (ps_set (i := 3) nd_L_words_with (by rfl) (by first | exact Or.inl rfl | exact Or.inr rfl) (pe_lst (pa_cons (pv 1) pa_nil)))
      (pss_cons (ps_set (i := 4) nd_L_words_with (by rfl) (by first | exact Or.inl rfl | exact Or.inr rfl) (pe_lst pa_nil))
      (pss_cons (ps_for PassesOwn.never rfl (pi_range1 (by rfl) T.n_range (pa_cons pe_int pa_nil)) (pg_name (i := 5) nd_L_words_with (by rfl) (by first | exact Or.inl rfl | exact Or.inr rfl)) (pss_cons (ps_set (i := 4) nd_L_words_with (by rfl) (by first | exact Or.inl rfl | exact Or.inr rfl) (pe_op (kop_catLW (K := K)) (pv 3) (pv 4)))
      (pss_cons (ps_set (i := 6) nd_L_words_with (by rfl) (by first | exact Or.inl rfl | exact Or.inr rfl) (pe_lst pa_nil))
      (pss_cons (ps_for PassesOwn.never rfl (kpi_list (K := K) (pv 3)) (pg_name (i := 7) nd_L_words_with (by rfl) (by first | exact Or.inl rfl | exact Or.inr rfl)) (pss_one (ps_for PassesOwn.never rfl (kpi_list (K := K) (pe_callH h_L_faces_by hr (by rfl) (pa_cons (pv 7) (pa_cons (pv 2) pa_nil)))) (pg_name (i := 8) nd_L_words_with (by rfl) (by first | exact Or.inl rfl | exact Or.inr rfl)) (pss_one (ps_if (PW.pt (pw_and (pt_cmpR (kop_notInD (K := K) hu8) (pv 8) (pv 0) rfl) (pw_and1 (pt_cmpR (kop_notInD (K := K) hu8) (pv 8) (pv 6) rfl)))) (pss_one (ps_expr (kpe_bm (K := K) PySem.F.plainAttrs_list PySem.F.slot_list_append PySem.F.type_list_append mt_append (pv 6) (pa_cons (pv 8) pa_nil)))) pss_nil)))))
      (pss_one (ps_set (i := 3) nd_L_words_with (by rfl) (by first | exact Or.inl rfl | exact Or.inr rfl) (pv 6)))))))
      (pss_cons (ps_set (i := 9) nd_L_words_with (by rfl) (by first | exact Or.inl rfl | exact Or.inr rfl) (pe_callTy (kcall_list_of (K := K)) (by rfl) T.n_list boot_listT (pa_cons (pv 0) pa_nil)))
      (pss_cons (ps_for PassesOwn.never rfl (kpi_list (K := K) (pv 4)) (pg_name (i := 7) nd_L_words_with (by rfl) (by first | exact Or.inl rfl | exact Or.inr rfl)) (pss_one (ps_if (pt_cmpR (kop_notInD (K := K) hu8) (pv 7) (pv 9) rfl) (pss_one (ps_expr (kpe_bm (K := K) PySem.F.plainAttrs_list PySem.F.slot_list_append PySem.F.type_list_append mt_append (pv 9) (pa_cons (pv 7) pa_nil)))) pss_nil)))
      (pss_one (ps_ret (pv 9)))))))), ?_⟩
    have s0w : ∀ u ∈ [w], Word fam u := fun u hu => by
      have e : u = w := by simpa using hu
      subst e
      exact hw
    refine ⟨_, rfl, smallE (by simp), fun L0 hL0 => ?_⟩
    have s1 : Same H (upd H L0 (.lst [v])) := Same.new hL0
    refine ⟨Nat.zero_le _, fun R0 hR0 => ?_⟩
    have s2 : Same (upd H L0 (.lst [v])) (upd (upd H L0 (.lst [v])) R0 (.lst [])) := Same.new hR0
    refine ⟨_, rfl, by decide, by decide, for_range (lo := 0) (n := (4 : Int).toNat)
      (fun i σ H2 => ∃ (L R : Addr) (lu ru : List V) (layer rows : List (List Int)) (o5 o6 o7 o8 o9 : Option V), σ = [some (.ref l), some v, some (.int fam), some (.ref L), some (.ref R), o5, o6, o7, o8, o9] ∧ Same H H2 ∧
        H2 L = some (.lst lu) ∧ Reps K H2 lu (layer.map tI) ∧ H2 R = some (.lst ru) ∧ Reps K H2 ru (rows.map tI) ∧ (∀ u ∈ layer, Word fam u) ∧ layers ws fam (4 - i) layer rows = layers ws fam 4 [w] [] ∧ layer.length ≤ 4 ^ i ∧ rows.length ≤ 1000 * i)
      ⟨L0, R0, [v], [], [w], [], none, none, none, none, none, rfl, s1.trans s2, s2 _ _ upd_same, Reps.one (TI.same (s1.trans s2) hv), upd_same, rfl, s0w, rfl, by simp, by simp⟩ ?_ ?_⟩
    · rintro i σ H2 hi ⟨L, R, lu, ru, layer, rows, o5, o6, o7, o8, o9, rfl, sH, hL, rL, hR, rR, hWl, hlay, hll, hrl⟩
      have hi4 : i < 4 := by simpa using hi
      have h4i : 4 ^ i ≤ 64 := by
        have : i = 0 ∨ i = 1 ∨ i = 2 ∨ i = 3 := by omega
        rcases this with rfl | rfl | rfl | rfl <;> decide
      have lul : lu.length = layer.length := by have := rL.length; simpa using this
      have rul : ru.length = rows.length := by have := rR.length; simpa using this
      refine ⟨_, rfl, _, rfl, L, R, _, _, rfl, rfl, .of hL, .of hR, smallE (by omega), fun R1 hR1 => ?_⟩
      have sa : Same H2 (upd H2 R1 (.lst (lu ++ ru))) := Same.new hR1
      have hR1a : (upd H2 R1 (.lst (lu ++ ru))) R1 = some (.lst (lu ++ ru)) := upd_same
      have rRa : Reps K (upd H2 R1 (.lst (lu ++ ru))) (lu ++ ru) ((layer ++ rows).map tI) := by
        rw [List.map_append]
        exact (Reps.same sa rL).append (Reps.same sa rR)
      have hLa := sa _ _ hL
      have rLa : Reps K (upd H2 R1 (.lst (lu ++ ru))) lu (layer.map tI) := Reps.same sa rL
      have sHa : Same H (upd H2 R1 (.lst (lu ++ ru))) := sH.trans sa
      refine ⟨Nat.zero_le _, fun B hB => ?_⟩
      have sb : Same (upd H2 R1 (.lst (lu ++ ru))) (upd (upd H2 R1 (.lst (lu ++ ru))) B (.lst [])) := Same.new hB
      have hBH : H B = none := sHa.free hB
      refine ⟨_, rfl, L, rfl, ⟨_, .of (sb _ _ hLa)⟩, for_list (K := K) (a := L) (xs := lu)
        (fun j σ H3 => ∃ (bu : List V) (o7 o8 : Option V), σ = [some (.ref l), some v, some (.int fam), some (.ref L), some (.ref R1), some (.int (0 + i)), some (.ref B), o7, o8, o9] ∧ Same (upd H2 R1 (.lst (lu ++ ru))) H3 ∧ H3 B = some (.lst bu) ∧
          Reps K H3 bu ((below ws fam [] (layer.take j)).map tI))
        ⟨[], _, _, rfl, sb, upd_same, rfl⟩ (fun j σ H3 _ ⟨_, _, _, _, s3, _⟩ => .of (s3 _ _ hLa)) ?_ ?_⟩
      · rintro j x σ H3 hx ⟨bu, o7, o8, rfl, s3, hB3, rB⟩
        have hj : j < lu.length := (List.getElem?_eq_some_iff.mp hx).1
        have hjl : j < layer.length := by omega
        have hjx : (layer.map tI)[j]? = some (tI layer[j]) := by rw [List.getElem?_map, List.getElem?_eq_getElem hjl]; rfl
        obtain ⟨x', hx', tx⟩ := rLa.get hjx
        rw [hx] at hx'
        cases hx'
        have hwj : Word fam layer[j] := hWl _ (List.getElem_mem _)
        refine ⟨_, rfl, _, rfl, x, layer[j], fam, rfl, TI.same s3 tx, hwj, fun p fu H4 hp s4 hp4 r4 => ?_⟩
        have fl := faces_len hwj
        have ful : fu.length = (facesBy layer[j] fam).length := by have := r4.length; simpa using this
        have hpB : p ≠ B := fun z => by rw [z, hB3] at hp; cases hp
        have hB4 := s4 _ _ hB3
        refine ⟨p, rfl, ⟨_, .of hp4⟩, for_list (K := K) (a := p) (xs := fu)
          (fun m σ H5 => ∃ (bu : List V) (o8 : Option V), σ = [some (.ref l), some v, some (.int fam), some (.ref L), some (.ref R1), some (.int (0 + i)), some (.ref B), some x, o8, o9] ∧ SameX B H4 H5 ∧ H5 B = some (.lst bu) ∧
            Reps K H5 bu ((addNew ws (below ws fam [] (layer.take j)) ((facesBy layer[j] fam).take m)).map tI) ∧ (addNew ws (below ws fam [] (layer.take j)) ((facesBy layer[j] fam).take m)).length ≤ 1000)
          ⟨bu, _, rfl, SameX.refl _ _, hB4, (by simpa [addNew] using Reps.same s4 rB), ?_⟩ (fun m σ H5 _ ⟨_, _, _, s5, _⟩ => .of (s5 _ _ hpB hp4)) ?_ ?_⟩
        · have := below_len (ws := ws) (fam := fam) (layer.take j) [] (fun u hu => hWl u (List.mem_of_mem_take hu))
          simp only [List.take_zero, addNew, List.length_nil, List.length_take] at this ⊢
          omega
        · rintro m y σ H5 hy ⟨bu5, o8', rfl, s5, hB5, rB5, hbl5⟩
          have hm : m < fu.length := (List.getElem?_eq_some_iff.mp hy).1
          have hmf : m < (facesBy layer[j] fam).length := by omega
          have hmy : ((facesBy layer[j] fam).map tI)[m]? = some (tI (facesBy layer[j] fam)[m]) := by rw [List.getElem?_map, List.getElem?_eq_getElem hmf]; rfl
          obtain ⟨y', hy', ty⟩ := r4.get hmy
          rw [hy] at hy'
          cases hy'
          generalize hf : (facesBy layer[j] fam)[m] = fc at ty
          have ty5 : TI K H5 y fc := TI.t (s5.t hB4) ty
          have hl5 : H5 l = some (.lst us) := by
            refine s5 l _ (fun z => ?_) (s4 _ _ (s3 _ _ (sHa _ _ hl)))
            rw [z] at hl
            rw [hl] at hBH
            cases hBH
          have rl5 : Rep K H5 (.ref l) (.lst (ws.map tI)) := ⟨l, us, rfl, .of hl5, Reps.t (s5.t hB4) (imms_tIs ws) (Reps.same ((sHa.trans s3).trans s4) hr0)⟩
          have rb5 : Rep K H5 (.ref B) (.lst ((addNew ws (below ws fam [] (layer.take j)) ((facesBy layer[j] fam).take m)).map tI)) := ⟨B, bu5, rfl, .of hB5, rB5⟩
          have e0 : addNew ws (below ws fam [] (layer.take j)) ((facesBy layer[j] fam).take (m + 1)) = (if fc ∉ ws ∧ fc ∉ addNew ws (below ws fam [] (layer.take j)) ((facesBy layer[j] fam).take m) then addNew ws (below ws fam [] (layer.take j)) ((facesBy layer[j] fam).take m) ++ [fc] else addNew ws (below ws fam [] (layer.take j)) ((facesBy layer[j] fam).take m)) := by
            rw [List.take_succ, List.getElem?_eq_getElem hmf, hf]
            exact addNew_snoc _ _ _ _
          have hbu5 : bu5.length = (addNew ws (below ws fam [] (layer.take j)) ((facesBy layer[j] fam).take m)).length := by have := rB5.length; simpa using this
          have hlen6 : (addNew ws (below ws fam [] (layer.take j)) ((facesBy layer[j] fam).take (m + 1))).length ≤ 1000 := by
            have h1 := addNew_len (ws := ws) ((facesBy layer[j] fam).take (m + 1)) (below ws fam [] (layer.take j))
            have h2 := below_len (ws := ws) (fam := fam) (layer.take j) [] (fun u hu => hWl u (List.mem_of_mem_take hu))
            simp only [List.length_nil, List.length_take] at h1 h2
            have h3 : (facesBy layer[j] fam).length ≤ 4 := by have := fl.1; have := fl.2; split at * <;> omega
            omega
          generalize hacc : addNew ws (below ws fam [] (layer.take j)) ((facesBy layer[j] fam).take m) = acc at rB5 rb5 e0 hbu5 hbl5
          refine ⟨_, rfl, _, rfl, tI fc, ws.map tI, ty5, .inl rl5, (by have := deps_tIs ws; omega), _, rfl, ?_⟩
          by_cases h1 : fc ∈ ws
          · refine ifN (by rw [if_pos rfl, any_tI]; simp [h1]) ?_
            refine ifN (by simp) ?_
            refine ⟨bu5, _, rfl, s5, hB5, ?_, hlen6⟩
            rw [e0, if_neg (by simp [h1])]
            exact rB5
          · refine ifP (by rw [if_pos rfl, any_tI]; simp [h1]) ?_
            refine ⟨_, rfl, _, rfl, tI fc, acc.map tI, ty5, .inl rb5, (by have := deps_tIs acc; omega), _, rfl, ?_⟩
            by_cases h2 : fc ∈ acc
            · refine ifN (by rw [if_pos rfl, any_tI]; simp [h2]) ?_
              refine ⟨bu5, _, rfl, s5, hB5, ?_, hlen6⟩
              rw [e0, if_neg (by simp [h2])]
              exact rB5
            · refine ifP (by rw [if_pos rfl, any_tI]; simp [h2]) ?_
              refine ⟨_, rfl, .inl ⟨rfl, _, .of hB5⟩, _, rfl, B, _, _, rfl, rfl, hB5, small (by omega), ?_⟩
              refine ⟨_, _, rfl, s5.upd, upd_same, ?_, hlen6⟩
              rw [e0, if_pos ⟨h1, h2⟩]
              exact push_TI hB5 rB5 ty5
        · rintro σ H5 ⟨bu5, o8', rfl, s5, hB5, rB5, _⟩
          refine ⟨bu5, _, _, rfl, ?_, hB5, ?_⟩
          · exact s5.same (s3.trans s4) hB
          · rw [ful, List.take_length] at rB5
            rw [List.take_succ, List.getElem?_eq_getElem hjl]
            have e1 : below ws fam [] (layer.take j ++ (some layer[j]).toList) = addNew ws (below ws fam [] (layer.take j)) (facesBy layer[j] fam) := below_snoc _ _ _ _ _
            rw [e1]
            exact rB5
      · rintro σ H3 ⟨bu, o7, o8, rfl, s3, hB3, rB⟩
        rw [lul, List.take_length] at rB
        refine ⟨_, rfl, ?_⟩
        refine ⟨B, R1, bu, lu ++ ru, below ws fam [] layer, layer ++ rows, _, _, _, _, _, rfl, sHa.trans s3, hB3, rB, s3 _ _ hR1a, Reps.same s3 rRa, ?_, ?_, ?_, ?_⟩
        · intro u hu
          rcases below_sub _ _ hu with z | ⟨t, ht, z⟩
          · exact nomatch z
          · exact (faces_word (hWl t ht) z).1
        · rw [← hlay, show 4 - i = (4 - (i + 1)) + 1 by omega]
          rfl
        · have := below_len (ws := ws) (fam := fam) layer [] hWl
          simp only [List.length_nil] at this
          rw [Nat.pow_succ]
          omega
        · rw [List.length_append]
          omega
    · rintro σ H2 ⟨L, R, lu, ru, layer, rows, o5, o6, o7, o8, o9, rfl, sH, hL, rL, hR, rR, hWl, hlay, hll, hrl⟩
      have hrows : rows = layers ws fam 4 [w] [] := hlay
      have hrl2 := layers_len (ws := ws) hw
      rw [← hrows] at hrl2
      have rul : ru.length = rows.length := by have := rR.length; simpa using this
      refine ⟨_, rfl, l, _, rfl, .inl (.of (sH _ _ hl)), fun M hM => ?_⟩
      have sm : Same H2 (upd H2 M (.lst us)) := Same.new hM
      have hMH : H M = none := sH.free hM
      have usl : us.length = ws.length := by have := hr0.length; simpa using this
      refine ⟨_, rfl, R, rfl, ⟨_, .of (sm _ _ hR)⟩, for_list (K := K) (a := R) (xs := ru)
        (fun j σ H3 => ∃ (mu : List V) (o7 : Option V), σ = [some (.ref l), some v, some (.int fam), some (.ref L), some (.ref R), o5, o6, o7, o8, some (.ref M)] ∧ Same H2 H3 ∧ H3 M = some (.lst mu) ∧ Reps K H3 mu ((addAll ws (rows.take j)).map tI))
        ⟨us, _, rfl, sm, upd_same, (by simpa [addAll] using Reps.same (sH.trans sm) hr0)⟩ (fun j σ H3 _ ⟨_, _, _, s3, _⟩ => .of (s3 _ _ hR)) ?_ ?_⟩
      · rintro j x σ H3 hx ⟨mu, o7', rfl, s3, hM3, rM⟩
        have hj : j < ru.length := (List.getElem?_eq_some_iff.mp hx).1
        have hjl : j < rows.length := by omega
        have hjx : (rows.map tI)[j]? = some (tI rows[j]) := by rw [List.getElem?_map, List.getElem?_eq_getElem hjl]; rfl
        obtain ⟨x', hx', tx⟩ := rR.get hjx
        rw [hx] at hx'
        cases hx'
        generalize hf : rows[j] = fc at tx
        have tx3 : TI K H3 x fc := TI.same s3 tx
        have e0 : addAll ws (rows.take (j + 1)) = (if fc ∈ addAll ws (rows.take j) then addAll ws (rows.take j) else addAll ws (rows.take j) ++ [fc]) := by
          rw [List.take_succ, List.getElem?_eq_getElem hjl, hf]
          exact addAll_snoc _ _ _
        have hal := addAll_len (rows.take j) ws
        rw [List.length_take] at hal
        have mul : mu.length = (addAll ws (rows.take j)).length := by have := rM.length; simpa using this
        generalize hacc : addAll ws (rows.take j) = acc at rM e0 hal mul
        have rm3 : Rep K H3 (.ref M) (.lst (acc.map tI)) := ⟨M, mu, rfl, .of hM3, rM⟩
        refine ⟨_, rfl, _, rfl, tI fc, acc.map tI, tx3, .inl rm3, (by have := deps_tIs acc; omega), _, rfl, ?_⟩
        by_cases h1 : fc ∈ acc
        · refine ifN (by rw [if_pos rfl, any_tI]; simp [h1]) ?_
          refine ⟨mu, _, rfl, s3, hM3, ?_⟩
          rw [e0, if_pos h1]
          exact rM
        · refine ifP (by rw [if_pos rfl, any_tI]; simp [h1]) ?_
          refine ⟨_, rfl, .inl ⟨rfl, _, .of hM3⟩, _, rfl, M, _, _, rfl, rfl, hM3, small (by omega), ?_⟩
          refine ⟨_, _, rfl, s3.turn hM, upd_same, ?_⟩
          rw [e0, if_neg h1]
          exact push_TI hM3 rM tx3
      · rintro σ H3 ⟨mu, o7', rfl, s3, hM3, rM⟩
        rw [rul, List.take_length, hrows] at rM
        exact ⟨_, rfl, k M mu H3 hMH (sH.trans s3) hM3 rM⟩
abbrev s_L_spoilt_by : Stmt := top 27
theorem sc_L_spoilt_by : FnScope ["_law_script", "_law_shape", "_law_rows", "_law_how", "_law_at", "_law_piece", "_law_spot", "_law_move", "_law_many"] ["_law_script", "_law_shape"] (defScope s_L_spoilt_by) := ⟨rfl, rfl, rfl, by decide +kernel, rfl, by decide +kernel, by decide +kernel⟩
theorem nd_L_spoilt_by : (["_law_script", "_law_shape", "_law_rows", "_law_how", "_law_at", "_law_piece", "_law_spot", "_law_move", "_law_many"] : List Str).Nodup := by decide +kernel

theorem ok_L_spoilt_by {f : Addr} {fd : FuncData} (F : Fun K "_law_spoilt_by" "_law_spoilt_by" s_L_spoilt_by f fd) (T : Txt K mg C_HoleError C_NoShape C_NoPiece) (h_L_cell_at : Has P w K mg base "_law_cell_at" ["_law_script", "_law_k"] 1 (sp_L_cell_at K)) : FnOk P w K mg base CX0 2 f fd ["_law_script", "_law_shape"] (sp_mSpoilt K) := by
  refine F.ok sc_L_spoilt_by (fun vs H Q E h => ?_) (fun cdv A outer s H vs Q E hr h => ?_)
  · obtain ⟨s, p, ns, xs, rfl, hS, hl, hL, hxl, hx4, k⟩ := h
    rfl
  · obtain ⟨s, p, ns, xs, rfl, hS, hl, hL, hxl, hx4, k⟩ := h
    refine ⟨_, (pss_cons (ps_set (i := 2) nd_L_spoilt_by (by rfl) (by first | exact Or.inl rfl | exact Or.inr rfl) (pe_callTy (kcall_list_of (K := K)) (by rfl) T.n_list boot_listT (pa_cons (pv 1) pa_nil)))
      (pss_cons (ps_set (i := 3) nd_L_spoilt_by (by rfl) (by first | exact Or.inl rfl | exact Or.inr rfl) (pe_callH h_L_cell_at hr (by rfl) (pa_cons (pv 0) (pa_cons pe_int pa_nil))))
      (pss_cons (ps_set (i := 4) nd_L_spoilt_by (by rfl) (by first | exact Or.inl rfl | exact Or.inr rfl) (pe_op op_mod (pe_callH h_L_cell_at hr (by rfl) (pa_cons (pv 0) (pa_cons pe_int pa_nil))) (pe_callB (call_max2 (by rfl)) (by rfl) T.n_max boot_maxB (pa_cons pe_int (pa_cons (pe_callB (kcall_len_seq (K := K)) (by rfl) T.n_len PySem.boot_len (pa_cons (pv 2) pa_nil)) pa_nil)))))
      (pss_cons (ps_if (PW.pt (pw_or (pt_cmpR op_eq (pe_op op_mod (pv 3) pe_int) pe_int (nomark _)) (pw_or1 (pt_cmpR op_eq (pe_callB (kcall_len_seq (K := K)) (by rfl) T.n_len PySem.boot_len (pa_cons (pv 2) pa_nil)) pe_int (nomark _))))) (pss_one (ps_ret (pv 2))) pss_nil)
      (pss_cons (ps_set (i := 5) nd_L_spoilt_by (by rfl) (by first | exact Or.inl rfl | exact Or.inr rfl) (pe_callTy (kcall_list_of (K := K)) (by rfl) T.n_list boot_listT (pa_cons (pe_ix (kix_list (K := K)) (pv 2) (pv 4) (fun _ _ => rfl)) pa_nil)))
      (pss_cons (ps_set (i := 6) nd_L_spoilt_by (by rfl) (by first | exact Or.inl rfl | exact Or.inr rfl) (pe_op op_mod (pe_callH h_L_cell_at hr (by rfl) (pa_cons (pv 0) (pa_cons pe_int pa_nil))) (pe_callB (call_max2 (by rfl)) (by rfl) T.n_max boot_maxB (pa_cons pe_int (pa_cons (pe_callB (kcall_len_seq (K := K)) (by rfl) T.n_len PySem.boot_len (pa_cons (pv 5) pa_nil)) pa_nil)))))
      (pss_cons (ps_if (PW.pt (pw_and (pt_cmpR op_gt (pe_callB (kcall_len_seq (K := K)) (by rfl) T.n_len PySem.boot_len (pa_cons (pv 5) pa_nil)) pe_int (nomark _)) (pw_and1 (pt_cmpR op_lt (pe_op op_mod (pe_op op_fdiv (pv 3) pe_int) pe_int) pe_int (nomark _))))) (pss_cons (ps_set (i := 7) nd_L_spoilt_by (by rfl) (by first | exact Or.inl rfl | exact Or.inr rfl) (pe_ix (kix_tup (K := K)) (pe_tup (pa_cons pe_int (pa_cons (pe_un un_neg pe_int) (pa_cons (pe_op op_sub (pe_op op_sub (pe_op op_mod (pe_op op_fdiv (pe_callH h_L_cell_at hr (by rfl) (pa_cons (pv 0) (pa_cons pe_int pa_nil))) pe_int) pe_int) pe_int) (pe_ix (kix_list (K := K)) (pv 5) (pv 6) (fun _ _ => rfl))) pa_nil)))) (pe_op op_mod (pe_op op_fdiv (pv 3) pe_int) pe_int) (fun _ _ => rfl)))
      (pss_cons (ps_asg (pe_op op_add (pe_ix (kix_list (K := K)) (pv 5) (pv 6) (fun _ _ => rfl)) (pv 7)) (pg_sub (pv 5) (pv 6) set_list))
      (pss_cons (ps_asg (pe_callTy (kcall_tuple_of (K := K)) (by rfl) T.n_tuple boot_tupleT (pa_cons (pv 5) pa_nil)) (pg_sub (pv 2) (pv 4) set_list))
      (pss_one (ps_ret (pv 2)))))) pss_nil)
      (pss_cons (ps_set (i := 8) nd_L_spoilt_by (by rfl) (by first | exact Or.inl rfl | exact Or.inr rfl) (pe_op op_mod (pe_op op_fdiv (pe_callH h_L_cell_at hr (by rfl) (pa_cons (pv 0) (pa_cons pe_int pa_nil))) pe_int) pe_int))
      (pss_cons (ps_if (pt_cmpR op_eq (pv 8) pe_int (nomark _)) (pss_one (ps_ret (pe_op (kop_catLW (K := K)) (pe_slice (ksl_list (K := K)) (pv 2) po_none (po_some (pv 4))) (pe_slice (ksl_list (K := K)) (pv 2) (po_some (pe_op op_add (pv 4) pe_int)) po_none)))) pss_nil)
      (pss_cons (ps_if (pt_cmpR op_lt (pv 8) pe_int (nomark _)) (pss_one (ps_asg (pe_ix (kix_tup (K := K)) (pe_tup (pa_cons pe_non (pa_cons (pe_callTy (kcall_tuple_of (K := K)) (by rfl) T.n_tuple boot_tupleT (pa_cons (pe_op (kop_catLW (K := K)) (pv 5) (pe_lst (pa_cons pe_int pa_nil))) pa_nil)) (pa_cons (pv 5) pa_nil)))) (pv 8) (fun _ _ => rfl)) (pg_sub (pv 2) (pv 4) set_list))) (pss_one (ps_asg (pe_ix (kix_tup (K := K)) (pe_tup (pa_cons pe_non (pa_cons pe_str (pa_cons (pe_callTy (kcall_tuple_of (K := K)) (by rfl) T.n_tuple boot_tupleT (pa_cons (pe_op (kop_catLW (K := K)) (pe_slice (ksl_list (K := K)) (pv 5) (po_some pe_int) po_none) (pe_lst (pa_cons pe_bl pa_nil))) pa_nil)) pa_nil)))) (pe_op op_sub (pv 8) pe_int) (fun _ _ => rfl)) (pg_sub (pv 2) (pv 4) set_list))))
      (pss_one (ps_ret (pv 2))))))))))))), ?_⟩
    obtain ⟨p', us, ep, hq, r⟩ := id hL
    cases ep
    have hul : us.length = xs.length := by have := r.length; simpa using this
    refine tSeq_cut (fun σ' H' => ∃ R, σ' = [some (.ref s), some (.ref p), some (.ref R), none, none, none, none, none, none] ∧ Same H H' ∧ H R = none ∧ H' R = some (.lst us)) ?_ fun key => ?_
    rotate_left
    · exact ⟨_, rfl, p, us, rfl, .inl hq, fun R hR => key _ _ ⟨R, rfl, Same.new hR, hR, upd_same⟩⟩
    rintro _ H1 ⟨R, rfl, s1, hR, hR1⟩
    have r1 := Reps.same s1 r
    have hS1 := s1.seq hS
    refine tSeq_cut (fun σ' H' => ∃ how : Int, σ' = [some (.ref s), some (.ref p), some (.ref R), some (.int how), none, none, none, none, none] ∧ H1 = H') ?_ fun key => ?_
    rotate_left
    · exact ⟨_, rfl, s, ns, 1, rfl, hS1, by decide, hl, key _ _ ⟨_, rfl, rfl⟩⟩
    rintro _ _ ⟨how, rfl, rfl⟩
    refine tSeq_cut (fun σ' H' => ∃ At : Int, σ' = [some (.ref s), some (.ref p), some (.ref R), some (.int how), some (.int At), none, none, none, none] ∧ H1 = H' ∧ (0 < us.length → ∃ A : Nat, At = A ∧ A < us.length)) ?_ fun key => ?_
    rotate_left
    · exact ⟨_, rfl, s, ns, 2, rfl, hS1, by decide, hl, _, rfl, R, us, rfl, .inl (.of hR1), _, _, rfl, _, _, rfl, rfl, max1 _, key _ _ ⟨_, rfl, rfl, fun h => mod_max _ h⟩⟩
    rintro _ _ ⟨At, rfl, rfl, hAt⟩
    refine ⟨_, rfl, _, _, rfl, rfl, (by show (0 : Int) < 3; decide), rfl, _, rfl, ?_⟩
    have same : Q (.ref R) H1 := k R us _ H1 s1 hR1 r1 (by rw [List.length_map]; exact hxl)
    refine ite2 (fun h1 => ?_) (fun h1 => ?_)
    · refine ifP rfl ?_
      exact ⟨_, rfl, same⟩
    refine ⟨_, rfl, R, us, rfl, .inl (.of hR1), rfl, _, rfl, ?_⟩
    by_cases hz : us.length = 0
    · refine ifP (by simp [hz]) ?_
      exact ⟨_, rfl, same⟩
    refine ifN (by simpa using hz) ?_
    obtain ⟨A, rfl, hAl⟩ := hAt (Nat.pos_of_ne_zero hz)
    refine tSeq_cut (fun σ' H' => σ' = [some (.ref s), some (.ref p), some (.ref R), some (.int how), some (.int (A : Int)), none, none, none, none] ∧ H1 = H') ?_ fun key0 => key0 _ _ ⟨rfl, rfl⟩
    rintro _ _ ⟨rfl, rfl⟩
    have hAx : A < xs.length := by omega
    have eA : (xs.map tI)[A]? = some (tI xs[A]) := by rw [List.getElem?_map, List.getElem?_eq_getElem hAx]; rfl
    obtain ⟨v, hv, tv⟩ := r1.get eA
    obtain ⟨pa, rfl, hpq⟩ := TI.sq tv
    have hx4' : xs[A].length ≤ 4 := hx4 _ (List.getElem_mem _)
    generalize xs[A] = q at hpq hx4'
    refine tSeq_cut (fun σ' H' => ∃ P, σ' = [some (.ref s), some (.ref p), some (.ref R), some (.int how), some (.int (A : Int)), some (.ref P), none, none, none] ∧ Same H1 H' ∧ H1 P = none ∧ H' P = some (.lst (q.map V.int))) ?_ fun key => ?_
    rotate_left
    · exact ⟨_, rfl, _, rfl, R, us, _, _, rfl, rfl, .of hR1, atI_nat hv, pa, _, rfl, .inr hpq, fun P hP => key _ _ ⟨P, rfl, Same.new hP, hP, upd_same⟩⟩
    rintro _ H2 ⟨P, rfl, s2, hP, hP2⟩
    have s12 := s1.trans s2
    have hR2 := s2 _ _ hR1
    have r2 := Reps.same s2 r1
    have hPR : P ≠ R := fun z => by rw [z, hR1] at hP; cases hP
    have hS2 := s12.seq hS
    have hP0 : H P = none := s1.free hP
    have hixR : ixN us.length ((A : Nat) : Int) = some A := ixN_nat (by omega)
    have done : ∀ (v : V) (d : L2.D) (G : Hp), Same H G → G R = some (.lst us) → Reps K G us (xs.map tI) → Rep K (upd G R (.lst (us.set A v))) v d → Q (.ref R) (upd G R (.lst (us.set A v))) := fun v d G g hRG rG rv =>
      k R _ ((xs.map tI).set A d) _ (g.turn hR) upd_same (Reps.put rv A (Reps.t (TSame.lst hRG) (imms_tIs xs) rG)) (by rw [List.length_set, List.length_map]; exact hxl)
    have doneI : ∀ (v : V) (d : L2.D) (G : Hp), Same H2 G → imm d = true → Rep K G v d → Q (.ref R) (upd G R (.lst (us.set A v))) := fun v d G g hi rv =>
      done v d G (s12.trans g) (g _ _ hR2) (Reps.same g r2) (Rep.t (TSame.lst (g _ _ hR2)) hi rv)
    refine tSeq_cut (fun σ' H' => ∃ Sp : Int, σ' = [some (.ref s), some (.ref p), some (.ref R), some (.int how), some (.int (A : Int)), some (.ref P), some (.int Sp), none, none] ∧ H2 = H' ∧ (0 < (q.map V.int).length → ∃ j : Nat, Sp = j ∧ j < (q.map V.int).length)) ?_ fun key => ?_
    rotate_left
    · exact ⟨_, rfl, s, ns, 3, rfl, hS2, by decide, hl, _, rfl, P, _, rfl, .inl (.of hP2), _, _, rfl, _, _, rfl, rfl, max1 _, key _ _ ⟨_, rfl, rfl, fun h => mod_max _ h⟩⟩
    rintro _ _ ⟨Sp, rfl, rfl, hSp⟩
    refine tSeq_cut (t := tIfS _ _ _) (fun σ' H' => σ' = [some (.ref s), some (.ref p), some (.ref R), some (.int how), some (.int (A : Int)), some (.ref P), some (.int Sp), none, none] ∧ H2 = H') ?_ fun key => ?_
    rotate_left
    · refine ⟨_, rfl, P, _, rfl, .inl (.of hP2), _, _, rfl, rfl, _, rfl, ?_⟩
      by_cases hz : 0 < (q.map V.int).length
      rotate_left
      · refine ifN (by simp at hz ⊢; exact hz) ?_
        refine ifN (by decide) ?_
        exact key _ _ ⟨rfl, rfl⟩
      refine ifP (by simp at hz ⊢; omega) ?_
      obtain ⟨j, rfl, hj⟩ := hSp hz
      have hjq : j < q.length := by simpa using hj
      have hat : atI (q.map V.int) ((j : Nat) : Int) = some (.int q[j]) := atI_nat (by rw [List.getElem?_map, List.getElem?_eq_getElem hjq]; rfl)
      refine ⟨_, rfl, _, _, rfl, rfl, ⟨by decide, by decide⟩, _, _, rfl, rfl, (by show (0 : Int) < 4; decide), _, _, rfl, rfl, _, rfl, ?_⟩
      refine ite2 (fun h3 => ?_) (fun h3 => ?_)
      rotate_left
      · exact key _ _ ⟨rfl, rfl⟩
      have h30 : 0 ≤ how / 3 % 4 := Int.emod_nonneg _ (by decide)
      have h31 : how / 3 % 4 < 3 := by simpa using h3
      obtain ⟨w, hw, hw3⟩ : ∃ w : Nat, how / 3 % 4 = (w : Int) ∧ w < 3 := by
        obtain ⟨w, hw⟩ := Int.eq_ofNat_of_zero_le h30
        exact ⟨w, hw, by omega⟩
      have hat3 : ∀ a b c : Int, atI [V.int a, V.int b, V.int c] (how / 3 % 4) = some (.int (([a, b, c] : List Int).getD w 0)) := fun a b c => by rw [hw]; exact atI_nat (three_at hw3)
      refine tSeq_cut (fun σ' H' => ∃ mv : Int, σ' = [some (.ref s), some (.ref p), some (.ref R), some (.int how), some (.int (A : Int)), some (.ref P), some (.int (j : Int)), some (.int mv), none] ∧ Same H2 H') ?_ fun key2 => ?_
      rotate_left
      · refine ⟨_, rfl, _, rfl, s, ns, 3, rfl, hS2, by decide, hl, _, _, rfl, rfl, ⟨by decide, by decide⟩, _, _, rfl, rfl, (by show (0 : Int) < 41; decide), _, _, rfl, rfl, ?_⟩
        refine ⟨_, rfl, _, rfl, P, _, _, _, rfl, rfl, .of hP2, hat, _, _, rfl, rfl, smallE (by simp), fun M hM => ?_⟩
        refine ⟨_, rfl, _, _, rfl, rfl, ⟨by decide, by decide⟩, _, _, rfl, rfl, (by show (0 : Int) < 4; decide), ?_⟩
        refine ⟨M, _, _, _, rfl, rfl, .of upd_same, hat3 _ _ _, ?_⟩
        exact key2 _ _ ⟨_, rfl, Same.new hM⟩
      rintro _ G ⟨mv, rfl, g⟩
      have hPG := g _ _ hP2
      have hRG := g _ _ hR2
      refine ⟨_, rfl, _, rfl, P, _, _, _, rfl, rfl, .of hPG, hat, _, rfl, _, _, rfl, rfl, ?_⟩
      refine ⟨_, rfl, _, rfl, P, _, _, j, rfl, rfl, hPG, ixN_nat hj, ?_⟩
      have eP : upd G P (.lst ((q.map V.int).set j (.int (q[j] + mv)))) P = some (.lst ((q.map V.int).set j (.int (q[j] + mv)))) := upd_same
      have sG : Same H (upd G P (.lst ((q.map V.int).set j (.int (q[j] + mv))))) := (s12.trans g).turn hP0
      have hRG' : upd G P (.lst ((q.map V.int).set j (.int (q[j] + mv)))) R = some (.lst us) := by rw [upd_ne (Ne.symm hPR)]; exact hRG
      have rG : Reps K (upd G P (.lst ((q.map V.int).set j (.int (q[j] + mv))))) us (xs.map tI) := Reps.t (TSame.lst hPG) (imms_tIs xs) (Reps.same g r2)
      generalize upd G P (.lst ((q.map V.int).set j (.int (q[j] + mv)))) = G1 at eP sG hRG' rG
      refine ⟨_, rfl, P, _, rfl, .inl ⟨.of eP, fun T1 hT => ?_⟩⟩
      have g2 : Same G1 (upd G1 T1 (.tup ((q.map V.int).set j (.int (q[j] + mv))))) := Same.new hT
      have eT : upd G1 T1 (.tup ((q.map V.int).set j (.int (q[j] + mv)))) T1 = some (.tup ((q.map V.int).set j (.int (q[j] + mv)))) := upd_same
      generalize upd G1 T1 (.tup ((q.map V.int).set j (.int (q[j] + mv)))) = G2 at g2 eT
      refine ⟨_, rfl, _, rfl, R, _, _, A, rfl, rfl, g2 _ _ hRG', hixR, ?_⟩
      refine ⟨_, rfl, done _ (tI (q.set j (q[j] + mv))) G2 (sG.trans g2) (g2 _ _ hRG') (Reps.same g2 rG) (Rep.t (TSame.lst (g2 _ _ hRG')) (imm_tI _) ?_)⟩
      refine TI.mk (.of ?_)
      rw [eT, List.map_set]
    rintro _ _ ⟨rfl, rfl⟩
    refine tSeq_cut (fun σ' H' => ∃ m : Nat, σ' = [some (.ref s), some (.ref p), some (.ref R), some (.int how), some (.int (A : Int)), some (.ref P), some (.int Sp), none, some (.int (m : Int))] ∧ H2 = H' ∧ m < 6) ?_ fun key => ?_
    rotate_left
    · have h0 : 0 ≤ cellAt ns 3 / 4 % 6 := Int.emod_nonneg _ (by decide)
      have h1 : cellAt ns 3 / 4 % 6 < 6 := Int.emod_lt_of_pos _ (by decide)
      obtain ⟨m, hm⟩ := Int.eq_ofNat_of_zero_le h0
      exact ⟨_, rfl, s, ns, 3, rfl, hS2, by decide, hl, _, _, rfl, rfl, ⟨by decide, by decide⟩, _, _, rfl, rfl, (by show (0 : Int) < 6; decide), key _ _ ⟨m, by rw [← hm]; rfl, rfl, by omega⟩⟩
    rintro _ _ ⟨m, rfl, rfl, hm6⟩
    refine ⟨_, rfl, rfl, _, rfl, ?_⟩
    by_cases hm0 : m = 0
    · refine ifP (by simp [hm0]) ?_
      refine ⟨_, rfl, _, rfl, _, rfl, R, us, rfl, .of hR2, fun c1 h1 => ?_⟩
      have g1 : Same H2 (upd H2 c1 (.lst (cutV us none (some (A : Int))))) := Same.new h1
      have e1 : upd H2 c1 (.lst (cutV us none (some (A : Int)))) c1 = some (.lst (cutV us none (some (A : Int)))) := upd_same
      generalize upd H2 c1 (.lst (cutV us none (some (A : Int)))) = G1 at g1 e1
      refine ⟨_, rfl, _, rfl, _, _, rfl, rfl, _, rfl, R, us, rfl, .of (g1 _ _ hR2), fun c2 h2 => ?_⟩
      have g2 : Same G1 (upd G1 c2 (.lst (cutV us (some ((A : Int) + 1)) none))) := Same.new h2
      have e2 : upd G1 c2 (.lst (cutV us (some ((A : Int) + 1)) none)) c2 = some (.lst (cutV us (some ((A : Int) + 1)) none)) := upd_same
      generalize upd G1 c2 (.lst (cutV us (some ((A : Int) + 1)) none)) = G2 at g2 e2
      have hc1 : cutV us none (some (A : Int)) = us.take A := cut_take _ _
      have hc2 : cutV us (some ((A : Int) + 1)) none = us.drop (A + 1) := cut_drop _ _
      rw [hc1] at e1
      rw [hc2] at e2
      refine ⟨c1, c2, _, _, rfl, rfl, .of (g2 _ _ e1), .of e2, smallE (by rw [List.length_take, List.length_drop]; omega), fun c3 h3 => ?_⟩
      have g3 : Same G2 (upd G2 c3 (.lst (us.take A ++ us.drop (A + 1)))) := Same.new h3
      have g := (g1.trans g2).trans g3
      exact k c3 _ ((xs.map tI).take A ++ (xs.map tI).drop (A + 1)) _ (s12.trans g) upd_same (((Reps.same g r2).take A).append ((Reps.same g r2).drop (A + 1))) (by rw [List.length_append, List.length_take, List.length_drop, List.length_map]; omega)
    refine ifN (by simpa using hm0) ?_
    refine ⟨_, rfl, _, _, rfl, rfl, _, rfl, ?_⟩
    by_cases hm3 : m < 3
    · refine ifP (by simp; omega) ?_
      refine ⟨_, rfl, smallE (by simp), fun l1 h1 => ?_⟩
      have g1 : Same H2 (upd H2 l1 (.lst [.int 0])) := Same.new h1
      have e1 : upd H2 l1 (.lst [.int 0]) l1 = some (.lst [.int 0]) := upd_same
      generalize upd H2 l1 (.lst [.int 0]) = G1 at g1 e1
      refine ⟨P, l1, _, _, rfl, rfl, .of (g1 _ _ hP2), .of e1, smallE (by simp; omega), fun l2 h2 => ?_⟩
      have g2 : Same G1 (upd G1 l2 (.lst (q.map V.int ++ [.int 0]))) := Same.new h2
      have e2 : upd G1 l2 (.lst (q.map V.int ++ [.int 0])) l2 = some (.lst (q.map V.int ++ [.int 0])) := upd_same
      generalize upd G1 l2 (.lst (q.map V.int ++ [.int 0])) = G2 at g2 e2
      refine ⟨l2, _, rfl, .inl ⟨.of e2, fun T1 hT => ?_⟩⟩
      have g3 : Same G2 (upd G2 T1 (.tup (q.map V.int ++ [.int 0]))) := Same.new hT
      have e3 : upd G2 T1 (.tup (q.map V.int ++ [.int 0])) T1 = some (.tup (q.map V.int ++ [.int 0])) := upd_same
      generalize upd G2 T1 (.tup (q.map V.int ++ [.int 0])) = G3 at g3 e3
      refine ⟨_, rfl, smallE (by simp), fun M hM => ?_⟩
      have g4 : Same G3 (upd G3 M (.tup [.non, .ref T1, .ref P])) := Same.new hM
      have e4 : upd G3 M (.tup [.non, .ref T1, .ref P]) M = some (.tup [.non, .ref T1, .ref P]) := upd_same
      generalize upd G3 M (.tup [.non, .ref T1, .ref P]) = G4 at g4 e4
      have g := ((g1.trans g2).trans g3).trans g4
      have hRG := g _ _ hR2
      have hPG := g _ _ hP2
      obtain rfl | rfl : m = 1 ∨ m = 2 := by omega
      · refine ⟨_, rfl, M, _, _, _, rfl, rfl, .of e4, at1 _ _ _, ?_⟩
        refine ⟨_, rfl, _, rfl, R, _, _, A, rfl, rfl, hRG, hixR, ?_⟩
        refine ⟨_, rfl, doneI _ (tI (q ++ [0])) G4 g (imm_tI _) (TI.mk (.of ?_))⟩
        rw [List.map_append]
        exact g4 _ _ e3
      · refine ⟨_, rfl, M, _, _, _, rfl, rfl, .of e4, at2 _ _ _ _, ?_⟩
        refine ⟨_, rfl, _, rfl, R, _, _, A, rfl, rfl, hRG, hixR, ?_⟩
        refine ⟨_, rfl, done _ (.lst (nums q)) G4 (s12.trans g) hRG (Reps.same g r2) ⟨P, _, rfl, .of ?_, reps_nums.mpr rfl⟩⟩
        rw [upd_ne hPR]
        exact hPG
    refine ifN (by simp; omega) ?_
    refine ⟨_, rfl, _, rfl, P, _, rfl, .of hP2, fun c1 h1 => ?_⟩
    have g1 : Same H2 (upd H2 c1 (.lst (cutV (q.map V.int) (some 1) none))) := Same.new h1
    have e1 : upd H2 c1 (.lst (cutV (q.map V.int) (some 1) none)) c1 = some (.lst (cutV (q.map V.int) (some 1) none)) := upd_same
    generalize upd H2 c1 (.lst (cutV (q.map V.int) (some 1) none)) = G1 at g1 e1
    have hc1 : cutV (q.map V.int) (some 1) none = (q.drop 1).map V.int := (cut_drop _ 1).trans (by rw [List.map_drop])
    rw [hc1] at e1
    refine ⟨smallE (by simp), fun l1 h2 => ?_⟩
    have g2 : Same G1 (upd G1 l1 (.lst [.bl true])) := Same.new h2
    have e2 : upd G1 l1 (.lst [.bl true]) l1 = some (.lst [.bl true]) := upd_same
    generalize upd G1 l1 (.lst [.bl true]) = G2 at g2 e2
    refine ⟨c1, l1, _, _, rfl, rfl, .of (g2 _ _ e1), .of e2, smallE (by simp; omega), fun l2 h3 => ?_⟩
    have g3 : Same G2 (upd G2 l2 (.lst ((q.drop 1).map V.int ++ [.bl true]))) := Same.new h3
    have e3 : upd G2 l2 (.lst ((q.drop 1).map V.int ++ [.bl true])) l2 = some (.lst ((q.drop 1).map V.int ++ [.bl true])) := upd_same
    generalize upd G2 l2 (.lst ((q.drop 1).map V.int ++ [.bl true])) = G3 at g3 e3
    refine ⟨l2, _, rfl, .inl ⟨.of e3, fun T1 hT => ?_⟩⟩
    have g4 : Same G3 (upd G3 T1 (.tup ((q.drop 1).map V.int ++ [.bl true]))) := Same.new hT
    have e4 : upd G3 T1 (.tup ((q.drop 1).map V.int ++ [.bl true])) T1 = some (.tup ((q.drop 1).map V.int ++ [.bl true])) := upd_same
    generalize upd G3 T1 (.tup ((q.drop 1).map V.int ++ [.bl true])) = G4 at g4 e4
    refine ⟨smallE (by simp), fun M hM => ?_⟩
    have g5 : Same G4 (upd G4 M (.tup [.non, .str "p", .ref T1])) := Same.new hM
    have e5 : upd G4 M (.tup [.non, .str "p", .ref T1]) M = some (.tup [.non, .str "p", .ref T1]) := upd_same
    generalize upd G4 M (.tup [.non, .str "p", .ref T1]) = G5 at g5 e5
    have g := (((g1.trans g2).trans g3).trans g4).trans g5
    have hRG := g _ _ hR2
    obtain rfl | rfl | rfl : m = 3 ∨ m = 4 ∨ m = 5 := by omega
    · refine ⟨_, rfl, _, _, rfl, rfl, M, _, _, _, rfl, rfl, .of e5, at0 _ _, ?_⟩
      refine ⟨_, rfl, _, rfl, R, _, _, A, rfl, rfl, hRG, hixR, ?_⟩
      exact ⟨_, rfl, doneI _ .non G5 g rfl rfl⟩
    · refine ⟨_, rfl, _, _, rfl, rfl, M, _, _, _, rfl, rfl, .of e5, at1 _ _ _, ?_⟩
      refine ⟨_, rfl, _, rfl, R, _, _, A, rfl, rfl, hRG, hixR, ?_⟩
      exact ⟨_, rfl, doneI _ (.str "p") G5 g rfl rfl⟩
    · refine ⟨_, rfl, _, _, rfl, rfl, M, _, _, _, rfl, rfl, .of e5, at2 _ _ _ _, ?_⟩
      refine ⟨_, rfl, _, rfl, R, _, _, A, rfl, rfl, hRG, hixR, ?_⟩
      exact ⟨_, rfl, doneI _ (.tup (nums (q.drop 1) ++ [L2.D.bl true])) G5 g (imms_bl _) ⟨T1, _, rfl, .of (g5 _ _ e4), (reps_nums.mpr rfl).snoc rfl⟩⟩
abbrev s_L_thing_by : Stmt := top 28
theorem sc_L_thing_by : FnScope ["_law_script", "_law_rows", "_law_how", "_law_many"] ["_law_script", "_law_rows"] (defScope s_L_thing_by) := ⟨rfl, rfl, rfl, by decide +kernel, rfl, by decide +kernel, by decide +kernel⟩
theorem nd_L_thing_by : (["_law_script", "_law_rows", "_law_how", "_law_many"] : List Str).Nodup := by decide +kernel

theorem ok_L_thing_by {f : Addr} {fd : FuncData} (F : Fun K "_law_thing_by" "_law_thing_by" s_L_thing_by f fd) (T : Txt K mg C_HoleError C_NoShape C_NoPiece) (h_L_cell_at : Has P w K mg base "_law_cell_at" ["_law_script", "_law_k"] 1 (sp_L_cell_at K)) : FnOk P w K mg base CX0 2 f fd ["_law_script", "_law_rows"] (sp_mThing K) := by
  refine F.ok sc_L_thing_by (fun vs H Q E h => ?_) (fun cdv A outer s H vs Q E hr h => ?_)
  · obtain ⟨s, l, ns, us, ds, rfl, hS, hl, hL, r, hn, k⟩ := h
    rfl
  · obtain ⟨s, l, ns, us, ds, rfl, hS, hl, hL, r, hn, k⟩ := h
    refine ⟨_, (pss_cons (ps_set (i := 2) nd_L_thing_by (by rfl) (by first | exact Or.inl rfl | exact Or.inr rfl) (pe_op op_mod (pe_op op_fdiv (pe_callH h_L_cell_at hr (by rfl) (pa_cons (pv 0) (pa_cons pe_int pa_nil))) pe_int) pe_int))
      (pss_retT (K := K) (pt_cmpR op_eq (pv 2) pe_int (nomark _)) (paw_cons (pe_callTy (kcall_tuple_of (K := K)) (by rfl) T.n_tuple boot_tupleT (pa_cons (pv 1) pa_nil)) (paw_cons pe_str (paw_cons pe_non (paw_cons pe_dnewK (paw_cons pe_int (paw_cons (pe_tup (pa_cons (pv 1) pa_nil)) paw_nil)))))) (pe_op op_mod (pe_callH h_L_cell_at hr (by rfl) (pa_cons (pv 0) (pa_cons pe_int pa_nil))) pe_int) (fun _ _ => rfl)
      (pss_cons (ps_if (pt_cmpR op_eq (pv 2) pe_int (nomark _)) (pss_cons (ps_set (i := 3) nd_L_thing_by (by rfl) (by first | exact Or.inl rfl | exact Or.inr rfl) (pe_op op_add pe_int (pe_op op_mod (pe_callH h_L_cell_at hr (by rfl) (pa_cons (pv 0) (pa_cons pe_int pa_nil))) pe_int)))
      (pss_one (ps_ret (pe_op (kop_catLW (K := K)) (pe_comp (N' := ["_law_k"]) (cap := [none]) (by rfl) (by kernel_rfl) (pi_range1 (by rfl) T.n_range (pa_cons (pv 3) pa_nil)) (fun _ _ _ _ => (pg_name (i := 0) ndc_5 (by rfl) (by first | exact Or.inl rfl | exact Or.inr rfl))) (fun _ _ _ _ => pts_nil) (fun _ _ _ _ => (pe_tup pa_nil))) (pe_slice (ksl_list (K := K)) (pe_lst (pa_cons pe_non pa_nil)) po_none (po_some (pe_op op_mod (pe_callH h_L_cell_at hr (by rfl) (pa_cons (pv 0) (pa_cons pe_int pa_nil))) pe_int))))))) pss_nil)
      (pss_one (ps_ret (pv 1)))))), ?_⟩
    have hul : us.length = ds.length := r.length
    refine tSeq_cut (fun σ' H' => ∃ m : Int, σ' = [some (.ref s), some (.ref l), some (.int m), none] ∧ H = H') ?_ fun key => ?_
    rotate_left
    · exact ⟨_, rfl, s, ns, 0, rfl, hS, by decide, hl, _, _, rfl, rfl, ⟨by decide, by decide⟩, _, _, rfl, rfl, (by show (0 : Int) < 8; decide), key _ _ ⟨_, rfl, rfl⟩⟩
    rintro _ _ ⟨m0, rfl, rfl⟩
    refine ⟨_, rfl, rfl, _, rfl, ?_⟩
    refine ite2 (fun h1 => ?_) (fun h1 => ?_)
    · refine ⟨_, rfl, l, us, rfl, .inl ⟨.of hL, fun T1 hT1 => ?_⟩⟩
      have g1 : Same H (upd H T1 (.tup us)) := Same.new hT1
      have e1 : upd H T1 (.tup us) T1 = some (.tup us) := upd_same
      generalize upd H T1 (.tup us) = G1 at g1 e1
      refine fun D1 hD1 => ?_
      have g2 : Same G1 (upd G1 D1 (.dK [])) := Same.new hD1
      have e2 : upd G1 D1 (.dK []) D1 = some (.dK []) := upd_same
      generalize upd G1 D1 (.dK []) = G2 at g2 e2
      refine ⟨_, rfl, smallE (by simp), fun T2 hT2 => ?_⟩
      have g3 : Same G2 (upd G2 T2 (.tup [.ref l])) := Same.new hT2
      have e3 : upd G2 T2 (.tup [.ref l]) T2 = some (.tup [.ref l]) := upd_same
      generalize upd G2 T2 (.tup [.ref l]) = G3 at g3 e3
      refine ⟨smallE (by simp), fun M hM => ?_⟩
      have g4 : Same G3 (upd G3 M (.tup [.ref T1, .str "", .non, .ref D1, .int 0, .ref T2])) := Same.new hM
      have e4 : upd G3 M (.tup [.ref T1, .str "", .non, .ref D1, .int 0, .ref T2]) M = some (.tup [.ref T1, .str "", .non, .ref D1, .int 0, .ref T2]) := upd_same
      generalize upd G3 M (.tup [.ref T1, .str "", .non, .ref D1, .int 0, .ref T2]) = G4 at g4 e4
      have g34 := g3.trans g4
      have g24 := g2.trans g34
      have g := g1.trans g24
      have c0 : 0 ≤ cellAt ns 2 % 6 := Int.emod_nonneg _ (by decide)
      have c1 : cellAt ns 2 % 6 < 6 := Int.emod_lt_of_pos _ (by decide)
      obtain ⟨c, hc⟩ := Int.eq_ofNat_of_zero_le c0
      have hat : ∀ v, ([V.ref T1, .str "", .non, .ref D1, .int 0, .ref T2] : List V)[c]? = some v → atI [V.ref T1, .str "", .non, .ref D1, .int 0, .ref T2] (cellAt ns 2 % 6) = some v := fun v h => by rw [hc]; exact atI_nat h
      refine ⟨_, rfl, s, ns, 2, rfl, g.seq hS, by decide, hl, _, _, rfl, rfl, (by show (0 : Int) < 6; decide), ?_⟩
      obtain rfl | rfl | rfl | rfl | rfl | rfl : c = 0 ∨ c = 1 ∨ c = 2 ∨ c = 3 ∨ c = 4 ∨ c = 5 := by omega
      · exact ⟨M, _, _, _, rfl, rfl, .of e4, hat _ rfl, k _ (.d (.tup ds)) G4 g ⟨T1, us, rfl, .of (g24 _ _ e1), Reps.same g r⟩⟩
      · exact ⟨M, _, _, _, rfl, rfl, .of e4, hat _ rfl, k _ (.d (.str "")) G4 g rfl⟩
      · exact ⟨M, _, _, _, rfl, rfl, .of e4, hat _ rfl, k _ (.d .non) G4 g rfl⟩
      · exact ⟨M, _, _, _, rfl, rfl, .of e4, hat _ rfl, k _ .nul G4 g ⟨D1, rfl, .of (g34 _ _ e2)⟩⟩
      · exact ⟨M, _, _, _, rfl, rfl, .of e4, hat _ rfl, k _ (.d (.int 0)) G4 g rfl⟩
      · exact ⟨M, _, _, _, rfl, rfl, .of e4, hat _ rfl, k _ (.d (.tup [.lst ds])) G4 g ⟨T2, _, rfl, .of (g4 _ _ e3), ⟨_, _, rfl, ⟨l, us, rfl, .of (g _ _ hL), Reps.same g r⟩, rfl⟩⟩⟩
    refine ⟨_, rfl, rfl, _, rfl, ?_⟩
    refine ite2 (fun h2 => ?_) (fun h2 => ?_)
    rotate_left
    · exact ⟨_, rfl, k _ (.d (.lst ds)) H (Same.refl H) ⟨l, us, rfl, .of hL, r⟩⟩
    refine tSeq_cut (fun σ' H' => ∃ m : Int, σ' = [some (.ref s), some (.ref l), some (.int m0), some (.int m)] ∧ H = H' ∧ 0 ≤ m ∧ m ≤ 100) ?_ fun key => ?_
    rotate_left
    · have c0 : 0 ≤ cellAt ns 2 % 20 := Int.emod_nonneg _ (by decide)
      have c1 : cellAt ns 2 % 20 < 20 := Int.emod_lt_of_pos _ (by decide)
      exact ⟨_, rfl, s, ns, 2, rfl, hS, by decide, hl, _, _, rfl, rfl, (by show (0 : Int) < 20; decide), _, _, rfl, rfl, key _ _ ⟨_, rfl, rfl, by omega, by omega⟩⟩
    rintro _ _ ⟨n, rfl, rfl, hn0, hn1⟩
    refine ⟨_, rfl, _, rfl, by omega, by omega, fun D1 hD1 => ?_⟩
    refine comp_range0 (fun i ys τ H1 => Same H H1 ∧ H1 D1 = some (.lst ys) ∧ Reps K H1 ys (List.replicate i (.tup [])) ∧ ∃ o, τ = [o])
      ⟨Same.new hD1, upd_same, rfl, none, rfl⟩ ?_ ?_
    · rintro i ys τ H1 hi ⟨sa, hD, rs, o, rfl⟩
      refine ⟨smallE (by simp), fun t1 ht => ?_⟩
      have g1 : Same H1 (upd H1 t1 (.tup [])) := Same.new ht
      have e1 : upd H1 t1 (.tup []) t1 = some (.tup []) := upd_same
      generalize upd H1 t1 (.tup []) = G1 at g1 e1
      have hys : ys.length = i := by have := rs.length; simpa using this
      refine ⟨g1 _ _ hD, small (by omega), (sa.trans g1).turn hD1, upd_same, ?_, _, rfl⟩
      rw [List.replicate_succ']
      refine Reps.snoc ?_ ?_
      · exact Reps.t (TSame.lst (g1 _ _ hD)) (imms_reps _) (Reps.same g1 rs)
      · exact Rep.t (TSame.lst (g1 _ _ hD)) rfl ⟨t1, _, rfl, .of e1, rfl⟩
    · rintro ys τ H1 ⟨sa, hD, rs, _⟩
      refine ⟨smallE (by simp), fun l1 hl1 => ?_⟩
      have g1 : Same H1 (upd H1 l1 (.lst [.non])) := Same.new hl1
      have e1 : upd H1 l1 (.lst [.non]) l1 = some (.lst [.non]) := upd_same
      generalize upd H1 l1 (.lst [.non]) = G1 at g1 e1
      have c0 : 0 ≤ cellAt ns 3 % 2 := Int.emod_nonneg _ (by decide)
      obtain ⟨c, hc⟩ := Int.eq_ofNat_of_zero_le c0
      refine ⟨_, rfl, s, ns, 3, rfl, (sa.trans g1).seq hS, by decide, hl, _, _, rfl, rfl, (by show (0 : Int) < 2; decide), ?_⟩
      refine ⟨_, rfl, l1, _, rfl, .of e1, fun c1 hc1 => ?_⟩
      have hcut : cutV [V.non] none (some (cellAt ns 3 % 2)) = ([V.non] : List V).take c := by rw [hc]; exact cut_take _ _
      rw [hcut]
      have g2 : Same G1 (upd G1 c1 (.lst (([V.non] : List V).take c))) := Same.new hc1
      have e2 : upd G1 c1 (.lst (([V.non] : List V).take c)) c1 = some (.lst (([V.non] : List V).take c)) := upd_same
      generalize upd G1 c1 (.lst (([V.non] : List V).take c)) = G2 at g2 e2
      have g12 := g1.trans g2
      have hys : ys.length = n.toNat := by have := rs.length; simpa using this
      refine ⟨D1, c1, ys, _, rfl, rfl, .of (g12 _ _ hD), .of e2, smallE (by rw [List.length_take]; simp; omega), fun p hp => ?_⟩
      have g3 : Same G2 (upd G2 p (.lst (ys ++ ([V.non] : List V).take c))) := Same.new hp
      have g := g12.trans g3
      refine k _ (.d (.lst (List.replicate n.toNat (.tup []) ++ ([.non] : List L2.D).take c))) _ (sa.trans g) ⟨p, _, rfl, .of upd_same, (Reps.same g rs).append (Reps.take c (show Reps K _ [V.non] [.non] from ⟨_, _, rfl, rfl, rfl⟩))⟩
abbrev s_is_place_of_level : Stmt := top 11
theorem sc_is_place_of_level : FnScope ["shape", "thing", "level"] ["shape", "thing", "level"] (defScope s_is_place_of_level) := ⟨rfl, rfl, rfl, by decide +kernel, rfl, by decide +kernel, by decide +kernel⟩
theorem ok_is_place_of_level {f : Addr} {fd : FuncData} (F : Fun K "is_place_of_level" "is_place_of_level" s_is_place_of_level f fd) (T : Txt K mg C_HoleError C_NoShape C_NoPiece) (h_is_whole_below : Has P w K mg base "is_whole_below" ["thing", "bound"] 2 (sp_is_whole_below K)) (h_level_of : Has P w K mg base "level_of" ["piece"] 1 (sp_level_of K)) : FnOk P w K mg base CX0 3 f fd ["shape", "thing", "level"] (sp_is_place_of_level K) := by
  refine F.ok sc_is_place_of_level (fun vs H Q E h => ?_) (fun cdv A outer s H vs Q E hr h => ?_)
  · obtain ⟨a, x, d, l, xs, rfl, hL, hx, k⟩ := h
    rfl
  · obtain ⟨a, x, d, l, xs, rfl, hL, hx, k⟩ := h
    refine ⟨_, (pss_one (ps_ret (pe_and (pe_callH h_is_whole_below hr (by rfl) (pa_cons (pv 1) (pa_cons (pe_callB (kcall_len_seq (K := K)) (by rfl) T.n_len PySem.boot_len (pa_cons (pv 0) pa_nil)) pa_nil))) (pe_one (pe_cmpR op_eq (pe_callH h_level_of hr (by rfl) (pa_cons (pe_ix (kix_list (K := K)) (pv 0) (pv 1) (fun _ _ => rfl)) pa_nil)) (pv 2) (nomark _)))))), ?_⟩
    obtain ⟨us, hq, hul⟩ := LT.len hL
    refine ⟨_, rfl, _, rfl, a, us, rfl, .inl hq, x, d, _, rfl, hx, _, rfl, ?_⟩
    rw [hul]
    refine ite2 (fun e => ?_) (fun e => ?_)
    · obtain ⟨i, rfl⟩ : ∃ i, d = .int i := by cases d <;> first | exact ⟨_, rfl⟩ | (exfalso; simp [belowD] at e)
      cases (show x = .int i from hx)
      have e' : (decide (0 ≤ i) && decide (i < (xs.length : Int))) = true := e
      have h0 : 0 ≤ i ∧ i < (xs.length : Int) := by simpa using e'
      obtain ⟨us', v, hq', hv, tv⟩ := LT.get hL h0.1 h0.2
      refine ⟨_, rfl, _, rfl, a, us', i, v, rfl, rfl, hq', hv, v, _, rfl, .inr tv, _, rfl, rfl, ?_⟩
      have e2 : placeLev xs (.int i) l = decide (levI (nums (xs.getD i.toNat [])).length = l) := by
        show (decide (0 ≤ i) && decide (i < (xs.length : Int)) && decide (levI (xs.getD i.toNat []).length = l)) = _
        rw [e']
        simp [nums]
      rw [e2] at k
      have e3 : decide (V.int (levI (nums (xs.getD i.toNat [])).length) = V.int l) = decide (levI (nums (xs.getD i.toNat [])).length = l) := by
        by_cases z : levI (nums (xs.getD i.toNat [])).length = l
        · simp [z]
        · simp [z]
      rw [e3]
      exact k
    · have e2 : placeLev xs d l = false := by
        cases d with
        | int i =>
          have e' : ¬ (decide (0 ≤ i) && decide (i < (xs.length : Int))) = true := e
          show (decide (0 ≤ i) && decide (i < (xs.length : Int)) && decide (levI (xs.getD i.toNat []).length = l)) = false
          rw [Bool.eq_false_iff.mpr e']
          rfl
        | _ => rfl
      rw [e2] at k
      exact k
abbrev s_L_shape_by : Stmt := top 26
theorem sc_L_shape_by : FnScope ["_law_kind", "_law_cells", "_law_most", "_law_family", "_law_words", "_law_cell", "_law_more"] ["_law_kind", "_law_cells", "_law_most"] (defScope s_L_shape_by) := ⟨rfl, rfl, rfl, by decide +kernel, rfl, by decide +kernel, by decide +kernel⟩
theorem nd_L_shape_by : (["_law_kind", "_law_cells", "_law_most", "_law_family", "_law_words", "_law_cell", "_law_more"] : List Str).Nodup := by decide +kernel

theorem ok_L_shape_by {f : Addr} {fd : FuncData} (F : Fun K "_law_shape_by" "_law_shape_by" s_L_shape_by f fd) (T : Txt K mg C_HoleError C_NoShape C_NoPiece) (h_L_words_with : Has P w K mg base "_law_words_with" ["_law_words", "_law_word", "_law_family"] 2 (sp_L_words_with K)) (h_L_word_by : Has P w K mg base "_law_word_by" ["_law_cell", "_law_family", "_law_letters"] 1 (sp_L_word_by K)) (h_L_faces_by : Has P w K mg base "_law_faces_by" ["_law_word", "_law_family"] 1 (sp_L_faces_by K)) : FnOk P w K mg base CX0 3 f fd ["_law_kind", "_law_cells", "_law_most"] (sp_L_shape_by K) := by
  refine F.ok sc_L_shape_by (fun vs H Q E h => ?_) (fun cdv A outer s H vs Q E hr h => ?_)
  · obtain ⟨a, ns, kind, most, rfl, hS, hl, hm0, hm1, k⟩ := h
    rfl
  · obtain ⟨a, ns, kind, most, rfl, hS, hl, hm0, hm1, k⟩ := h
    have hu8 : (A.deeper (PyProof.Rows.envOfC "_law_shape_by" (defScope s_L_shape_by) s.heap.objs.size f cdv)).units + 8 < cLine := by have := hr.units; omega
    refine ⟨_, (pss_cons (ps_set (i := 3) nd_L_shape_by (by rfl) (by first | exact Or.inl rfl | exact Or.inr rfl) pe_int)
      (pss_cons (ps_if (pt_cmpR op_eq (pe_op op_mod (pv 0) pe_int) pe_int (nomark _)) (pss_one (ps_set (i := 3) nd_L_shape_by (by rfl) (by first | exact Or.inl rfl | exact Or.inr rfl) (pe_un un_neg pe_int))) pss_nil)
      (pss_cons (ps_if (pt_cmpR op_eq (pe_op op_mod (pv 0) pe_int) pe_int (nomark _)) (pss_one (ps_set (i := 3) nd_L_shape_by (by rfl) (by first | exact Or.inl rfl | exact Or.inr rfl) (pe_op op_add pe_int (pe_op op_mod (pe_op op_fdiv (pv 0) pe_int) pe_int)))) pss_nil)
      (pss_cons (ps_set (i := 4) nd_L_shape_by (by rfl) (by first | exact Or.inl rfl | exact Or.inr rfl) (pe_lst pa_nil))
      (pss_cons (ps_for PassesOwn.never rfl (kpi_list (K := K) (pv 1)) (pg_name (i := 5) nd_L_shape_by (by rfl) (by first | exact Or.inl rfl | exact Or.inr rfl)) (pss_cons (ps_set (i := 6) nd_L_shape_by (by rfl) (by first | exact Or.inl rfl | exact Or.inr rfl) (pe_callH h_L_words_with hr (by rfl) (pa_cons (pv 4) (pa_cons (pe_callH h_L_word_by hr (by rfl) (pa_cons (pv 5) (pa_cons (pv 3) (pa_cons (pe_op op_add pe_int (pe_op op_mod (pe_op op_fdiv (pv 0) pe_int) pe_int)) pa_nil)))) (pa_cons (pv 3) pa_nil)))))
      (pss_one (ps_if (pt_cmpR op_le (pe_callB (kcall_len_seq (K := K)) (by rfl) T.n_len PySem.boot_len (pa_cons (pv 6) pa_nil)) (pv 2) (nomark _)) (pss_one (ps_set (i := 4) nd_L_shape_by (by rfl) (by first | exact Or.inl rfl | exact Or.inr rfl) (pv 6))) pss_nil))))
      (pss_one (ps_ret (pe_comp (N' := ["_law_word", "_law_family", "_law_words"]) (cap := [none, some 3, some 4]) (by rfl) (by kernel_rfl) (kpi_list (K := K) (pv 4)) (fun _ _ _ _ => (pg_name (i := 0) ndc_3 (by rfl) (by first | exact Or.inl rfl | exact Or.inr rfl))) (fun _ _ _ _ => pts_nil) (fun _ _ _ _ => (pe_callTy (kcall_tuple_of (K := K)) (by rfl) T.n_tuple boot_tupleT (pa_cons (pe_comp (N' := ["_law_face", "_law_words"]) (cap := [none, some 2]) (by rfl) (by kernel_rfl) (kpi_list (K := K) (pe_callH h_L_faces_by hr (by rfl) (pa_cons (pv 0) (pa_cons (pv 1) pa_nil)))) (fun _ _ _ _ => (pg_name (i := 0) ndc_4 (by rfl) (by first | exact Or.inl rfl | exact Or.inr rfl))) (fun _ _ _ _ => pts_nil) (fun _ _ _ _ => (kpe_bm (K := K) PySem.F.plainAttrs_list PySem.F.slot_list_index PySem.F.type_list_index (kmt_index (K := K) hu8) (pv 1) (pa_cons (pv 0) pa_nil)))) pa_nil))))))))))), ?_⟩
    refine tSeq_cut (fun σ' H' => σ' = [some (.int kind), some (.ref a), some (.int most), some (.int 0), none, none, none] ∧ H = H') ?_ fun key0 => key0 _ _ ⟨rfl, rfl⟩
    rintro _ _ ⟨rfl, rfl⟩
    refine tSeq_cut (fun σ' H' => ∃ fam : Int, σ' = [some (.int kind), some (.ref a), some (.int most), some (.int fam), none, none, none] ∧ H = H' ∧ fam < 100) ?_ fun key1 => ?_
    rotate_left
    · refine ⟨_, rfl, _, _, rfl, rfl, (by show (0 : Int) < 3; decide), rfl, _, rfl, ?_⟩
      refine ite2 (fun _ => ?_) (fun _ => ?_)
      · exact ⟨_, rfl, key1 _ _ ⟨-1, rfl, rfl, by decide⟩⟩
      · exact key1 _ _ ⟨0, rfl, rfl, by decide⟩
    rintro _ _ ⟨fam0, rfl, rfl, hf0⟩
    refine tSeq_cut (fun σ' H' => ∃ fam : Int, σ' = [some (.int kind), some (.ref a), some (.int most), some (.int fam), none, none, none] ∧ H = H' ∧ fam < 100) ?_ fun key2 => ?_
    rotate_left
    · refine ⟨_, rfl, _, _, rfl, rfl, (by show (0 : Int) < 3; decide), rfl, _, rfl, ?_⟩
      refine ite2 (fun _ => ?_) (fun _ => ?_)
      · refine ⟨_, rfl, _, _, rfl, rfl, ⟨by decide, by decide⟩, _, _, rfl, rfl, (by show (0 : Int) < 19; decide), _, _, rfl, rfl, key2 _ _ ⟨_, rfl, rfl, ?_⟩⟩
        have : kind / 18 % 19 < 19 := Int.emod_lt_of_pos _ (by decide)
        omega
      · exact key2 _ _ ⟨fam0, rfl, rfl, hf0⟩
    rintro _ _ ⟨fam, rfl, rfl, hf⟩
    have l1 : 0 ≤ kind / 3 % 6 := Int.emod_nonneg _ (by decide)
    have l2 : kind / 3 % 6 < 6 := Int.emod_lt_of_pos _ (by decide)
    refine ⟨Nat.zero_le _, fun W0 hW0 => ?_⟩
    have s0 : Same H (upd H W0 (.lst [])) := Same.new hW0
    refine ⟨_, rfl, a, rfl, ⟨_, s0.seq hS⟩, for_list (K := K) (a := a) (xs := ns.map V.int)
      (fun j σ H2 => ∃ (W : Addr) (wu : List V) (ws : List (List Int)) (o5 o6 : Option V), σ = [some (.int kind), some (.ref a), some (.int most), some (.int fam), some (.ref W), o5, o6] ∧ Same H H2 ∧ H W = none ∧ H2 W = some (.lst wu) ∧
        Reps K H2 wu (ws.map tI) ∧ Ord fam ws ∧ (ws.length : Int) ≤ most)
      ⟨W0, [], [], none, none, rfl, s0, hW0, upd_same, rfl, Ord.nil, by simpa using hm0⟩ (fun j σ H2 _ ⟨_, _, _, _, _, _, s2, _⟩ => s2.seq hS) ?_ ?_⟩
    · rintro j x σ H2 hx ⟨W, wu, ws, o5, o6, rfl, s2, hW, hW2, rW, hO, hwl⟩
      have hjn : j < ns.length := by have := (List.getElem?_eq_some_iff.mp hx).1; simpa using this
      have hxv : x = .int ns[j] := by
        rw [List.getElem?_map, List.getElem?_eq_getElem hjn] at hx
        simpa using hx.symm
      subst hxv
      refine ⟨_, rfl, _, rfl, _, rfl, _, rfl, _, _, rfl, rfl, ⟨by decide, by decide⟩, _, _, rfl, rfl, (by show (0 : Int) < 6; decide), _, _, rfl, rfl, ?_⟩
      refine ⟨_, _, _, rfl, by omega, by omega, by omega, fun v H3 w s3 tv hw => ?_⟩
      refine ⟨_, rfl, ?_⟩
      refine ⟨W, wu, v, ws, w, fam, rfl, s3 _ _ hW2, Reps.same s3 rW, tv, hw, by omega, fun M mu H4 hM s4 hM4 rM => ?_⟩
      have s24 := s3.trans s4
      have hMH : H M = none := (s2.trans s3).free hM
      have mul : mu.length = (wordsWith ws w fam).length := by have := rM.length; simpa using this
      refine ⟨_, rfl, M, _, rfl, .inl (.of hM4), _, rfl, _, _, rfl, rfl, _, rfl, ?_⟩
      refine ite2 (fun h1 => ?_) (fun h1 => ?_)
      · have h2 : (mu.length : Int) ≤ most := by simpa using h1
        exact ⟨_, rfl, M, mu, wordsWith ws w fam, _, _, rfl, s2.trans s24, hMH, hM4, rM, wordsWith_ord hO hw, by omega⟩
      · exact ⟨W, wu, ws, _, _, rfl, s2.trans s24, hW, s24 _ _ hW2, Reps.same s24 rW, hO, hwl⟩
    · rintro σ H2 ⟨W, wu, ws, o5, o6, rfl, s2, hW, hW2, rW, hO, hwl⟩
      have wul : wu.length = ws.length := by have := rW.length; simpa using this
      refine ⟨_, rfl, W, rfl, ⟨_, .of hW2⟩, fun D hD => ?_⟩
      have hDH : H D = none := s2.free hD
      refine comp_list0 (K := K) (a := W) (xs := wu) (fun i ys τ H1 => Same H2 H1 ∧ H1 D = some (.lst ys) ∧ Reps K H1 ys (((ws.take i).map fun w => (facesBy w fam).map fun f => (idx ws f : Int)).map tI) ∧ ∃ o, τ = [o, some (.int fam), some (.ref W)])
        ⟨Same.new hD, upd_same, rfl, none, rfl⟩ (fun i ys τ H1 _ ⟨s1, _⟩ => .of (s1 _ _ hW2)) ?_ ?_
      · rintro i x ys τ H1 hx ⟨s1, hD1, r1, o, rfl⟩
        have hi : i < wu.length := (List.getElem?_eq_some_iff.mp hx).1
        have hil : i < ws.length := by omega
        have hix : (ws.map tI)[i]? = some (tI ws[i]) := by rw [List.getElem?_map, List.getElem?_eq_getElem hil]; rfl
        obtain ⟨x', hx', tx⟩ := rW.get hix
        rw [hx] at hx'
        cases hx'
        obtain ⟨hwi, hfi⟩ := hO.mem (List.getElem_mem hil)
        generalize hwe : ws[i] = w at tx hwi hfi
        refine ⟨_, rfl, _, rfl, x, w, fam, rfl, TI.same s1 tx, hwi, fun p fu H3 hp s3 hp3 r3 => ?_⟩
        have ful : fu.length = (facesBy w fam).length := by have := r3.length; simpa using this
        have s13 := s1.trans s3
        refine ⟨p, rfl, ⟨_, .of hp3⟩, fun D2 hD2 => ?_⟩
        refine comp_list0 (K := K) (a := p) (xs := fu) (fun m zs τ H4 => Same H3 H4 ∧ H4 D2 = some (.lst zs) ∧ zs = ((facesBy w fam).take m).map (fun f => V.int (idx ws f : Int)) ∧ ∃ o, τ = [o, some (.ref W)])
          ⟨Same.new hD2, upd_same, rfl, none, rfl⟩ (fun m zs τ H4 _ ⟨s4, _⟩ => .of (s4 _ _ hp3)) ?_ ?_
        · rintro m y zs τ H4 hy ⟨s4, hD4, hzs, o, rfl⟩
          have hm : m < fu.length := (List.getElem?_eq_some_iff.mp hy).1
          have hmf : m < (facesBy w fam).length := by omega
          have hmy : ((facesBy w fam).map tI)[m]? = some (tI (facesBy w fam)[m]) := by rw [List.getElem?_map, List.getElem?_eq_getElem hmf]; rfl
          obtain ⟨y', hy', ty⟩ := r3.get hmy
          rw [hy] at hy'
          cases hy'
          have hfm : (facesBy w fam)[m] ∈ ws := hfi _ (List.getElem_mem _)
          have s14 := s13.trans s4
          have rw4 : Rep K H4 (.ref W) (.lst (ws.map tI)) := ⟨W, wu, rfl, .of (s14 _ _ hW2), Reps.same s14 rW⟩
          have hfl := (faces_len hwi)
          have hzl : zs.length ≤ 4 := by
            rw [hzs, List.length_map, List.length_take]
            have := hfl.2
            have := hfl.1
            split at this <;> omega
          refine ⟨_, rfl, .inl ⟨rfl, _, .of (s14 _ _ hW2)⟩, _, rfl, ws.map tI, y, tI (facesBy w fam)[m], idx ws (facesBy w fam)[m], rfl, rw4, TI.same s4 ty, (by have := deps_tIs ws; omega), findIdx_tI hfm, ?_⟩
          refine ⟨hD4, small (by omega), s4.turn hD2, upd_same, ?_, _, rfl⟩
          rw [List.take_succ, List.getElem?_eq_getElem hmf, List.map_append, hzs]
          rfl
        · rintro zs τ H4 ⟨s4, hD4, hzs, _⟩
          rw [ful, List.take_length] at hzs
          have s14 := s13.trans s4
          refine ⟨D2, _, rfl, .inl ⟨.of hD4, fun T hT => ?_⟩⟩
          have s5 : Same H4 (upd H4 T (.tup zs)) := Same.new hT
          have hD5 := (s3.trans (s4.trans s5)) _ _ hD1
          have t5 : TI K (upd H4 T (.tup zs)) (.ref T) ((facesBy w fam).map fun f => (idx ws f : Int)) := by
            refine TI.mk (.of ?_)
            rw [List.map_map, upd_same, hzs]
            rfl
          have hyl : ys.length = i := by have := r1.length; simp at this; omega
          refine ⟨hD5, small (by omega), (s14.trans s5).turn hD, upd_same, ?_, _, rfl⟩
          have e2 : (ws.take (i + 1)).map (fun w => (facesBy w fam).map fun f => (idx ws f : Int)) = (ws.take i).map (fun w => (facesBy w fam).map fun f => (idx ws f : Int)) ++ [(facesBy w fam).map fun f => (idx ws f : Int)] := by
            rw [List.take_succ, List.getElem?_eq_getElem hil, hwe, List.map_append]
            rfl
          rw [e2]
          exact push_TI hD5 (Reps.same (s3.trans (s4.trans s5)) r1) t5
      · rintro ys τ H1 ⟨s1, hD1, r1, _⟩
        rw [wul, List.take_length] at r1
        exact k D ys H1 (shapeOf ws fam) hDH (s2.trans s1) hD1 r1 (shapeOf_shape hO) (by unfold shapeOf; rw [List.length_map]; exact hwl)
abbrev s_L_due_of : Stmt := top 30
theorem sc_L_due_of : FnScope ["_law_thing", "_law_place"] ["_law_thing"] (defScope s_L_due_of) := ⟨rfl, rfl, rfl, by decide +kernel, rfl, by decide +kernel, by decide +kernel⟩
theorem nd_L_due_of : (["_law_thing", "_law_place"] : List Str).Nodup := by decide +kernel

theorem ok_L_due_of {f : Addr} {fd : FuncData} (F : Fun K "_law_due_of" "_law_due_of" s_L_due_of f fd) (T : Txt K mg C_HoleError C_NoShape C_NoPiece) (h_L_fits_by : Has P w K mg base "_law_fits_by" ["_law_shape", "_law_thing"] 2 (sp_L_fits_by K)) : FnOk P w K mg base CX0 3 f fd ["_law_thing"] (sp_mDue K) := by
  refine F.ok sc_L_due_of (fun vs H Q E h => ?_) (fun cdv A outer s H vs Q E hr h => ?_)
  · obtain ⟨v, e, rfl, hv, k⟩ := h
    rfl
  · obtain ⟨v, e, rfl, hv, k⟩ := h
    refine ⟨_, (pss_cons (ps_if (PW.pt (pw_or (pt_not (pt_val (pe_callB (call_isiT (K := K)) (by rfl) T.n_isinstance boot_isinstanceB (pa_cons (pv 0) (pa_cons (pe_bltn (v := .ty "list") rfl T.n_list boot_listT rfl) pa_nil))))) (pw_or1 (pt_cmpR op_gt (pe_callB (kcall_len_seq (K := K)) (by rfl) T.n_len PySem.boot_len (pa_cons (pv 0) pa_nil)) pe_int (nomark _))))) (pss_one (ps_ret (pe_tup (pa_cons pe_str (pa_cons pe_bl pa_nil))))) pss_nil)
      (pss_cons (ps_for PassesOwn.never rfl (pi_range1 (by rfl) T.n_range (pa_cons (pe_callB (kcall_len_seq (K := K)) (by rfl) T.n_len PySem.boot_len (pa_cons (pv 0) pa_nil)) pa_nil)) (pg_name (i := 1) nd_L_due_of (by rfl) (by first | exact Or.inl rfl | exact Or.inr rfl)) (pss_one (ps_if (pt_not (pt_val (pe_callH h_L_fits_by hr (by rfl) (pa_cons (pe_slice (ksl_list (K := K)) (pv 0) po_none (po_some (pv 1))) (pa_cons (pe_ix (kix_list (K := K)) (pv 0) (pv 1) (fun _ _ => rfl)) pa_nil))))) (pss_one (ps_ret (pe_tup (pa_cons pe_str (pa_cons pe_bl (pa_cons (pv 1) pa_nil)))))) pss_nil)))
      (pss_one (ps_ret (pe_tup (pa_cons pe_str (pa_cons (pe_callTy (kcall_list_of (K := K)) (by rfl) T.n_list boot_listT (pa_cons (pv 0) pa_nil)) pa_nil))))))), ?_⟩
    refine ⟨_, rfl, v, "list", .one e, rfl, .inr (.inr (.inr (.inr (.inl rfl)))), hv, _, rfl, ?_⟩
    have bad : ¬ fewE e = true → ∀ p, H p = none → Q (.ref p) (upd H p (.tup [.str "shape", .bl true])) := fun hb p hp => by
      refine k _ _ (Same.new hp) ?_
      rw [due_shape hb]
      exact ⟨p, _, rfl, .of upd_same, ⟨_, _, rfl, rfl, ⟨_, _, rfl, rfl, rfl⟩⟩⟩
    by_cases hi : isE "list" e = true
    rotate_left
    · refine ifP (by simpa [isT] using hi) ?_
      refine ifP rfl ?_
      exact ⟨smallE (by simp), fun p hp => bad (by rw [few_not hi]; decide) p hp⟩
    refine ifN (by simpa [isT] using hi) ?_
    obtain ⟨ds, rfl⟩ := isE_lst hi
    obtain ⟨a, us, rfl, hq, r⟩ := id hv
    have hl : us.length = ds.length := r.length
    refine ⟨_, rfl, a, us, rfl, .inl hq, _, _, rfl, rfl, _, rfl, ?_⟩
    by_cases hn : ds.length ≤ 40
    rotate_left
    · refine ifP (by simp; omega) ?_
      exact ⟨smallE (by simp), fun p hp => bad (by simpa [fewE] using hn) p hp⟩
    refine ifN (by simp; omega) ?_
    have hf : fewE (.d (.lst ds)) = true := decide_eq_true hn
    refine ⟨_, rfl, a, us, rfl, .inl hq, _, rfl, by omega, by omega, ?_⟩
    refine for_range (lo := 0) (n := ((us.length : Nat) : Int).toNat) (fun i σ G => ∃ o1, σ = [some (.ref a), o1] ∧ Same H G ∧ ∃ xs, SoFar ds i xs)
      ⟨none, rfl, Same.refl H, [], SoFar.zero ds⟩ ?_ ?_
    · rintro i σ G hi' ⟨o1, rfl, s1, xs, sf⟩
      have hil : i < us.length := by omega
      obtain ⟨dv, hdv, rv⟩ := r.getV (List.getElem?_eq_getElem hil)
      refine ⟨_, rfl, _, rfl, _, rfl, a, us, rfl, s1.seq hq, fun c hc => ?_⟩
      have s3 : Same G (upd G c (.lst (cutV us none (some (0 + (i : Int)))))) := Same.new hc
      have ec : upd G c (.lst (cutV us none (some (0 + (i : Int))))) c = some (.lst (cutV us none (some (0 + (i : Int))))) := upd_same
      generalize upd G c (.lst (cutV us none (some (0 + (i : Int))))) = G2 at s3 ec
      have s4 := s1.trans s3
      have hcut : LT K G2 (.ref c) xs := by
        refine ⟨c, _, rfl, .of ec, ?_⟩
        rw [show (0 + (i : Int)) = (i : Int) by omega, cut_take, ← sf.1]
        exact (Reps.same s4 r).take i
      refine ⟨_, rfl, _, rfl, a, us, _, _, rfl, rfl, s4.seq hq, at_nat hil, ?_⟩
      refine ⟨c, _, dv, xs, rfl, hcut, Rep.same s4 rv, fun G3 s5 => ⟨_, rfl, ?_⟩⟩
      by_cases hfi : fitsD xs dv = true
      · rw [hfi]
        refine ifN (by decide) ?_
        exact ⟨_, rfl, s4.trans s5, _, sf.next hdv hfi⟩
      · refine ifP (by simpa using hfi) ?_
        refine ⟨_, rfl, smallE (by simp), fun p hp => ?_⟩
        refine k _ _ ((s4.trans s5).trans (Same.new hp)) ?_
        rw [due_piece hf (sf.bad hdv hfi), show (0 + (i : Int)) = (i : Int) by omega]
        exact ⟨p, _, rfl, .of upd_same, ⟨_, _, rfl, rfl, ⟨_, _, rfl, rfl, ⟨_, _, rfl, rfl, rfl⟩⟩⟩⟩
    · rintro σ G ⟨o1, rfl, s1, xs, sf⟩
      rw [Int.toNat_natCast, hl] at sf
      refine ⟨_, rfl, a, us, rfl, .inl (s1.seq hq), fun l hl' => ⟨smallE (by simp), fun p hp => ?_⟩⟩
      have s2 : Same G (upd G l (.lst us)) := Same.new hl'
      have e2 : upd G l (.lst us) l = some (.lst us) := upd_same
      generalize upd G l (.lst us) = G2 at s2 e2 hp ⊢
      have s3 : Same G2 (upd G2 p (.tup [.str "good", .ref l])) := Same.new hp
      have s5 := (s1.trans s2).trans s3
      refine k _ _ s5 ?_
      rw [due_good hf sf.done]
      exact ⟨p, _, rfl, .of upd_same, ⟨_, _, rfl, rfl, ⟨_, _, rfl, ⟨l, us, rfl, .of (s3 _ _ e2), Reps.same s5 r⟩, rfl⟩⟩⟩
abbrev s_fits : Stmt := top 10
theorem sc_fits : FnScope ["shape", "thing", "level"] ["shape", "thing"] (defScope s_fits) := ⟨rfl, rfl, rfl, by decide +kernel, rfl, by decide +kernel, by decide +kernel⟩
theorem nd_fits : (["shape", "thing", "level"] : List Str).Nodup := by decide +kernel

theorem ok_fits {f : Addr} {fd : FuncData} (F : Fun K "fits" "fits" s_fits f fd) (T : Txt K mg C_HoleError C_NoShape C_NoPiece) (h_level_of : Has P w K mg base "level_of" ["piece"] 1 (sp_level_of K)) (h_faces_agree : Has P w K mg base "faces_agree" ["shape", "faces"] 1 (sp_faces_agree K)) (h_is_place_of_level : Has P w K mg base "is_place_of_level" ["shape", "thing", "level"] 3 (sp_is_place_of_level K)) : FnOk P w K mg base CX0 4 f fd ["shape", "thing"] (sp_fits K) := by
  refine F.ok sc_fits (fun vs H Q E h => ?_) (fun cdv A outer s H vs Q E hr h => ?_)
  · obtain ⟨a, th, d, xs, rfl, hL, hd, k⟩ := h
    rfl
  · obtain ⟨a, th, d, xs, rfl, hL, hd, k⟩ := h
    obtain ⟨a_FACE_COUNTS, c_FACE_COUNTS, q_FACE_COUNTS⟩ := T.x_FACE_COUNTS
    have hu8 : (A.deeper (PyProof.Rows.envOfC "fits" (defScope s_fits) s.heap.objs.size f cdv)).units + 8 < cLine := by have := hr.units; omega
    refine ⟨_, (pss_cons (ps_if (PW.pt (pw_or (pt_not (pt_val (pe_callB (kcall_isinst (K := K)) (by rfl) T.n_isinstance boot_isinstanceB (pa_cons (pv 1) (pa_cons (pe_bltn (v := .ty "tuple") rfl T.n_tuple boot_tupleT rfl) pa_nil))))) (pw_or1 (pt_cmpR (kop_notInD (K := K) hu8) (pe_callB (kcall_len_seq (K := K)) (by rfl) T.n_len PySem.boot_len (pa_cons (pv 1) pa_nil)) (pe_glob (v := .ref a_FACE_COUNTS) (by rfl) c_FACE_COUNTS rfl) rfl)))) (pss_one (ps_ret pe_bl)) pss_nil)
      (pss_cons (ps_set (i := 2) nd_fits (by rfl) (by first | exact Or.inl rfl | exact Or.inr rfl) (pe_callH h_level_of hr (by rfl) (pa_cons (pv 1) pa_nil)))
      (pss_cons (ps_if (pt_not (pt_val (pe_callB (kcall_allB (K := K) (by rfl)) (by rfl) T.n_all boot_allB (pa_cons (pe_comp (N' := ["face", "shape", "level"]) (cap := [none, some 0, some 2]) (by rfl) (by kernel_rfl) (kpi_tup (K := K) (pv 1)) (fun _ _ _ _ => (pg_name (i := 0) ndc_0 (by rfl) (by first | exact Or.inl rfl | exact Or.inr rfl))) (fun _ _ _ _ => pts_nil) (fun _ _ _ _ => (pe_callH h_is_place_of_level hr (by rfl) (pa_cons (pv 1) (pa_cons (pv 0) (pa_cons (pe_op op_sub (pv 2) pe_int) pa_nil)))))) pa_nil)))) (pss_one (ps_ret pe_bl)) pss_nil)
      (pss_one (ps_ret (pe_or (pe_cmpR op_lt (pv 2) pe_int (nomark _)) (pe_one (pe_callH h_faces_agree hr (by rfl) (pa_cons (pv 0) (pa_cons (pv 1) pa_nil)))))))))), ?_⟩
    refine ⟨_, rfl, _, _, d, rfl, .inr (.inr (.inr (.inl rfl))), hd, _, rfl, ?_⟩
    cases d with
    | non => exact k H (Same.refl H)
    | bl b => exact k H (Same.refl H)
    | int i => exact k H (Same.refl H)
    | str z => exact k H (Same.refl H)
    | lst es => exact k H (Same.refl H)
    | tup ds =>
      obtain ⟨pa, us, rfl, hq, r⟩ := id hd
      have ul : us.length = ds.length := r.length
      refine ifN (by simp [isD]) ?_
      refine ⟨_, rfl, pa, us, rfl, .inr hq, .int (us.length : Int), nums [0, 2, 3, 4], rfl, .inr ⟨_, _, rfl, q_FACE_COUNTS H, reps_nums.mpr rfl⟩, (by rw [deps_nums]; decide), _, rfl, ?_⟩
      rw [ul]
      have cnt : (!(nums [0, 2, 3, 4]).any fun e => eqD e (.int (ds.length : Int))) = !cntB ds.length := by
        have : (nums [0, 2, 3, 4]).any (fun e => eqD e (.int (ds.length : Int))) = cntB ds.length := by
          simp only [nums, List.map_cons, List.map_nil, List.any_cons, List.any_nil, eqD, cntB]
          rw [Bool.eq_iff_iff]
          simp only [Bool.or_eq_true, beq_iff_eq, Bool.or_false]
          omega
        rw [this]
      by_cases hc : cntB ds.length = true
      rotate_left
      · have hc' : cntB ds.length = false := by simpa using hc
        refine ifP (by rw [if_pos rfl, cnt, hc']; rfl) ?_
        have e2 : fitsD xs (.tup ds) = false := by rw [fitsD_tup]; simp [hc']
        rw [e2] at k
        exact k H (Same.refl H)
      refine ifN (by rw [if_pos rfl, cnt, hc]; simp) ?_
      have hn4 : ds.length ≤ 4 := (cntB_le hc).1
      refine ⟨_, rfl, _, ds, rfl, .inr hd, ?_⟩
      refine ⟨_, rfl, pa, rfl, ⟨_, hq⟩, fun D hD => ?_⟩
      refine comp_tup0 (K := K) (a := pa) (xs := us) (fun i ys τ H1 => Same H H1 ∧ H1 D = some (.lst ys) ∧ ys = ((ds.take i).map fun e => V.bl (placeLev xs e (levI ds.length - 1))) ∧ ∃ o, τ = [o, some (.ref a), some (.int (levI ds.length))])
        ⟨Same.new hD, upd_same, rfl, none, rfl⟩ (fun i ys τ H1 _ ⟨s1, _⟩ => s1.seqT hq) ?_ ?_
      · rintro i x ys τ H1 hx ⟨s1, hD1, hys, o, rfl⟩
        have hi : i < us.length := (List.getElem?_eq_some_iff.mp hx).1
        obtain ⟨e, he, re⟩ := r.getV hx
        refine ⟨_, rfl, _, rfl, _, rfl, _, _, rfl, rfl, a, x, e, _, xs, rfl, Rep.same s1 hL, Rep.same s1 re, ?_⟩
        refine ⟨hD1, small (by rw [hys, List.length_map, List.length_take]; omega), s1.turn hD, upd_same, ?_, _, rfl⟩
        rw [List.take_succ, he, List.map_append, hys]
        rfl
      · rintro ys τ H1 ⟨s1, hD1, hys, _⟩
        rw [ul, List.take_length] at hys
        have hys2 : ys = (ds.map fun e => placeLev xs e (levI ds.length - 1)).map V.bl := by rw [hys, List.map_map]; rfl
        rw [hys2] at hD1
        refine ⟨D, _, rfl, .of hD1, _, rfl, ?_⟩
        have eall : (ds.map fun e => placeLev xs e (levI ds.length - 1)).all id = ds.all fun e => placeLev xs e (levI ds.length - 1) := by rw [List.all_map]; rfl
        by_cases ha : (ds.all fun e => placeLev xs e (levI ds.length - 1)) = true
        rotate_left
        · have ha' : (ds.all fun e => placeLev xs e (levI ds.length - 1)) = false := by simpa using ha
          refine ifP (by rw [eall, ha']; rfl) ?_
          have e2 : fitsD xs (.tup ds) = false := by rw [fitsD_tup]; rw [ha', hc]; rfl
          rw [e2] at k
          exact k H1 s1
        refine ifN (by rw [eall, ha]; simp) ?_
        have e2 : fitsD xs (.tup ds) = (decide (levI ds.length < 2) || agreeB xs (ds.map toI)) := by rw [fitsD_tup]; rw [ha, hc]; rfl
        rw [e2] at k
        refine ⟨_, rfl, _, _, rfl, rfl, _, rfl, ?_⟩
        refine ite2 (fun h1 => ?_) (fun h1 => ?_)
        · have h2 : (decide (levI ds.length < 2)) = true := h1
          rw [h2] at k
          exact k H1 s1
        · have h2 : (decide (levI ds.length < 2)) = false := by simpa using h1
          rw [h2] at k
          have hint := all_nums ha
          have tv : TI K H1 (.ref pa) (ds.map toI) := by
            have := Rep.same s1 hd
            rw [hint] at this
            exact this
          refine ⟨_, rfl, _, rfl, a, _, xs, ds.map toI, rfl, Rep.same s1 hL, tv, by simpa using hn4, ?_, k H1 s1⟩
          intro f hf
          rw [List.all_eq_true] at ha
          have hm : L2.D.int f ∈ ds := by
            rw [hint]
            exact List.mem_map.mpr ⟨f, hf, rfl⟩
          have := ha _ hm
          simp only [placeLev, Bool.and_eq_true, decide_eq_true_eq] at this
          obtain ⟨⟨f0, f1⟩, f2⟩ := this
          refine ⟨f0, f1, ?_⟩
          rw [List.length_map]
          rw [levI_eq, levI_eq] at f2
          have h3 : ¬ levI ds.length < 2 := by simpa using h2
          rw [levI_eq] at h3
          omega
abbrev s_first_misfit : Stmt := top 18
theorem sc_first_misfit : FnScope ["pieces", "place", "piece"] ["pieces"] (defScope s_first_misfit) := ⟨rfl, rfl, rfl, by decide +kernel, rfl, by decide +kernel, by decide +kernel⟩
theorem nd_first_misfit : (["pieces", "place", "piece"] : List Str).Nodup := by decide +kernel

theorem ok_first_misfit {f : Addr} {fd : FuncData} (F : Fun K "first_misfit" "first_misfit" s_first_misfit f fd) (T : Txt K mg C_HoleError C_NoShape C_NoPiece) (h_fits : Has P w K mg base "fits" ["shape", "thing"] 4 (sp_fits K)) : FnOk P w K mg base CX0 5 f fd ["pieces"] (sp_mMisfit K) := by
  refine F.ok sc_first_misfit (fun vs H Q E h => ?_) (fun cdv A outer s H vs Q E hr h => ?_)
  · obtain ⟨v, ds, rfl, hL, hx, k⟩ := h
    rfl
  · obtain ⟨v, ds, rfl, hL, hx, k⟩ := h
    refine ⟨_, (pss_cons (ps_for PassesOwn.never rfl (pi_enum (K := K) (by rfl) T.n_enumerate (pa_cons (pv 0) pa_nil)) (kpg_tup (K := K) (n := 2) (by rfl) (pgs_cons (pg_name (i := 1) nd_first_misfit (by rfl) (by first | exact Or.inl rfl | exact Or.inr rfl)) (pgs_cons (pg_name (i := 2) nd_first_misfit (by rfl) (by first | exact Or.inl rfl | exact Or.inr rfl)) pgs_nil))) (pss_one (ps_if (pt_not (pt_val (pe_callH h_fits hr (by rfl) (pa_cons (pe_slice (ksl_list (K := K)) (pv 0) po_none (po_some (pv 1))) (pa_cons (pv 2) pa_nil))))) (pss_one (ps_ret (pv 1))) pss_nil)))
      (pss_one (ps_ret pe_non))), ?_⟩
    obtain ⟨a, us, rfl, hq, r⟩ := id hL
    have hl : us.length = ds.length := r.length
    refine ⟨_, rfl, a, rfl, ⟨us, hq⟩, ?_⟩
    refine for_enum (K := K) (a := a) (xs := us) (fun i σ G => ∃ o1 o2, σ = [some (.ref a), o1, o2] ∧ Same H G ∧ ∃ xs, SoFar ds i xs)
      ⟨none, none, rfl, Same.refl H, [], SoFar.zero ds⟩ (fun i σ G _ ⟨_, _, _, s1, _⟩ => s1.seq hq) ?_ ?_
    · rintro i v σ G p hv ⟨o1, o2, rfl, s1, xs, sf⟩ hp
      obtain ⟨dv, hdv, rv⟩ := r.getV hv
      have sp : Same G (upd G p (.tup [.int i, v])) := Same.new hp
      refine ⟨p, _, rfl, .of upd_same, rfl, _, _, rfl, _, _, rfl, rfl, ?_⟩
      generalize upd G p (.tup [.int i, v]) = G1 at sp
      have s2 := s1.trans sp
      refine ⟨_, rfl, _, rfl, _, rfl, a, us, rfl, s2.seq hq, fun c hc => ?_⟩
      have s3 : Same G1 (upd G1 c (.lst (cutV us none (some (i : Int))))) := Same.new hc
      have ec : upd G1 c (.lst (cutV us none (some (i : Int)))) c = some (.lst (cutV us none (some (i : Int)))) := upd_same
      generalize upd G1 c (.lst (cutV us none (some (i : Int)))) = G2 at s3 ec
      have s4 := s2.trans s3
      have hcut : LT K G2 (.ref c) xs := by
        refine ⟨c, _, rfl, .of ec, ?_⟩
        rw [cut_take, ← sf.1]
        exact (Reps.same s4 r).take i
      refine ⟨_, rfl, c, v, dv, xs, rfl, hcut, Rep.same s4 rv, fun G3 s5 => ⟨_, rfl, ?_⟩⟩
      by_cases hf : fitsD xs dv = true
      · rw [hf]
        refine ifN (by decide) ?_
        exact ⟨_, _, rfl, s4.trans s5, _, sf.next hdv hf⟩
      · refine ifP (by simpa using hf) ?_
        refine ⟨_, rfl, ?_⟩
        have := k G3 (s4.trans s5)
        unfold misV at this
        rw [sf.bad hdv hf] at this
        exact this
    · rintro σ G ⟨o1, o2, rfl, s1, xs, sf⟩
      have := k G s1
      unfold misV at this
      rw [hl] at sf
      rw [sf.done] at this
      exact this
abbrev s_is_shape : Stmt := top 15
theorem sc_is_shape : FnScope ["thing"] ["thing"] (defScope s_is_shape) := ⟨rfl, rfl, rfl, by decide +kernel, rfl, by decide +kernel, by decide +kernel⟩
theorem ok_is_shape {f : Addr} {fd : FuncData} (F : Fun K "is_shape" "is_shape" s_is_shape f fd) (T : Txt K mg C_HoleError C_NoShape C_NoPiece) (h_is_list_of_few : Has P w K mg base "is_list_of_few" ["thing"] 1 (sp_mFew K)) (h_first_misfit : Has P w K mg base "first_misfit" ["pieces"] 5 (sp_mMisfit K)) : FnOk P w K mg base CX0 6 f fd ["thing"] (sp_mIs K) := by
  refine F.ok sc_is_shape (fun vs H Q E h => ?_) (fun cdv A outer s H vs Q E hr h => ?_)
  · obtain ⟨v, e, rfl, hv, k⟩ := h
    rfl
  · obtain ⟨v, e, rfl, hv, k⟩ := h
    refine ⟨_, (pss_one (ps_ret (pe_and (pe_callH h_is_list_of_few hr (by rfl) (pa_cons (pv 0) pa_nil)) (pe_one (pe_cmpR op_isN (pe_callH h_first_misfit hr (by rfl) (pa_cons (pv 0) pa_nil)) pe_non (nomark _)))))), ?_⟩
    refine ⟨_, rfl, v, e, rfl, hv, _, rfl, ?_⟩
    refine ite2 (fun h1 => ?_) (fun h1 => ?_)
    · obtain ⟨ee, hn⟩ := few_lst h1
      have hv' := hv
      rw [ee] at hv'
      refine ⟨_, rfl, v, itemsE e, rfl, hv', hn, fun H1 s1 => ?_⟩
      have := k H1 s1
      unfold shapeE at this
      rw [h1] at this
      unfold misV
      cases hm : misD (itemsE e) with
      | some i => rw [hm] at this; exact ⟨rfl, this⟩
      | none => rw [hm] at this; exact ⟨rfl, this⟩
    · have := k H (Same.refl H)
      unfold shapeE at this
      rw [Bool.eq_false_iff.mpr h1] at this
      exact this
abbrev s_shape_of : Stmt := top 16
theorem sc_shape_of : FnScope ["thing", "misfit"] ["thing"] (defScope s_shape_of) := ⟨rfl, rfl, rfl, by decide +kernel, rfl, by decide +kernel, by decide +kernel⟩
theorem nd_shape_of : (["thing", "misfit"] : List Str).Nodup := by decide +kernel

theorem ok_shape_of {f : Addr} {fd : FuncData} (F : Fun K "shape_of" "shape_of" s_shape_of f fd) (T : Txt K mg C_HoleError C_NoShape C_NoPiece) (h_first_misfit : Has P w K mg base "first_misfit" ["pieces"] 5 (sp_mMisfit K)) (h_is_list_of_few : Has P w K mg base "is_list_of_few" ["thing"] 1 (sp_mFew K)) (he_NoPiece : HasE P w K mg base C_NoPiece C_HoleError ["self", "place"] 1 (sp_NoPiece_init K  C_NoPiece)) : FnOk P w K mg base (CX1 P w) 6 f fd ["thing"] (sp_mShapeOf K C_NoShape C_NoPiece) := by
  refine F.okX sc_shape_of (fun vs H Q E h => ?_) (fun cdv A outer s H vs Q E hr h => ?_)
  · obtain ⟨v, e, rfl, hv, k1, k2, k3⟩ := h
    rfl
  · obtain ⟨v, e, rfl, hv, k1, k2, k3⟩ := h
    obtain ⟨t_MOST_PIECES, c_MOST_PIECES⟩ := T.x_MOST_PIECES
    refine ⟨_, (pss_cons (ps_if (pt_not (pt_val (pe_callH h_is_list_of_few hr (by rfl) (pa_cons (pv 0) pa_nil)))) (pss_one (ps_raise makes_def (by rfl) (by rfl) T.m_NoShape T.e_NoShape (pa_cons (pe_fstr (pj_cons pe_str (pj_cons (pe_fmt (pe_glob (v := .int 40) (by rfl) c_MOST_PIECES ⟨_, rfl⟩)) (pj_cons pe_str pj_nil)))) pa_nil))) pss_nil)
      (pss_cons (ps_set (i := 1) nd_shape_of (by rfl) (by first | exact Or.inl rfl | exact Or.inr rfl) (pe_callH h_first_misfit hr (by rfl) (pa_cons (pv 0) pa_nil)))
      (pss_cons (ps_if (pt_cmpR op_notN (pv 1) pe_non (nomark _)) (pss_one (ps_raiseH makesD_def (by rfl) he_NoPiece hr (by rfl) T.m_NoPiece (pa_cons (pv 1) pa_nil))) pss_nil)
      (pss_one (ps_ret (pe_callTy (kcall_list_of (K := K)) (by rfl) T.n_list boot_listT (pa_cons (pv 0) pa_nil))))))), ?_⟩
    refine ⟨_, rfl, v, e, rfl, hv, _, rfl, ?_⟩
    by_cases h1 : fewE e = true
    rotate_left
    · refine ifP (by simpa using h1) ?_
      exact ⟨_, rfl, smallS, .inl ⟨40, rfl, by decide, fun z hz => ⟨_, rfl, hz, ⟨_, rfl, smallS, fun x hx => ⟨smallE (by simp), k1 h1 H (Same.refl H)⟩⟩⟩⟩⟩
    refine ifN (by rw [h1]; decide) ?_
    obtain ⟨ee, hn⟩ := few_lst h1
    have hv' := hv
    rw [ee] at hv'
    refine ⟨_, rfl, v, itemsE e, rfl, hv', hn, fun H1 s1 => ?_⟩
    unfold misV
    cases hm : misD (itemsE e) with
    | some i =>
      have hi : i < 40 := by have := mis_lt (show misFrom [] (itemsE e) 0 = some i from hm); omega
      refine ⟨_, rfl, rfl, _, rfl, ?_⟩
      refine ifP (by simp) ?_
      refine ⟨_, rfl, smallE (by simp), fun x hx => ?_⟩
      refine ⟨x, (i : Int), rfl, upd_same, log_small (by omega), fun d hd => ⟨rfl, d, upd_same, ?_⟩⟩
      obtain ⟨z1, z2⟩ := raised_same (fs := [("place", .int (i : Int))]) s1 hx hd
      exact k2 i h1 hm d _ z1 z2
    | none =>
      refine ⟨_, rfl, rfl, _, rfl, ?_⟩
      refine ifN (by decide) ?_
      obtain ⟨a, us, rfl, hq, r⟩ := hv'
      refine ⟨_, rfl, a, us, rfl, .inl (s1.seq hq), fun l hl => ?_⟩
      exact k3 (by unfold shapeE; rw [h1, hm]; rfl) l us _ (s1.free hl) (s1.trans (Same.new hl)) upd_same (Reps.same (s1.trans (Same.new hl)) r)
abbrev s_L_told_by : Stmt := top 29
theorem sc_L_told_by : FnScope ["_law_thing", "_law_found", "_law_told", "error"] ["_law_thing"] (defScope s_L_told_by) := ⟨rfl, rfl, rfl, by decide +kernel, rfl, by decide +kernel, by decide +kernel⟩
theorem nd_L_told_by : (["_law_thing", "_law_found", "_law_told", "error"] : List Str).Nodup := by decide +kernel

theorem ok_L_told_by {f : Addr} {fd : FuncData} (F : Fun K "_law_told_by" "_law_told_by" s_L_told_by f fd) (T : Txt K mg C_HoleError C_NoShape C_NoPiece) (hx_shape_of : HasX P w K mg base "shape_of" ["thing"] 6 (sp_mShapeOf K C_NoShape C_NoPiece)) (h_L_whole : Has P w K mg base "_law_whole" ["_law_found"] 1 (sp_L_whole K)) : FnOk P w K mg base CX0 7 f fd ["_law_thing"] (sp_mTold K) := by
  refine F.ok sc_L_told_by (fun vs H Q E h => ?_) (fun cdv A outer s H vs Q E hr h => ?_)
  · obtain ⟨v, e, rfl, hv, k⟩ := h
    rfl
  · obtain ⟨v, e, rfl, hv, k⟩ := h
    refine ⟨_, (pss_cons (ps_set (i := 1) nd_L_told_by (by rfl) (by first | exact Or.inl rfl | exact Or.inr rfl) pe_non)
      (pss_cons (ps_set (i := 2) nd_L_told_by (by rfl) (by first | exact Or.inl rfl | exact Or.inr rfl) pe_non)
      (pss_cons (ps_try (fun _ _ => (pss_one (ps_set (i := 1) nd_L_told_by (by rfl) (by first | exact Or.inl rfl | exact Or.inr rfl) (pe_callX flies_tried hx_shape_of hr (by rfl) (pa_cons (pv 0) pa_nil)))))
      (ph_as (i := 3) nd_L_told_by (by rfl) (by rfl) (by rfl) T.m_NoShape T.k_NoShape (fun _ => (pss_one (ps_set (i := 2) nd_L_told_by (by rfl) (by first | exact Or.inl rfl | exact Or.inr rfl) (pe_tup (pa_cons pe_str (pa_cons (pe_and (pe_callB (kcall_isiX (K := K)) (by rfl) T.n_isinstance boot_isinstanceB (pa_cons (pv 3) (pa_cons (pe_glob (v := .ref C_HoleError) (by rfl) T.m_HoleError rfl) pa_nil))) (pe_one (pe_not (pe_callB (kcall_isiX (K := K)) (by rfl) T.n_isinstance boot_isinstanceB (pa_cons (pv 3) (pa_cons (pe_glob (v := .ref C_NoPiece) (by rfl) T.m_NoPiece rfl) pa_nil)))))) pa_nil))))))
      (ph_as (i := 3) nd_L_told_by (by rfl) (by rfl) (by rfl) T.m_NoPiece T.k_NoPiece (fun _ => (pss_one (ps_set (i := 2) nd_L_told_by (by rfl) (by first | exact Or.inl rfl | exact Or.inr rfl) (pe_tup (pa_cons pe_str (pa_cons (pe_and (pe_callB (kcall_isiD (K := K)) (by rfl) T.n_isinstance boot_isinstanceB (pa_cons (pv 3) (pa_cons (pe_bltn (v := .ty "ValueError") rfl T.n_ValueError boot_ValueErrorT rfl) pa_nil))) (pe_one (pe_callB (kcall_isiD (K := K)) (by rfl) T.n_isinstance boot_isinstanceB (pa_cons (pv 3) (pa_cons (pe_glob (v := .ref C_HoleError) (by rfl) T.m_HoleError rfl) pa_nil))))) (pa_cons (pe_errAt (K := K) (pv 3)) pa_nil)))))))
      ph_none)))
      (pss_cons (ps_if (pt_cmpR op_isN (pv 2) pe_non (nomark _)) (pss_one (ps_ret (pe_tup (pa_cons pe_str (pa_cons (pv 1) pa_nil))))) pss_nil)
      (pss_cons (ps_if (PW.pt (pw_and (pt_cmpR op_eq (pe_ix (kix_tup (K := K)) (pv 2) pe_int (fun _ _ => rfl)) pe_str (nomark _)) (pw_and1 (pt_not (pt_val (pe_callH h_L_whole hr (by rfl) (pa_cons (pe_ix (kix_tup (K := K)) (pv 2) pe_int (fun _ _ => rfl)) pa_nil))))))) (pss_one (ps_ret (pe_tup (pa_cons pe_str pa_nil)))) pss_nil)
      (pss_one (ps_ret (pv 2)))))))), ?_⟩
    refine ⟨_, rfl, v, e, rfl, hv, fun h1 H1 s1 => ?_, fun i h1 hm d H1 s1 hd => ?_, fun h1 l us H1 hl s1 hl1 r1 => ?_⟩
    · -- NoShape
      refine ⟨C_NoShape, true, rfl, T.s_NoShape_NoShape, ?_⟩
      refine ifP rfl fun x hx => ?_
      have s2 : Same H1 (upd H1 x (excX x (.ref C_NoShape) none)) := Same.new hx
      refine ⟨_, rfl, x, C_NoShape, _, _, _, rfl, rfl, ref_only, upd_same, T.x_NoShape, T.i_NoShape_HoleError, _, rfl, ?_⟩
      refine ifP rfl ?_
      refine ⟨_, rfl, x, C_NoShape, _, _, _, rfl, rfl, ref_only, upd_same, T.x_NoShape, T.i_NoShape_NoPiece, _, rfl, smallE (by simp), fun p hp => ?_⟩
      have s3 : Same (upd H1 x (excX x (.ref C_NoShape) none)) (upd (upd H1 x (excX x (.ref C_NoShape) none)) p (.tup [.str "shape", .bl true])) := Same.new hp
      have hp3 : upd (upd H1 x (excX x (.ref C_NoShape) none)) p (.tup [.str "shape", .bl true]) p = some (.tup [.str "shape", .bl true]) := upd_same
      have s4 := (s1.trans s2).trans s3
      refine ⟨_, rfl, rfl, _, rfl, ?_⟩
      refine ifN (by simp) ?_
      refine ⟨_, rfl, p, _, _, _, rfl, rfl, .of hp3, at0 _ _, rfl, _, rfl, ?_⟩
      refine ifN (by decide) ?_
      refine ifN (by decide) ?_
      refine ⟨_, rfl, ?_⟩
      refine k _ _ s4 ?_ fun z => ?_
      · rw [due_shape h1]
        exact ⟨p, _, rfl, .of hp3, ⟨_, _, rfl, rfl, ⟨_, _, rfl, rfl, rfl⟩⟩⟩
      · unfold shapeE at z
        rw [Bool.eq_false_iff.mpr h1] at z
        cases z
    · -- NoPiece
      refine ⟨C_NoPiece, false, rfl, T.s_NoPiece_NoShape, ?_⟩
      refine ifN (by decide) ?_
      refine ⟨C_NoPiece, true, rfl, T.s_NoPiece_NoPiece, ?_⟩
      refine ifP rfl fun x hx => ?_
      have s2 : Same H1 (upd H1 x (excX x (.ref C_NoPiece) (some d))) := Same.new hx
      have hxx : upd H1 x (excX x (.ref C_NoPiece) (some d)) x = some (excX x (.ref C_NoPiece) (some d)) := upd_same
      have hdd := s2 _ _ hd
      generalize upd H1 x (excX x (.ref C_NoPiece) (some d)) = H2 at s2 hxx hdd
      refine ⟨_, rfl, x, C_NoPiece, d, _, _, _, rfl, rfl, ty_only, hxx, T.x_NoPiece, T.iv_NoPiece, _, rfl, ?_⟩
      refine ifP rfl ?_
      refine ⟨_, rfl, x, C_NoPiece, d, _, _, _, rfl, rfl, ref_only, hxx, T.x_NoPiece, T.i_NoPiece_HoleError, ?_⟩
      refine ⟨_, rfl, x, C_NoPiece, d, _, _, rfl, hxx, T.x_NoPiece, T.ea_NoPiece_place, hdd, rfl, smallE (by simp), fun p hp => ?_⟩
      have s3 : Same H2 (upd H2 p (.tup [.str "piece", .bl true, .int (i : Int)])) := Same.new hp
      have hp3 : upd H2 p (.tup [.str "piece", .bl true, .int (i : Int)]) p = some (.tup [.str "piece", .bl true, .int (i : Int)]) := upd_same
      have s4 := (s1.trans s2).trans s3
      refine ⟨_, rfl, rfl, _, rfl, ?_⟩
      refine ifN (by simp) ?_
      refine ⟨_, rfl, p, _, _, _, rfl, rfl, .of hp3, at0 _ _, rfl, _, rfl, ?_⟩
      refine ifP (by decide) ?_
      refine ⟨_, rfl, p, _, _, _, rfl, rfl, .of hp3, at2 _ _ _ _, _, .int (i : Int), rfl, rfl, _, rfl, ?_⟩
      refine ifN (by simp [wholeD, isD]) ?_
      refine ⟨_, rfl, ?_⟩
      refine k _ _ s4 ?_ fun z => ?_
      · rw [due_piece h1 hm]
        exact ⟨p, _, rfl, .of hp3, ⟨_, _, rfl, rfl, ⟨_, _, rfl, rfl, ⟨_, _, rfl, rfl, rfl⟩⟩⟩⟩
      · unfold shapeE at z
        rw [hm, h1] at z
        cases z
    · refine ⟨_, rfl, rfl, _, rfl, ?_⟩
      refine ifP (by decide) ?_
      refine ⟨_, rfl, smallE (by simp), fun p hp => ?_⟩
      have s3 : Same H1 (upd H1 p (.tup [.str "good", .ref l])) := Same.new hp
      have hp3 : upd H1 p (.tup [.str "good", .ref l]) p = some (.tup [.str "good", .ref l]) := upd_same
      have hl3 := s3 _ _ hl1
      have r3 := Reps.same s3 r1
      generalize upd H1 p (.tup [.str "good", .ref l]) = H2 at s3 hp3 hl3 r3
      obtain ⟨hf, hm⟩ := shape_good h1
      refine k _ _ (s1.trans s3) ?_ fun _ => ⟨p, l, us, rfl, s1.free hp, hp3, hl, hl3, r3⟩
      rw [due_good hf hm]
      exact ⟨p, _, rfl, .of hp3, ⟨_, _, rfl, rfl, ⟨_, _, rfl, ⟨l, us, rfl, .of hl3, r3⟩, rfl⟩⟩⟩
abbrev s_law : Stmt := top 31
theorem sc_law : FnScope ["_law_script", "_law_shape", "_law_thing", "_law_due", "_law_first", "_law_turn", "_law_found"] ["_law_script"] (defScope s_law) := ⟨rfl, rfl, rfl, by decide +kernel, rfl, by decide +kernel, by decide +kernel⟩
theorem nd_law : (["_law_script", "_law_shape", "_law_thing", "_law_due", "_law_first", "_law_turn", "_law_found"] : List Str).Nodup := by decide +kernel

theorem ok_law {f : Addr} {fd : FuncData} (F : Fun K "law" "law" s_law f fd) (T : Txt K mg C_HoleError C_NoShape C_NoPiece) (h_L_shape_by : Has P w K mg base "_law_shape_by" ["_law_kind", "_law_cells", "_law_most"] 3 (sp_L_shape_by K)) (h_L_thing_by : Has P w K mg base "_law_thing_by" ["_law_script", "_law_rows"] 2 (sp_mThing K)) (h_L_due_of : Has P w K mg base "_law_due_of" ["_law_thing"] 3 (sp_mDue K)) (h_is_shape : Has P w K mg base "is_shape" ["thing"] 6 (sp_mIs K)) (h_L_cell_at : Has P w K mg base "_law_cell_at" ["_law_script", "_law_k"] 1 (sp_L_cell_at K)) (h_L_spoilt_by : Has P w K mg base "_law_spoilt_by" ["_law_script", "_law_shape"] 2 (sp_mSpoilt K)) (h_L_told_by : Has P w K mg base "_law_told_by" ["_law_thing"] 7 (sp_mTold K)) : FnOk P w K mg base CX0 8 f fd ["_law_script"] (sp_law K) := by
  refine F.ok sc_law (fun vs H Q E h => ?_) (fun cdv A outer s H vs Q E hr h => ?_)
  · obtain ⟨a, ns, rfl, hS, hl, k⟩ := h
    rfl
  · obtain ⟨a, ns, rfl, hS, hl, k⟩ := h
    have hu8 : (A.deeper (PyProof.Rows.envOfC "law" (defScope s_law) s.heap.objs.size f cdv)).units + 8 < cLine := by have := hr.units; omega
    refine ⟨_, (pss_cons (ps_set (i := 1) nd_law (by rfl) (by first | exact Or.inl rfl | exact Or.inr rfl) (pe_callH h_L_shape_by hr (by rfl) (pa_cons (pe_callH h_L_cell_at hr (by rfl) (pa_cons (pv 0) (pa_cons pe_int pa_nil))) (pa_cons (pe_slice (ksl_list (K := K)) (pv 0) (po_some pe_int) (po_some pe_int)) (pa_cons pe_int pa_nil)))))
      (pss_cons (ps_set (i := 2) nd_law (by rfl) (by first | exact Or.inl rfl | exact Or.inr rfl) (pe_callH h_L_thing_by hr (by rfl) (pa_cons (pv 0) (pa_cons (pe_callH h_L_spoilt_by hr (by rfl) (pa_cons (pv 0) (pa_cons (pv 1) pa_nil))) pa_nil))))
      (pss_cons (ps_set (i := 3) nd_law (by rfl) (by first | exact Or.inl rfl | exact Or.inr rfl) (pe_callH h_L_due_of hr (by rfl) (pa_cons (pv 2) pa_nil)))
      (pss_cons (ps_set (i := 4) nd_law (by rfl) (by first | exact Or.inl rfl | exact Or.inr rfl) (pe_callH h_is_shape hr (by rfl) (pa_cons (pv 2) pa_nil)))
      (pss_cons (ps_if (PW.pt (pw_or (pt_not (pt_val (pe_callB (kcall_isinst (K := K)) (by rfl) T.n_isinstance boot_isinstanceB (pa_cons (pv 4) (pa_cons (pe_bltn (v := .ty "bool") rfl T.n_bool boot_boolT rfl) pa_nil))))) (pw_or1 (pt_cmpR op_ne (pv 4) (pe_cmpR op_eq (pe_ix (kix_tup (K := K)) (pv 3) pe_int (fun _ _ => rfl)) pe_str (nomark _)) (nomark _))))) (pss_one (ps_ret pe_bl)) pss_nil)
      (pss_cons (ps_for PassesOwn.never rfl (pi_range1 (by rfl) T.n_range (pa_cons pe_int pa_nil)) (pg_name (i := 5) nd_law (by rfl) (by first | exact Or.inl rfl | exact Or.inr rfl)) (pss_cons (ps_set (i := 6) nd_law (by rfl) (by first | exact Or.inl rfl | exact Or.inr rfl) (pe_callH h_L_told_by hr (by rfl) (pa_cons (pv 2) pa_nil)))
      (pss_cons (ps_if (PW.pt (pw_or (pt_cmpR (kop_neD (K := K) hu8) (pv 6) (pv 3) (nomark _)) (pw_or1 (pt_cmpR (kop_neD (K := K) hu8) (pe_callH h_L_due_of hr (by rfl) (pa_cons (pv 2) pa_nil)) (pv 3) (nomark _))))) (pss_one (ps_ret pe_bl)) pss_nil)
      (pss_one (ps_if (pt_cmpR op_eq (pe_ix (kix_tup (K := K)) (pv 6) pe_int (fun _ _ => rfl)) pe_str (nomark _)) (pss_cons (ps_if (pt_not (pt_val (pe_callB (kcall_isinst (K := K)) (by rfl) T.n_isinstance boot_isinstanceB (pa_cons (pe_ix (kix_tup (K := K)) (pv 6) pe_int (fun _ _ => rfl)) (pa_cons (pe_bltn (v := .ty "list") rfl T.n_list boot_listT rfl) pa_nil))))) (pss_one (ps_ret pe_bl)) pss_nil)
      (pss_one (ps_expr (kpe_bm (K := K) PySem.F.plainAttrs_list PySem.F.slot_list_append PySem.F.type_list_append mt_append (pe_ix (kix_tup (K := K)) (pv 6) pe_int (fun _ _ => rfl)) (pa_cons (pe_tup pa_nil) pa_nil))))) pss_nil)))))
      (pss_one (ps_ret (pe_and (pe_cmpR (kop_eqD (K := K) hu8) (pe_callH h_L_due_of hr (by rfl) (pa_cons (pv 2) pa_nil)) (pv 3) (nomark _)) (pe_one (pe_cmpR op_eq (pe_callH h_is_shape hr (by rfl) (pa_cons (pv 2) pa_nil)) (pv 4) (nomark _)))))))))))), ?_⟩
    refine tSeq_cut (fun σ' H' => ∃ (p : Addr) (us : List V) (xs : List (List Int)), σ' = [some (.ref a), some (.ref p), none, none, none, none, none] ∧ Same H H' ∧ H' p = some (.lst us) ∧ Reps K H' us (xs.map tI) ∧ xs.length ≤ 40 ∧ ∀ x ∈ xs, x.length ≤ 4) ?_ fun key => ?_
    rotate_left
    · refine ⟨_, rfl, a, ns, 0, rfl, hS, by decide, hl, _, rfl, _, rfl, _, rfl, a, _, rfl, hS, fun C hC => ?_⟩
      have sC : Same H (upd H C (.lst (cutV (ns.map V.int) (some 4) (some 54)))) := Same.new hC
      have hcl := cutI_len ns (some 4) (some 54)
      refine ⟨C, cutI ns (some 4) (some 54), _, 40, rfl, ?_, by omega, by decide, by decide, fun p us H' xs hp s' hp' r' hsh hxl => ?_⟩
      · rw [← cutV_map]
        exact .of upd_same
      · exact key _ _ ⟨p, us, xs, rfl, sC.trans s', hp', r', by omega, fun x hx => le4_of hsh hx⟩
    rintro _ H1 ⟨p, us, xs, rfl, s1, hp1, r1, hxl, hx4⟩
    refine tSeq_cut (fun σ' H' => ∃ (v : V) (e : DE), σ' = [some (.ref a), some (.ref p), some v, none, none, none, none] ∧ RepE K H' v e) ?_ fun key => ?_
    rotate_left
    · refine ⟨_, rfl, _, rfl, _, rfl, a, p, ns, xs, rfl, s1.seq hS, hl, ⟨p, us, rfl, .of hp1, r1⟩, hxl, hx4, fun l us2 ds H2 s2 hl2 r2 hd2 => ?_⟩
      exact ⟨a, l, ns, us2, ds, rfl, (s1.trans s2).seq hS, hl, hl2, r2, hd2, fun v e H3 s3 re => key _ _ ⟨v, e, rfl, re⟩⟩
    rintro _ H2 ⟨v, e, rfl, re⟩
    refine tSeq_cut (fun σ' H' => ∃ u : V, σ' = [some (.ref a), some (.ref p), some v, some u, none, none, none] ∧ RepE K H' v e ∧ Rep K H' u (dueE e)) ?_ fun key => ?_
    rotate_left
    · exact ⟨_, rfl, v, e, rfl, re, fun u H3 s3 ru => key _ _ ⟨u, rfl, RepE.same s3 re, ru⟩⟩
    rintro _ H3 ⟨u, rfl, re, ru⟩
    refine tSeq_cut (fun σ' H' => σ' = [some (.ref a), some (.ref p), some v, some u, some (.bl (shapeE e)), none, none] ∧ RepE K H' v e ∧ Rep K H' u (dueE e)) ?_ fun key => ?_
    rotate_left
    · exact ⟨_, rfl, v, e, rfl, re, fun H4 s4 => key _ _ ⟨rfl, RepE.same s4 re, Rep.same s4 ru⟩⟩
    rintro _ H4 ⟨rfl, re, ru⟩
    obtain ⟨t0, y, rest, rfl, ht0, hy⟩ := due_at (id ru)
    refine ⟨_, rfl, _, "bool", .bl (shapeE e), rfl, .inr (.inl rfl), rfl, _, rfl, ?_⟩
    refine ifN (by simp [isD]) ?_
    refine ⟨_, rfl, _, rfl, t0, _, _, _, rfl, rfl, ht0, at0 _ _, rfl, rfl, _, rfl, ?_⟩
    rw [hy]
    refine ifN (by simp) ?_
    have dd := due_dep e
    refine ⟨2, rfl, by decide, by decide, ?_⟩
    refine for_range (lo := 0) (n := ((2 : Int)).toNat) (fun i σ G => ∃ o5 o6, σ = [some (.ref a), some (.ref p), some v, some (.ref t0), some (.bl (shapeE e)), o5, o6] ∧ RepE K G v e ∧ Rep K G (.ref t0) (dueE e))
      ⟨none, none, rfl, re, ru⟩ ?_ ?_
    · rintro i σ G hi ⟨o5, o6, rfl, re, ru⟩
      refine ⟨_, rfl, v, e, rfl, re, fun u G1 g1 ru1 new => ?_⟩
      refine ⟨_, rfl, _, rfl, dueE e, dueE e, ru1, Rep.same g1 ru, by omega, _, rfl, ?_⟩
      rw [eqD_refl]
      refine ifN (by simp) ?_
      refine ⟨_, rfl, v, e, rfl, RepE.same g1 re, fun u2 G2 g2 ru2 => ?_⟩
      refine ⟨_, rfl, dueE e, dueE e, ru2, Rep.same (g1.trans g2) ru, by omega, _, rfl, ?_⟩
      rw [eqD_refl]
      refine ifN (by simp) ?_
      have g12 := g1.trans g2
      by_cases hsh : shapeE e = true
      · obtain ⟨t1, l, us1, rfl, ht0', ht1, hl0, hl1, rl⟩ := new hsh
        have ht2 := g2 _ _ ht1
        have hl2 := g2 _ _ hl1
        refine ⟨_, rfl, t1, _, _, _, rfl, rfl, .of ht2, at0 _ _, rfl, _, rfl, ?_⟩
        refine ifP (by decide) ?_
        refine ⟨_, rfl, t1, _, _, _, rfl, rfl, .of ht2, at1 _ _ _, _, "list", .lst (itemsE e), rfl, .inr (.inr (.inr (.inr (.inl rfl)))), ⟨l, us1, rfl, .of hl2, Reps.same g2 rl⟩, _, rfl, ?_⟩
        refine ifN (by simp [isD]) ?_
        refine ⟨_, rfl, t1, _, _, _, rfl, rfl, .of ht2, at1 _ _ _, .inl ⟨rfl, _, .of hl2⟩, smallE (by simp), fun T1 hT1 => ?_⟩
        have g3 : Same G2 (upd G2 T1 (.tup [])) := Same.new hT1
        have hl3 := g3 _ _ hl2
        generalize upd G2 T1 (.tup []) = G3 at g3 hl3
        have hul : us1.length ≤ 40 := by rw [rl.length]; exact (few_lst (shape_good hsh).1).2
        refine ⟨l, _, _, rfl, rfl, hl3, small (by omega), ?_⟩
        have g := (g12.trans g3).turn (o := .lst (us1 ++ [.ref T1])) hl0
        exact ⟨_, _, rfl, RepE.same g re, Rep.same g ru⟩
      · obtain ⟨t1, y1, r1, rfl, hq1, hy1⟩ := due_at (id ru1)
        refine ⟨_, rfl, t1, _, _, _, rfl, rfl, g2.seqT hq1, at0 _ _, rfl, _, rfl, ?_⟩
        refine ifN (by rw [hy1]; exact hsh) ?_
        exact ⟨_, _, rfl, RepE.same g12 re, Rep.same g12 ru⟩
    · rintro σ G ⟨o5, o6, rfl, re, ru⟩
      refine ⟨_, rfl, v, e, rfl, re, fun u G1 g1 ru1 => ?_⟩
      refine ⟨_, rfl, dueE e, dueE e, ru1, Rep.same g1 ru, by omega, _, rfl, ?_⟩
      rw [eqD_refl]
      refine ifP rfl ?_
      refine ⟨_, rfl, v, e, rfl, RepE.same g1 re, fun G2 g2 => ⟨_, rfl, rfl, ?_⟩⟩
      simp only [decide_true]
      exact k _
end
end Hb
namespace Hb
open PySem L2
theorem elim1 {α : Type} {P : List α → Prop} (h : ∀ a0, P [a0]) (us : List α) (hl : us.length = 1) : P us := by
  cases us with
  | nil => exact nomatch hl
  | cons a0 u0 =>
    cases u0 with
    | nil => exact h a0
    | cons _ _ => simp at hl
theorem elim2 {α : Type} {P : List α → Prop} (h : ∀ a0 a1, P [a0, a1]) (us : List α) (hl : us.length = 2) : P us := by
  cases us with
  | nil => exact nomatch hl
  | cons a0 u0 =>
    cases u0 with
    | nil => exact nomatch hl
    | cons a1 u1 =>
      cases u1 with
      | nil => exact h a0 a1
      | cons _ _ => simp at hl
theorem elim3 {α : Type} {P : List α → Prop} (h : ∀ a0 a1 a2, P [a0, a1, a2]) (us : List α) (hl : us.length = 3) : P us := by
  cases us with
  | nil => exact nomatch hl
  | cons a0 u0 =>
    cases u0 with
    | nil => exact nomatch hl
    | cons a1 u1 =>
      cases u1 with
      | nil => exact nomatch hl
      | cons a2 u2 =>
        cases u2 with
        | nil => exact h a0 a1 a2
        | cons _ _ => simp at hl
set_option maxHeartbeats 4000000 in
theorem all_mk {l : PySem.W.OpenLaw} {w : World} {K : PySem.W.Frag} {h : Heap} {mg : Str → Option Value} {fa : Addr} {C_HoleError : Addr}
    {C_NoShape : Addr}
    {C_NoPiece : Addr}
    {f_NoPiece__init_ : Addr} {od_NoPiece__init_ an_NoPiece__init_ : Option Addr} {sl_NoPiece__init_ : Array (Option Value)} {oc_NoPiece__init_ kV_NoPiece__init_ dc_NoPiece__init_ pm_NoPiece__init_ cd_NoPiece__init_ ct_NoPiece__init_ : Value}
    {f_is_whole : Addr} {od_is_whole an_is_whole : Option Addr} {sl_is_whole : Array (Option Value)} {oc_is_whole kV_is_whole dc_is_whole pm_is_whole cd_is_whole ct_is_whole : Value}
    {f_level_of : Addr} {od_level_of an_level_of : Option Addr} {sl_level_of : Array (Option Value)} {oc_level_of kV_level_of dc_level_of pm_level_of cd_level_of ct_level_of : Value}
    {f_faces_agree : Addr} {od_faces_agree an_faces_agree : Option Addr} {sl_faces_agree : Array (Option Value)} {oc_faces_agree kV_faces_agree dc_faces_agree pm_faces_agree cd_faces_agree ct_faces_agree : Value}
    {f_is_list_of_few : Addr} {od_is_list_of_few an_is_list_of_few : Option Addr} {sl_is_list_of_few : Array (Option Value)} {oc_is_list_of_few kV_is_list_of_few dc_is_list_of_few pm_is_list_of_few cd_is_list_of_few ct_is_list_of_few : Value}
    {f_L_whole : Addr} {od_L_whole an_L_whole : Option Addr} {sl_L_whole : Array (Option Value)} {oc_L_whole kV_L_whole dc_L_whole pm_L_whole cd_L_whole ct_L_whole : Value}
    {f_L_cell_at : Addr} {od_L_cell_at an_L_cell_at : Option Addr} {sl_L_cell_at : Array (Option Value)} {oc_L_cell_at kV_L_cell_at dc_L_cell_at pm_L_cell_at cd_L_cell_at ct_L_cell_at : Value}
    {f_L_faces_by : Addr} {od_L_faces_by an_L_faces_by : Option Addr} {sl_L_faces_by : Array (Option Value)} {oc_L_faces_by kV_L_faces_by dc_L_faces_by pm_L_faces_by cd_L_faces_by ct_L_faces_by : Value}
    {f_L_word_by : Addr} {od_L_word_by an_L_word_by : Option Addr} {sl_L_word_by : Array (Option Value)} {oc_L_word_by kV_L_word_by dc_L_word_by pm_L_word_by cd_L_word_by ct_L_word_by : Value}
    {f_is_whole_below : Addr} {od_is_whole_below an_is_whole_below : Option Addr} {sl_is_whole_below : Array (Option Value)} {oc_is_whole_below kV_is_whole_below dc_is_whole_below pm_is_whole_below cd_is_whole_below ct_is_whole_below : Value}
    {f_L_fits_by : Addr} {od_L_fits_by an_L_fits_by : Option Addr} {sl_L_fits_by : Array (Option Value)} {oc_L_fits_by kV_L_fits_by dc_L_fits_by pm_L_fits_by cd_L_fits_by ct_L_fits_by : Value}
    {f_L_words_with : Addr} {od_L_words_with an_L_words_with : Option Addr} {sl_L_words_with : Array (Option Value)} {oc_L_words_with kV_L_words_with dc_L_words_with pm_L_words_with cd_L_words_with ct_L_words_with : Value}
    {f_L_spoilt_by : Addr} {od_L_spoilt_by an_L_spoilt_by : Option Addr} {sl_L_spoilt_by : Array (Option Value)} {oc_L_spoilt_by kV_L_spoilt_by dc_L_spoilt_by pm_L_spoilt_by cd_L_spoilt_by ct_L_spoilt_by : Value}
    {f_L_thing_by : Addr} {od_L_thing_by an_L_thing_by : Option Addr} {sl_L_thing_by : Array (Option Value)} {oc_L_thing_by kV_L_thing_by dc_L_thing_by pm_L_thing_by cd_L_thing_by ct_L_thing_by : Value}
    {f_is_place_of_level : Addr} {od_is_place_of_level an_is_place_of_level : Option Addr} {sl_is_place_of_level : Array (Option Value)} {oc_is_place_of_level kV_is_place_of_level dc_is_place_of_level pm_is_place_of_level cd_is_place_of_level ct_is_place_of_level : Value}
    {f_L_shape_by : Addr} {od_L_shape_by an_L_shape_by : Option Addr} {sl_L_shape_by : Array (Option Value)} {oc_L_shape_by kV_L_shape_by dc_L_shape_by pm_L_shape_by cd_L_shape_by ct_L_shape_by : Value}
    {f_L_due_of : Addr} {od_L_due_of an_L_due_of : Option Addr} {sl_L_due_of : Array (Option Value)} {oc_L_due_of kV_L_due_of dc_L_due_of pm_L_due_of cd_L_due_of ct_L_due_of : Value}
    {f_fits : Addr} {od_fits an_fits : Option Addr} {sl_fits : Array (Option Value)} {oc_fits kV_fits dc_fits pm_fits cd_fits ct_fits : Value}
    {f_first_misfit : Addr} {od_first_misfit an_first_misfit : Option Addr} {sl_first_misfit : Array (Option Value)} {oc_first_misfit kV_first_misfit dc_first_misfit pm_first_misfit cd_first_misfit ct_first_misfit : Value}
    {f_is_shape : Addr} {od_is_shape an_is_shape : Option Addr} {sl_is_shape : Array (Option Value)} {oc_is_shape kV_is_shape dc_is_shape pm_is_shape cd_is_shape ct_is_shape : Value}
    {f_shape_of : Addr} {od_shape_of an_shape_of : Option Addr} {sl_shape_of : Array (Option Value)} {oc_shape_of kV_shape_of dc_shape_of pm_shape_of cd_shape_of ct_shape_of : Value}
    {f_L_told_by : Addr} {od_L_told_by an_L_told_by : Option Addr} {sl_L_told_by : Array (Option Value)} {oc_L_told_by kV_L_told_by dc_L_told_by pm_L_told_by cd_L_told_by ct_L_told_by : Value}
    {f_law : Addr} {od_law an_law : Option Addr} {sl_law : Array (Option Value)} {oc_law kV_law dc_law pm_law cd_law ct_law : Value}
    {N_NoPiece : Addr} {nm_NoPiece q_NoPiece : Str} {bs_NoPiece : List Value} {sn_NoPiece : List Str} {sub_NoPiece : List Value} {ab_NoPiece : Bool} {col_NoPiece : Option Bool} {dd_NoPiece : Option Addr} {k0_NoPiece k1_NoPiece k2_NoPiece k3_NoPiece k5_NoPiece : Option Value}
    {t_MOST_PIECES : Tok}
    {fc_FACE_COUNTS : Addr} {nc_FACE_COUNTS : Nat} {slc_FACE_COUNTS : Array (Option Value)} {tc_FACE_COUNTS_0 tc_FACE_COUNTS_1 tc_FACE_COUNTS_2 tc_FACE_COUNTS_3 : Tok}
    (X : K.In h) (G : h.Ns mainGlobals mg) (hfa : mg "law" = some (.ref fa))
    (ac_HoleError : PySem.W.nsIn K mainGlobals "HoleError" = some (some (.ref C_HoleError)))
    (ac_NoShape : PySem.W.nsIn K mainGlobals "NoShape" = some (some (.ref C_NoShape)))
    (ac_NoPiece : PySem.W.nsIn K mainGlobals "NoPiece" = some (some (.ref C_NoPiece)))
    (a_NoPiece__init_ : PySem.W.findIn K (.ref C_NoPiece) "__init__" = some (some (.ref f_NoPiece__init_)))
    (if_NoPiece__init_ : PySem.W.isFn K (.ref f_NoPiece__init_) = true)
    (l_NoPiece__init_ : K.lookup f_NoPiece__init_ = some ⟨oc_NoPiece__init_, od_NoPiece__init_, .func (PySem.W.fnOf "__init__" "NoPiece.__init__" (defArgs s_NoPiece__init_) (defBody s_NoPiece__init_) (defScope s_NoPiece__init_) .none kV_NoPiece__init_ dc_NoPiece__init_ pm_NoPiece__init_ an_NoPiece__init_ cd_NoPiece__init_ ct_NoPiece__init_), sl_NoPiece__init_⟩)
    (c_NoPiece__init_ : PySem.W.codeIn K cd_NoPiece__init_ "NoPiece.__init__" = true)
    (k_NoPiece__init_ : PySem.W.keepIn K (.ref f_NoPiece__init_) = true)
    (a_is_whole : PySem.W.nsIn K mainGlobals "is_whole" = some (some (.ref f_is_whole)))
    (l_is_whole : K.lookup f_is_whole = some ⟨oc_is_whole, od_is_whole, .func (PySem.W.fnOf "is_whole" "is_whole" (defArgs s_is_whole) (defBody s_is_whole) (defScope s_is_whole) .none kV_is_whole dc_is_whole pm_is_whole an_is_whole cd_is_whole ct_is_whole), sl_is_whole⟩)
    (c_is_whole : PySem.W.codeIn K cd_is_whole "is_whole" = true)
    (k_is_whole : PySem.W.keepIn K (.ref f_is_whole) = true)
    (a_level_of : PySem.W.nsIn K mainGlobals "level_of" = some (some (.ref f_level_of)))
    (l_level_of : K.lookup f_level_of = some ⟨oc_level_of, od_level_of, .func (PySem.W.fnOf "level_of" "level_of" (defArgs s_level_of) (defBody s_level_of) (defScope s_level_of) .none kV_level_of dc_level_of pm_level_of an_level_of cd_level_of ct_level_of), sl_level_of⟩)
    (c_level_of : PySem.W.codeIn K cd_level_of "level_of" = true)
    (k_level_of : PySem.W.keepIn K (.ref f_level_of) = true)
    (a_faces_agree : PySem.W.nsIn K mainGlobals "faces_agree" = some (some (.ref f_faces_agree)))
    (l_faces_agree : K.lookup f_faces_agree = some ⟨oc_faces_agree, od_faces_agree, .func (PySem.W.fnOf "faces_agree" "faces_agree" (defArgs s_faces_agree) (defBody s_faces_agree) (defScope s_faces_agree) .none kV_faces_agree dc_faces_agree pm_faces_agree an_faces_agree cd_faces_agree ct_faces_agree), sl_faces_agree⟩)
    (c_faces_agree : PySem.W.codeIn K cd_faces_agree "faces_agree" = true)
    (k_faces_agree : PySem.W.keepIn K (.ref f_faces_agree) = true)
    (a_is_list_of_few : PySem.W.nsIn K mainGlobals "is_list_of_few" = some (some (.ref f_is_list_of_few)))
    (l_is_list_of_few : K.lookup f_is_list_of_few = some ⟨oc_is_list_of_few, od_is_list_of_few, .func (PySem.W.fnOf "is_list_of_few" "is_list_of_few" (defArgs s_is_list_of_few) (defBody s_is_list_of_few) (defScope s_is_list_of_few) .none kV_is_list_of_few dc_is_list_of_few pm_is_list_of_few an_is_list_of_few cd_is_list_of_few ct_is_list_of_few), sl_is_list_of_few⟩)
    (c_is_list_of_few : PySem.W.codeIn K cd_is_list_of_few "is_list_of_few" = true)
    (k_is_list_of_few : PySem.W.keepIn K (.ref f_is_list_of_few) = true)
    (a_L_whole : PySem.W.nsIn K mainGlobals "_law_whole" = some (some (.ref f_L_whole)))
    (l_L_whole : K.lookup f_L_whole = some ⟨oc_L_whole, od_L_whole, .func (PySem.W.fnOf "_law_whole" "_law_whole" (defArgs s_L_whole) (defBody s_L_whole) (defScope s_L_whole) .none kV_L_whole dc_L_whole pm_L_whole an_L_whole cd_L_whole ct_L_whole), sl_L_whole⟩)
    (c_L_whole : PySem.W.codeIn K cd_L_whole "_law_whole" = true)
    (k_L_whole : PySem.W.keepIn K (.ref f_L_whole) = true)
    (a_L_cell_at : PySem.W.nsIn K mainGlobals "_law_cell_at" = some (some (.ref f_L_cell_at)))
    (l_L_cell_at : K.lookup f_L_cell_at = some ⟨oc_L_cell_at, od_L_cell_at, .func (PySem.W.fnOf "_law_cell_at" "_law_cell_at" (defArgs s_L_cell_at) (defBody s_L_cell_at) (defScope s_L_cell_at) .none kV_L_cell_at dc_L_cell_at pm_L_cell_at an_L_cell_at cd_L_cell_at ct_L_cell_at), sl_L_cell_at⟩)
    (c_L_cell_at : PySem.W.codeIn K cd_L_cell_at "_law_cell_at" = true)
    (k_L_cell_at : PySem.W.keepIn K (.ref f_L_cell_at) = true)
    (a_L_faces_by : PySem.W.nsIn K mainGlobals "_law_faces_by" = some (some (.ref f_L_faces_by)))
    (l_L_faces_by : K.lookup f_L_faces_by = some ⟨oc_L_faces_by, od_L_faces_by, .func (PySem.W.fnOf "_law_faces_by" "_law_faces_by" (defArgs s_L_faces_by) (defBody s_L_faces_by) (defScope s_L_faces_by) .none kV_L_faces_by dc_L_faces_by pm_L_faces_by an_L_faces_by cd_L_faces_by ct_L_faces_by), sl_L_faces_by⟩)
    (c_L_faces_by : PySem.W.codeIn K cd_L_faces_by "_law_faces_by" = true)
    (k_L_faces_by : PySem.W.keepIn K (.ref f_L_faces_by) = true)
    (a_L_word_by : PySem.W.nsIn K mainGlobals "_law_word_by" = some (some (.ref f_L_word_by)))
    (l_L_word_by : K.lookup f_L_word_by = some ⟨oc_L_word_by, od_L_word_by, .func (PySem.W.fnOf "_law_word_by" "_law_word_by" (defArgs s_L_word_by) (defBody s_L_word_by) (defScope s_L_word_by) .none kV_L_word_by dc_L_word_by pm_L_word_by an_L_word_by cd_L_word_by ct_L_word_by), sl_L_word_by⟩)
    (c_L_word_by : PySem.W.codeIn K cd_L_word_by "_law_word_by" = true)
    (k_L_word_by : PySem.W.keepIn K (.ref f_L_word_by) = true)
    (a_is_whole_below : PySem.W.nsIn K mainGlobals "is_whole_below" = some (some (.ref f_is_whole_below)))
    (l_is_whole_below : K.lookup f_is_whole_below = some ⟨oc_is_whole_below, od_is_whole_below, .func (PySem.W.fnOf "is_whole_below" "is_whole_below" (defArgs s_is_whole_below) (defBody s_is_whole_below) (defScope s_is_whole_below) .none kV_is_whole_below dc_is_whole_below pm_is_whole_below an_is_whole_below cd_is_whole_below ct_is_whole_below), sl_is_whole_below⟩)
    (c_is_whole_below : PySem.W.codeIn K cd_is_whole_below "is_whole_below" = true)
    (k_is_whole_below : PySem.W.keepIn K (.ref f_is_whole_below) = true)
    (a_L_fits_by : PySem.W.nsIn K mainGlobals "_law_fits_by" = some (some (.ref f_L_fits_by)))
    (l_L_fits_by : K.lookup f_L_fits_by = some ⟨oc_L_fits_by, od_L_fits_by, .func (PySem.W.fnOf "_law_fits_by" "_law_fits_by" (defArgs s_L_fits_by) (defBody s_L_fits_by) (defScope s_L_fits_by) .none kV_L_fits_by dc_L_fits_by pm_L_fits_by an_L_fits_by cd_L_fits_by ct_L_fits_by), sl_L_fits_by⟩)
    (c_L_fits_by : PySem.W.codeIn K cd_L_fits_by "_law_fits_by" = true)
    (k_L_fits_by : PySem.W.keepIn K (.ref f_L_fits_by) = true)
    (a_L_words_with : PySem.W.nsIn K mainGlobals "_law_words_with" = some (some (.ref f_L_words_with)))
    (l_L_words_with : K.lookup f_L_words_with = some ⟨oc_L_words_with, od_L_words_with, .func (PySem.W.fnOf "_law_words_with" "_law_words_with" (defArgs s_L_words_with) (defBody s_L_words_with) (defScope s_L_words_with) .none kV_L_words_with dc_L_words_with pm_L_words_with an_L_words_with cd_L_words_with ct_L_words_with), sl_L_words_with⟩)
    (c_L_words_with : PySem.W.codeIn K cd_L_words_with "_law_words_with" = true)
    (k_L_words_with : PySem.W.keepIn K (.ref f_L_words_with) = true)
    (a_L_spoilt_by : PySem.W.nsIn K mainGlobals "_law_spoilt_by" = some (some (.ref f_L_spoilt_by)))
    (l_L_spoilt_by : K.lookup f_L_spoilt_by = some ⟨oc_L_spoilt_by, od_L_spoilt_by, .func (PySem.W.fnOf "_law_spoilt_by" "_law_spoilt_by" (defArgs s_L_spoilt_by) (defBody s_L_spoilt_by) (defScope s_L_spoilt_by) .none kV_L_spoilt_by dc_L_spoilt_by pm_L_spoilt_by an_L_spoilt_by cd_L_spoilt_by ct_L_spoilt_by), sl_L_spoilt_by⟩)
    (c_L_spoilt_by : PySem.W.codeIn K cd_L_spoilt_by "_law_spoilt_by" = true)
    (k_L_spoilt_by : PySem.W.keepIn K (.ref f_L_spoilt_by) = true)
    (a_L_thing_by : PySem.W.nsIn K mainGlobals "_law_thing_by" = some (some (.ref f_L_thing_by)))
    (l_L_thing_by : K.lookup f_L_thing_by = some ⟨oc_L_thing_by, od_L_thing_by, .func (PySem.W.fnOf "_law_thing_by" "_law_thing_by" (defArgs s_L_thing_by) (defBody s_L_thing_by) (defScope s_L_thing_by) .none kV_L_thing_by dc_L_thing_by pm_L_thing_by an_L_thing_by cd_L_thing_by ct_L_thing_by), sl_L_thing_by⟩)
    (c_L_thing_by : PySem.W.codeIn K cd_L_thing_by "_law_thing_by" = true)
    (k_L_thing_by : PySem.W.keepIn K (.ref f_L_thing_by) = true)
    (a_is_place_of_level : PySem.W.nsIn K mainGlobals "is_place_of_level" = some (some (.ref f_is_place_of_level)))
    (l_is_place_of_level : K.lookup f_is_place_of_level = some ⟨oc_is_place_of_level, od_is_place_of_level, .func (PySem.W.fnOf "is_place_of_level" "is_place_of_level" (defArgs s_is_place_of_level) (defBody s_is_place_of_level) (defScope s_is_place_of_level) .none kV_is_place_of_level dc_is_place_of_level pm_is_place_of_level an_is_place_of_level cd_is_place_of_level ct_is_place_of_level), sl_is_place_of_level⟩)
    (c_is_place_of_level : PySem.W.codeIn K cd_is_place_of_level "is_place_of_level" = true)
    (k_is_place_of_level : PySem.W.keepIn K (.ref f_is_place_of_level) = true)
    (a_L_shape_by : PySem.W.nsIn K mainGlobals "_law_shape_by" = some (some (.ref f_L_shape_by)))
    (l_L_shape_by : K.lookup f_L_shape_by = some ⟨oc_L_shape_by, od_L_shape_by, .func (PySem.W.fnOf "_law_shape_by" "_law_shape_by" (defArgs s_L_shape_by) (defBody s_L_shape_by) (defScope s_L_shape_by) .none kV_L_shape_by dc_L_shape_by pm_L_shape_by an_L_shape_by cd_L_shape_by ct_L_shape_by), sl_L_shape_by⟩)
    (c_L_shape_by : PySem.W.codeIn K cd_L_shape_by "_law_shape_by" = true)
    (k_L_shape_by : PySem.W.keepIn K (.ref f_L_shape_by) = true)
    (a_L_due_of : PySem.W.nsIn K mainGlobals "_law_due_of" = some (some (.ref f_L_due_of)))
    (l_L_due_of : K.lookup f_L_due_of = some ⟨oc_L_due_of, od_L_due_of, .func (PySem.W.fnOf "_law_due_of" "_law_due_of" (defArgs s_L_due_of) (defBody s_L_due_of) (defScope s_L_due_of) .none kV_L_due_of dc_L_due_of pm_L_due_of an_L_due_of cd_L_due_of ct_L_due_of), sl_L_due_of⟩)
    (c_L_due_of : PySem.W.codeIn K cd_L_due_of "_law_due_of" = true)
    (k_L_due_of : PySem.W.keepIn K (.ref f_L_due_of) = true)
    (a_fits : PySem.W.nsIn K mainGlobals "fits" = some (some (.ref f_fits)))
    (l_fits : K.lookup f_fits = some ⟨oc_fits, od_fits, .func (PySem.W.fnOf "fits" "fits" (defArgs s_fits) (defBody s_fits) (defScope s_fits) .none kV_fits dc_fits pm_fits an_fits cd_fits ct_fits), sl_fits⟩)
    (c_fits : PySem.W.codeIn K cd_fits "fits" = true)
    (k_fits : PySem.W.keepIn K (.ref f_fits) = true)
    (a_first_misfit : PySem.W.nsIn K mainGlobals "first_misfit" = some (some (.ref f_first_misfit)))
    (l_first_misfit : K.lookup f_first_misfit = some ⟨oc_first_misfit, od_first_misfit, .func (PySem.W.fnOf "first_misfit" "first_misfit" (defArgs s_first_misfit) (defBody s_first_misfit) (defScope s_first_misfit) .none kV_first_misfit dc_first_misfit pm_first_misfit an_first_misfit cd_first_misfit ct_first_misfit), sl_first_misfit⟩)
    (c_first_misfit : PySem.W.codeIn K cd_first_misfit "first_misfit" = true)
    (k_first_misfit : PySem.W.keepIn K (.ref f_first_misfit) = true)
    (a_is_shape : PySem.W.nsIn K mainGlobals "is_shape" = some (some (.ref f_is_shape)))
    (l_is_shape : K.lookup f_is_shape = some ⟨oc_is_shape, od_is_shape, .func (PySem.W.fnOf "is_shape" "is_shape" (defArgs s_is_shape) (defBody s_is_shape) (defScope s_is_shape) .none kV_is_shape dc_is_shape pm_is_shape an_is_shape cd_is_shape ct_is_shape), sl_is_shape⟩)
    (c_is_shape : PySem.W.codeIn K cd_is_shape "is_shape" = true)
    (k_is_shape : PySem.W.keepIn K (.ref f_is_shape) = true)
    (a_shape_of : PySem.W.nsIn K mainGlobals "shape_of" = some (some (.ref f_shape_of)))
    (l_shape_of : K.lookup f_shape_of = some ⟨oc_shape_of, od_shape_of, .func (PySem.W.fnOf "shape_of" "shape_of" (defArgs s_shape_of) (defBody s_shape_of) (defScope s_shape_of) .none kV_shape_of dc_shape_of pm_shape_of an_shape_of cd_shape_of ct_shape_of), sl_shape_of⟩)
    (c_shape_of : PySem.W.codeIn K cd_shape_of "shape_of" = true)
    (k_shape_of : PySem.W.keepIn K (.ref f_shape_of) = true)
    (a_L_told_by : PySem.W.nsIn K mainGlobals "_law_told_by" = some (some (.ref f_L_told_by)))
    (l_L_told_by : K.lookup f_L_told_by = some ⟨oc_L_told_by, od_L_told_by, .func (PySem.W.fnOf "_law_told_by" "_law_told_by" (defArgs s_L_told_by) (defBody s_L_told_by) (defScope s_L_told_by) .none kV_L_told_by dc_L_told_by pm_L_told_by an_L_told_by cd_L_told_by ct_L_told_by), sl_L_told_by⟩)
    (c_L_told_by : PySem.W.codeIn K cd_L_told_by "_law_told_by" = true)
    (k_L_told_by : PySem.W.keepIn K (.ref f_L_told_by) = true)
    (a_law : PySem.W.nsIn K mainGlobals "law" = some (some (.ref f_law)))
    (l_law : K.lookup f_law = some ⟨oc_law, od_law, .func (PySem.W.fnOf "law" "law" (defArgs s_law) (defBody s_law) (defScope s_law) .none kV_law dc_law pm_law an_law cd_law ct_law), sl_law⟩)
    (c_law : PySem.W.codeIn K cd_law "law" = true)
    (k_law : PySem.W.keepIn K (.ref f_law) = true)
    (kc_NoPiece : PySem.W.keepIn K (.ref C_NoPiece) = true)
    (eo_NoPiece : K.lookup C_NoPiece = some (excClassObj nm_NoPiece q_NoPiece C_NoPiece N_NoPiece bs_NoPiece (.ref C_HoleError :: bmV) true sn_NoPiece sub_NoPiece ab_NoPiece col_NoPiece dd_NoPiece k0_NoPiece k1_NoPiece k2_NoPiece k3_NoPiece k5_NoPiece "ValueError.__new__"))
    (en_NoPiece : PySem.W.nsOkIn K N_NoPiece = true)
    (ei_NoPiece : PySem.W.nsIn K N_NoPiece "__init__" = some (some (.ref f_NoPiece__init_)))
    (et_NoPiece : PySem.W.tailIn K bmV (.ref C_HoleError :: bmV) = true)
    (es_NoPiece : PySem.W.findIn K (.ref C_NoPiece) "__setattr__" = some (some (.builtin "object.__setattr__")))
    (ae_NoShape : PySem.W.excIn K C_NoShape bmV "ValueError.__new__" = true)
    (ak_NoShape : PySem.W.ktsIn K C_NoShape "BaseException" = true)
    (a1_NoShape : PySem.W.findIn K (.ref C_NoShape) "__getattribute__" = some (some (.builtin "BaseException.__getattribute__")))
    (a2_NoShape : PySem.W.findIn K (.ref C_NoShape) "__getattr__" = some none)
    (a3_NoShape : PySem.W.findIn K (.ref C_NoShape) "__class__" = some (some (.builtin "object.__class__")))
    (a4_NoShape : PySem.W.subIn K (.ref C_NoShape) (.type "object") = some true)
    (a5_NoShape : PySem.W.subIn K (.ref C_NoShape) (.type "BaseException") = some true)
    (ak_NoPiece : PySem.W.ktsIn K C_NoPiece "BaseException" = true)
    (a1_NoPiece : PySem.W.findIn K (.ref C_NoPiece) "__getattribute__" = some (some (.builtin "BaseException.__getattribute__")))
    (a2_NoPiece : PySem.W.findIn K (.ref C_NoPiece) "__getattr__" = some none)
    (a3_NoPiece : PySem.W.findIn K (.ref C_NoPiece) "__class__" = some (some (.builtin "object.__class__")))
    (a4_NoPiece : PySem.W.subIn K (.ref C_NoPiece) (.type "object") = some true)
    (a5_NoPiece : PySem.W.subIn K (.ref C_NoPiece) (.type "BaseException") = some true)
    (av_NoPiece : PySem.W.kitOne K (.ref C_NoPiece) (.type "ValueError") = some true)
    (ai_NoShape_HoleError : PySem.W.kitOne K (.ref C_NoShape) (.ref C_HoleError) = some true)
    (as_NoShape_NoShape : PySem.W.subIn K (.ref C_NoShape) (.ref C_NoShape) = some true)
    (ai_NoShape_NoPiece : PySem.W.kitOne K (.ref C_NoShape) (.ref C_NoPiece) = some false)
    (ai_NoPiece_HoleError : PySem.W.kitOne K (.ref C_NoPiece) (.ref C_HoleError) = some true)
    (as_NoPiece_NoShape : PySem.W.subIn K (.ref C_NoPiece) (.ref C_NoShape) = some false)
    (as_NoPiece_NoPiece : PySem.W.subIn K (.ref C_NoPiece) (.ref C_NoPiece) = some true)
    (b1_HoleError : PySem.W.readsIn K C_HoleError (.type "type") = true)
    (b2_HoleError : PySem.W.findCls K (.ref C_HoleError) (.type "type") "__init__" = some (.val (.builtin "ValueError.__init__")))
    (b3_HoleError : PySem.W.specialIn K (.ref C_HoleError) "__getattribute__" = some (some (.builtin "type.__getattribute__")))
    (na_NoPiece_place : PySem.W.findIn K (.ref C_NoPiece) "place" = some none)
    (ac_FACE_COUNTS : PySem.W.nsIn K mainGlobals "FACE_COUNTS" = some (some (.ref fc_FACE_COUNTS)))
    (lc_FACE_COUNTS : K.lookup fc_FACE_COUNTS = some ⟨.type "tuple", none, .seq #[.int 0 tc_FACE_COUNTS_0, .int 2 tc_FACE_COUNTS_1, .int 3 tc_FACE_COUNTS_2, .int 4 tc_FACE_COUNTS_3] nc_FACE_COUNTS, slc_FACE_COUNTS⟩)
    (aq_MOST_PIECES : PySem.W.nsIn K mainGlobals "MOST_PIECES" = some (some (.int 40 t_MOST_PIECES)))
    (z_isinstance : PySem.W.nsIn K mainGlobals "isinstance" = some none)
    (z_int : PySem.W.nsIn K mainGlobals "int" = some none)
    (z_bool : PySem.W.nsIn K mainGlobals "bool" = some none)
    (z_max : PySem.W.nsIn K mainGlobals "max" = some none)
    (z_len : PySem.W.nsIn K mainGlobals "len" = some none)
    (z_all : PySem.W.nsIn K mainGlobals "all" = some none)
    (z_tuple : PySem.W.nsIn K mainGlobals "tuple" = some none)
    (z_range : PySem.W.nsIn K mainGlobals "range" = some none)
    (z_list : PySem.W.nsIn K mainGlobals "list" = some none)
    (z_enumerate : PySem.W.nsIn K mainGlobals "enumerate" = some none)
    (z_ValueError : PySem.W.nsIn K mainGlobals "ValueError" = some none) :
    ∃ fd : FuncData, (∀ (s : Shared) (v : Value), BindsTo s fd ⟨[v], []⟩ [("_law_script", v)]) ∧ ∀ base : Heap, K.In base → base.Ns mainGlobals mg → FnOk l.prog w K mg base CX0 8 fa fd ["_law_script"] (sp_law K) := by
  have e := hfa.symm.trans (PySem.W.mg_of X G a_law)
  cases e
  have T : Txt K mg C_HoleError C_NoShape C_NoPiece := ⟨PySem.W.mg_of X G ac_HoleError, PySem.W.mg_of X G ac_NoShape, ae_NoShape, ⟨ak_NoShape, a1_NoShape, a2_NoShape, a3_NoShape, a4_NoShape, a5_NoShape⟩, ak_NoShape, PySem.W.mg_of X G ac_NoPiece, ⟨ak_NoPiece, a1_NoPiece, a2_NoPiece, a3_NoPiece, a4_NoPiece, a5_NoPiece⟩, ak_NoPiece, av_NoPiece, ai_NoShape_HoleError, as_NoShape_NoShape, ai_NoShape_NoPiece, ai_NoPiece_HoleError, as_NoPiece_NoShape, as_NoPiece_NoPiece, ⟨b1_HoleError, b2_HoleError, b3_HoleError⟩, ⟨f_NoPiece__init_, ⟨⟨N_NoPiece, nm_NoPiece, q_NoPiece, bs_NoPiece, sn_NoPiece, sub_NoPiece, ab_NoPiece, col_NoPiece, dd_NoPiece, k0_NoPiece, k1_NoPiece, k2_NoPiece, k3_NoPiece, k5_NoPiece, eo_NoPiece, en_NoPiece, ei_NoPiece⟩, et_NoPiece, if_NoPiece__init_, es_NoPiece⟩⟩, ErrC.attr (D := C_HoleError) (f := f_NoPiece__init_) ⟨⟨N_NoPiece, nm_NoPiece, q_NoPiece, bs_NoPiece, sn_NoPiece, sub_NoPiece, ab_NoPiece, col_NoPiece, dd_NoPiece, k0_NoPiece, k1_NoPiece, k2_NoPiece, k3_NoPiece, k5_NoPiece, eo_NoPiece, en_NoPiece, ei_NoPiece⟩, et_NoPiece, if_NoPiece__init_, es_NoPiece⟩ na_NoPiece_place, ⟨fc_FACE_COUNTS, PySem.W.mg_of X G ac_FACE_COUNTS, fun H => .inr ⟨_, _, _, lc_FACE_COUNTS, rfl, rfl, rfl, (by show (4 : Nat) ≤ sizeLine; decide), .cons ⟨_, rfl⟩ (.cons ⟨_, rfl⟩ (.cons ⟨_, rfl⟩ (.cons ⟨_, rfl⟩ (.nil))))⟩⟩, ⟨_, PySem.W.mg_of X G aq_MOST_PIECES⟩, PySem.W.mg_none_of X G z_isinstance, PySem.W.mg_none_of X G z_int, PySem.W.mg_none_of X G z_bool, PySem.W.mg_none_of X G z_max, PySem.W.mg_none_of X G z_len, PySem.W.mg_none_of X G z_all, PySem.W.mg_none_of X G z_tuple, PySem.W.mg_none_of X G z_range, PySem.W.mg_none_of X G z_list, PySem.W.mg_none_of X G z_enumerate, PySem.W.mg_none_of X G z_ValueError⟩
  have F_NoPiece__init_ := fun_mk (st := s_NoPiece__init_) l_NoPiece__init_ c_NoPiece__init_ k_NoPiece__init_
  have F_is_whole := fun_mk (st := s_is_whole) l_is_whole c_is_whole k_is_whole
  have F_level_of := fun_mk (st := s_level_of) l_level_of c_level_of k_level_of
  have F_faces_agree := fun_mk (st := s_faces_agree) l_faces_agree c_faces_agree k_faces_agree
  have F_is_list_of_few := fun_mk (st := s_is_list_of_few) l_is_list_of_few c_is_list_of_few k_is_list_of_few
  have F_L_whole := fun_mk (st := s_L_whole) l_L_whole c_L_whole k_L_whole
  have F_L_cell_at := fun_mk (st := s_L_cell_at) l_L_cell_at c_L_cell_at k_L_cell_at
  have F_L_faces_by := fun_mk (st := s_L_faces_by) l_L_faces_by c_L_faces_by k_L_faces_by
  have F_L_word_by := fun_mk (st := s_L_word_by) l_L_word_by c_L_word_by k_L_word_by
  have F_is_whole_below := fun_mk (st := s_is_whole_below) l_is_whole_below c_is_whole_below k_is_whole_below
  have F_L_fits_by := fun_mk (st := s_L_fits_by) l_L_fits_by c_L_fits_by k_L_fits_by
  have F_L_words_with := fun_mk (st := s_L_words_with) l_L_words_with c_L_words_with k_L_words_with
  have F_L_spoilt_by := fun_mk (st := s_L_spoilt_by) l_L_spoilt_by c_L_spoilt_by k_L_spoilt_by
  have F_L_thing_by := fun_mk (st := s_L_thing_by) l_L_thing_by c_L_thing_by k_L_thing_by
  have F_is_place_of_level := fun_mk (st := s_is_place_of_level) l_is_place_of_level c_is_place_of_level k_is_place_of_level
  have F_L_shape_by := fun_mk (st := s_L_shape_by) l_L_shape_by c_L_shape_by k_L_shape_by
  have F_L_due_of := fun_mk (st := s_L_due_of) l_L_due_of c_L_due_of k_L_due_of
  have F_fits := fun_mk (st := s_fits) l_fits c_fits k_fits
  have F_first_misfit := fun_mk (st := s_first_misfit) l_first_misfit c_first_misfit k_first_misfit
  have F_is_shape := fun_mk (st := s_is_shape) l_is_shape c_is_shape k_is_shape
  have F_shape_of := fun_mk (st := s_shape_of) l_shape_of c_shape_of k_shape_of
  have F_L_told_by := fun_mk (st := s_L_told_by) l_L_told_by c_L_told_by k_L_told_by
  have F_law := fun_mk (st := s_law) l_law c_law k_law
  refine ⟨PySem.W.fnOf "law" "law" (defArgs s_law) (defBody s_law) (defScope s_law) .none kV_law dc_law pm_law an_law cd_law ct_law, fun s v => .of_eq rfl, fun base _ _ => ?_⟩
  have he_NoPiece : HasE l.prog w K mg base C_NoPiece C_HoleError ["self", "place"] 1 (sp_NoPiece_init K  C_NoPiece) := ⟨_, _, ⟨⟨N_NoPiece, nm_NoPiece, q_NoPiece, bs_NoPiece, sn_NoPiece, sub_NoPiece, ab_NoPiece, col_NoPiece, dd_NoPiece, k0_NoPiece, k1_NoPiece, k2_NoPiece, k3_NoPiece, k5_NoPiece, eo_NoPiece, en_NoPiece, ei_NoPiece⟩, et_NoPiece, if_NoPiece__init_, es_NoPiece⟩, kc_NoPiece, F_NoPiece__init_.binds (ps := ["self", "place"]) (fun _ _ _ _ _ _ => elim2 (fun _ _ => rfl)), ok_NoPiece__init_ F_NoPiece__init_ T ⟩
  have h_is_whole : Has l.prog w K mg base "is_whole" ["thing"] 1 (sp_is_whole K) := ⟨_, _, PySem.W.mg_of X G a_is_whole, k_is_whole, F_is_whole.binds (ps := ["thing"]) (fun _ _ _ _ _ _ => elim1 (fun _ => rfl)), ok_is_whole F_is_whole T ⟩
  have h_level_of : Has l.prog w K mg base "level_of" ["piece"] 1 (sp_level_of K) := ⟨_, _, PySem.W.mg_of X G a_level_of, k_level_of, F_level_of.binds (ps := ["piece"]) (fun _ _ _ _ _ _ => elim1 (fun _ => rfl)), ok_level_of F_level_of T ⟩
  have h_faces_agree : Has l.prog w K mg base "faces_agree" ["shape", "faces"] 1 (sp_faces_agree K) := ⟨_, _, PySem.W.mg_of X G a_faces_agree, k_faces_agree, F_faces_agree.binds (ps := ["shape", "faces"]) (fun _ _ _ _ _ _ => elim2 (fun _ _ => rfl)), ok_faces_agree F_faces_agree T ⟩
  have h_is_list_of_few : Has l.prog w K mg base "is_list_of_few" ["thing"] 1 (sp_mFew K) := ⟨_, _, PySem.W.mg_of X G a_is_list_of_few, k_is_list_of_few, F_is_list_of_few.binds (ps := ["thing"]) (fun _ _ _ _ _ _ => elim1 (fun _ => rfl)), ok_is_list_of_few F_is_list_of_few T ⟩
  have h_L_whole : Has l.prog w K mg base "_law_whole" ["_law_found"] 1 (sp_L_whole K) := ⟨_, _, PySem.W.mg_of X G a_L_whole, k_L_whole, F_L_whole.binds (ps := ["_law_found"]) (fun _ _ _ _ _ _ => elim1 (fun _ => rfl)), ok_L_whole F_L_whole T ⟩
  have h_L_cell_at : Has l.prog w K mg base "_law_cell_at" ["_law_script", "_law_k"] 1 (sp_L_cell_at K) := ⟨_, _, PySem.W.mg_of X G a_L_cell_at, k_L_cell_at, F_L_cell_at.binds (ps := ["_law_script", "_law_k"]) (fun _ _ _ _ _ _ => elim2 (fun _ _ => rfl)), ok_L_cell_at F_L_cell_at T ⟩
  have h_L_faces_by : Has l.prog w K mg base "_law_faces_by" ["_law_word", "_law_family"] 1 (sp_L_faces_by K) := ⟨_, _, PySem.W.mg_of X G a_L_faces_by, k_L_faces_by, F_L_faces_by.binds (ps := ["_law_word", "_law_family"]) (fun _ _ _ _ _ _ => elim2 (fun _ _ => rfl)), ok_L_faces_by F_L_faces_by T ⟩
  have h_L_word_by : Has l.prog w K mg base "_law_word_by" ["_law_cell", "_law_family", "_law_letters"] 1 (sp_L_word_by K) := ⟨_, _, PySem.W.mg_of X G a_L_word_by, k_L_word_by, F_L_word_by.binds (ps := ["_law_cell", "_law_family", "_law_letters"]) (fun _ _ _ _ _ _ => elim3 (fun _ _ _ => rfl)), ok_L_word_by F_L_word_by T ⟩
  have h_is_whole_below : Has l.prog w K mg base "is_whole_below" ["thing", "bound"] 2 (sp_is_whole_below K) := ⟨_, _, PySem.W.mg_of X G a_is_whole_below, k_is_whole_below, F_is_whole_below.binds (ps := ["thing", "bound"]) (fun _ _ _ _ _ _ => elim2 (fun _ _ => rfl)), ok_is_whole_below F_is_whole_below T h_is_whole⟩
  have h_L_fits_by : Has l.prog w K mg base "_law_fits_by" ["_law_shape", "_law_thing"] 2 (sp_L_fits_by K) := ⟨_, _, PySem.W.mg_of X G a_L_fits_by, k_L_fits_by, F_L_fits_by.binds (ps := ["_law_shape", "_law_thing"]) (fun _ _ _ _ _ _ => elim2 (fun _ _ => rfl)), ok_L_fits_by F_L_fits_by T h_L_whole⟩
  have h_L_words_with : Has l.prog w K mg base "_law_words_with" ["_law_words", "_law_word", "_law_family"] 2 (sp_L_words_with K) := ⟨_, _, PySem.W.mg_of X G a_L_words_with, k_L_words_with, F_L_words_with.binds (ps := ["_law_words", "_law_word", "_law_family"]) (fun _ _ _ _ _ _ => elim3 (fun _ _ _ => rfl)), ok_L_words_with F_L_words_with T h_L_faces_by⟩
  have h_L_spoilt_by : Has l.prog w K mg base "_law_spoilt_by" ["_law_script", "_law_shape"] 2 (sp_mSpoilt K) := ⟨_, _, PySem.W.mg_of X G a_L_spoilt_by, k_L_spoilt_by, F_L_spoilt_by.binds (ps := ["_law_script", "_law_shape"]) (fun _ _ _ _ _ _ => elim2 (fun _ _ => rfl)), ok_L_spoilt_by F_L_spoilt_by T h_L_cell_at⟩
  have h_L_thing_by : Has l.prog w K mg base "_law_thing_by" ["_law_script", "_law_rows"] 2 (sp_mThing K) := ⟨_, _, PySem.W.mg_of X G a_L_thing_by, k_L_thing_by, F_L_thing_by.binds (ps := ["_law_script", "_law_rows"]) (fun _ _ _ _ _ _ => elim2 (fun _ _ => rfl)), ok_L_thing_by F_L_thing_by T h_L_cell_at⟩
  have h_is_place_of_level : Has l.prog w K mg base "is_place_of_level" ["shape", "thing", "level"] 3 (sp_is_place_of_level K) := ⟨_, _, PySem.W.mg_of X G a_is_place_of_level, k_is_place_of_level, F_is_place_of_level.binds (ps := ["shape", "thing", "level"]) (fun _ _ _ _ _ _ => elim3 (fun _ _ _ => rfl)), ok_is_place_of_level F_is_place_of_level T h_is_whole_below h_level_of⟩
  have h_L_shape_by : Has l.prog w K mg base "_law_shape_by" ["_law_kind", "_law_cells", "_law_most"] 3 (sp_L_shape_by K) := ⟨_, _, PySem.W.mg_of X G a_L_shape_by, k_L_shape_by, F_L_shape_by.binds (ps := ["_law_kind", "_law_cells", "_law_most"]) (fun _ _ _ _ _ _ => elim3 (fun _ _ _ => rfl)), ok_L_shape_by F_L_shape_by T h_L_words_with h_L_word_by h_L_faces_by⟩
  have h_L_due_of : Has l.prog w K mg base "_law_due_of" ["_law_thing"] 3 (sp_mDue K) := ⟨_, _, PySem.W.mg_of X G a_L_due_of, k_L_due_of, F_L_due_of.binds (ps := ["_law_thing"]) (fun _ _ _ _ _ _ => elim1 (fun _ => rfl)), ok_L_due_of F_L_due_of T h_L_fits_by⟩
  have h_fits : Has l.prog w K mg base "fits" ["shape", "thing"] 4 (sp_fits K) := ⟨_, _, PySem.W.mg_of X G a_fits, k_fits, F_fits.binds (ps := ["shape", "thing"]) (fun _ _ _ _ _ _ => elim2 (fun _ _ => rfl)), ok_fits F_fits T h_level_of h_faces_agree h_is_place_of_level⟩
  have h_first_misfit : Has l.prog w K mg base "first_misfit" ["pieces"] 5 (sp_mMisfit K) := ⟨_, _, PySem.W.mg_of X G a_first_misfit, k_first_misfit, F_first_misfit.binds (ps := ["pieces"]) (fun _ _ _ _ _ _ => elim1 (fun _ => rfl)), ok_first_misfit F_first_misfit T h_fits⟩
  have h_is_shape : Has l.prog w K mg base "is_shape" ["thing"] 6 (sp_mIs K) := ⟨_, _, PySem.W.mg_of X G a_is_shape, k_is_shape, F_is_shape.binds (ps := ["thing"]) (fun _ _ _ _ _ _ => elim1 (fun _ => rfl)), ok_is_shape F_is_shape T h_is_list_of_few h_first_misfit⟩
  have hx_shape_of : HasX l.prog w K mg base "shape_of" ["thing"] 6 (sp_mShapeOf K C_NoShape C_NoPiece) := ⟨_, _, PySem.W.mg_of X G a_shape_of, k_shape_of, F_shape_of.binds (ps := ["thing"]) (fun _ _ _ _ _ _ => elim1 (fun _ => rfl)), ok_shape_of F_shape_of T h_first_misfit h_is_list_of_few he_NoPiece⟩
  have h_L_told_by : Has l.prog w K mg base "_law_told_by" ["_law_thing"] 7 (sp_mTold K) := ⟨_, _, PySem.W.mg_of X G a_L_told_by, k_L_told_by, F_L_told_by.binds (ps := ["_law_thing"]) (fun _ _ _ _ _ _ => elim1 (fun _ => rfl)), ok_L_told_by F_L_told_by T hx_shape_of h_L_whole⟩
  exact ok_law F_law T h_L_shape_by h_L_thing_by h_L_due_of h_is_shape h_L_cell_at h_L_spoilt_by h_L_told_by
theorem walk {l : PySem.W.OpenLaw} {q : Program} {loose : List Str} {XP : (Str → Option Value) → Heap → Prop} {YP : World → Heap → Prop} {d : DefRec} {K : Params → PySem.W.Frag} (hn : l.most = some 63) (hdf : d.params.defaults = [])
    (hY : ∀ (w : World) (h : Heap), YP w h → (K w.params).In h)
    (F : ∀ (w : World) (mg : Str → Option Value) (fa : Addr) (h : Heap), (K w.params).In h → h.Ns mainGlobals mg → mg d.name = some (.ref fa) →
      ∃ fd : FuncData, (∀ (s : Shared) (u : Value), BindsTo s fd ⟨[u], []⟩ [("_law_script", u)]) ∧ ∀ base : Heap, (K w.params).In base → base.Ns mainGlobals mg → FnOk l.prog w (K w.params) mg base CX0 8 fa fd ["_law_script"] (sp_law (K w.params))) :
    PySem.W.WalkO q loose XP YP l.row.toRowW d [] (fun f vs => PySem.call f vs) :=
  L2.walk_of (n := 63) (k := 8) (x := "_law_script") (CX := fun _ => CX0) (sp := fun w => sp_law (K w.params)) hn (by decide) hdf ⟨rfl, by decide, by decide, rfl⟩ hY F (fun _ _ a ns hl _ hS => ⟨a, ns, rfl, hS, hl, fun _ => rfl⟩) fun _ _ _ _ _ z => z
end Hb
def PySem.W.Fast.tw8277090312785448470 : Nat := 0
def PySem.W.Fast.tw3830244526186663332 : Nat := 0
def PySem.W.Fast.tw3965677229417250499 : Nat := 0
def PySem.W.Fast.tw8260175679545807842 : Nat := 0
def PySem.W.Fast.tw6433944303468847169 : Nat := 0
def PySem.W.Fast.tw446996733432251539 : Nat := 0
def PySem.W.Fast.tw3352158066915498007 : Nat := 0
def PySem.W.Fast.tw10207946527680337413 : Nat := 0
def PySem.W.Fast.tw611050513231644407 : Nat := 0
def PySem.W.Fast.tw15229455534176799609 : Nat := 0
def PySem.W.Fast.tw2094439092624435294 : Nat := 0
def PySem.W.Fast.tw1282136405429933244 : Nat := 0
def PySem.W.Fast.tw7520439224525157131 : Nat := 0
def PySem.W.Fast.tw2334779702775062447 : Nat := 0
def PySem.W.Fast.tw2662788767609514351 : Nat := 0
def PySem.W.Fast.tw15171448072767643949 : Nat := 0
def PySem.W.Fast.tw15308229906717876937 : Nat := 0
def PySem.W.Fast.tw7125577715648811143 : Nat := 0
def PySem.W.Fast.tw6900366497599143380 : Nat := 0
def PySem.W.Fast.tw8369986357675092845 : Nat := 0
def PySem.W.Fast.tw15451040852638867831 : Nat := 0
def PySem.W.Fast.tw2711471864195810758 : Nat := 0
def PySem.W.Fast.tw4717062186706860774 : Nat := 0
def PySem.W.Fast.tw564953117635439727 : Nat := 0
def PySem.W.Fast.tw14195273282679884047 : Nat := 0
def PySem.W.Fast.tw5196337803977086189 : Nat := 0
def PySem.W.Fast.tw2698994765935308426 : Nat := 0
def PySem.W.Fast.tw5378937911938889540 : Nat := 0
def PySem.W.Fast.tw5995290100067797430 : Nat := 0
def PySem.W.Fast.tw13227792225750119077 : Nat := 0
def PySem.W.Fast.tw16958195982999273906 : Nat := 0
def PySem.W.Fast.tw7597938500252213529 : Nat := 0
def PySem.W.Fast.tw17843006848865452511 : Nat := 0
def PySem.W.Fast.tw2405789381322566936 : Nat := 0
def PySem.W.Fast.tw12878467203040263458 : Nat := 0
def PySem.W.Fast.tw9297108307429352328 : Nat := 0
def PySem.W.Fast.tw13085430790758808116 : Nat := 0
def PySem.W.Fast.tw14669685788220280081 : Nat := 0
def PySem.W.Fast.tw15474049819505302432 : Nat := 0
def PySem.W.Fast.tw787193563402187843 : Nat := 0
def PySem.W.Fast.tw1454428261039748703 : Nat := 0
def PySem.W.Fast.tw7447862686013467087 : Nat := 0
def PySem.W.Fast.tw9032096057882438459 : Nat := 0
def PySem.W.Fast.tw17790142105061814018 : Nat := 0
def PySem.W.Fast.tw10927718429166632638 : Nat := 0
def PySem.W.Fast.tw6264724617242019432 : Nat := 0
def PySem.W.Fast.tw3357089908190198530 : Nat := 0
def PySem.W.Fast.tw12185277042827323828 : Nat := 0
def PySem.W.Fast.tw15560077671745478633 : Nat := 0
def PySem.W.Fast.tw11095607355547768211 : Nat := 0
def PySem.W.Fast.tw15911093232755435634 : Nat := 0
def PySem.W.Fast.tw13230639613733667214 : Nat := 0
def PySem.W.Fast.tw13882941722980796398 : Nat := 0
def PySem.W.Fast.tw14041125388526738332 : Nat := 0
def PySem.W.Fast.tw1057882691686993567 : Nat := 0
def PySem.W.Fast.tw2625421300481384180 : Nat := 0
def PySem.W.Fast.tw3485859569975739824 : Nat := 0
def PySem.W.Fast.tw10362748000614978183 : Nat := 0
def PySem.W.Fast.tw16268051336075444483 : Nat := 0
def PySem.W.Fast.tw13622396699400416574 : Nat := 0
def PySem.W.Fast.tw10373997679607682190 : Nat := 0
def PySem.W.Fast.tw10206821541950019094 : Nat := 0
def PySem.W.Fast.tw18025359914018559932 : Nat := 0
def PySem.W.Fast.tw14525552911653060278 : Nat := 0
def PySem.W.Fast.tw1741111646352065413 : Nat := 0
def PySem.W.Fast.tw12465263671443601259 : Nat := 0
def PySem.W.Fast.tw16800477940924941634 : Nat := 0
def PySem.W.Fast.tw2286320556424917547 : Nat := 0
def PySem.W.Fast.tw7189619573237941878 : Nat := 0
def PySem.W.Fast.tw1728052306370661400 : Nat := 0
def PySem.W.Fast.tw862728357516847668 : Nat := 0
def PySem.W.Fast.tw14148496637315973009 : Nat := 0
def PySem.W.Fast.tw8771527653669918092 : Nat := 0
def PySem.W.Fast.tw10496539959277976094 : Nat := 0
def PySem.W.Fast.tw15643748890346772822 : Nat := 0
def PySem.W.Fast.tw13102123111371528246 : Nat := 0
def PySem.W.Fast.tw10655015373945749411 : Nat := 0
def PySem.W.Fast.tw13926117047368759644 : Nat := 0
def PySem.W.Fast.tw18214569699429114537 : Nat := 0
def PySem.W.Fast.tw879221404682173243 : Nat := 0
def PySem.W.Fast.tw14477337531579432141 : Nat := 0
def PySem.W.Fast.tw15223178203202748525 : Nat := 0
def PySem.W.Fast.tw15784122382275787067 : Nat := 0
def PySem.W.Fast.tw14104044691063749695 : Nat := 0
def PySem.W.Fast.tw2828104954053512691 : Nat := 0
def PySem.W.Fast.tw10006943040677360483 : Nat := 0
def PySem.W.Fast.tw15017176717227322686 : Nat := 0
def PySem.W.Fast.tw11333781220930091569 : Nat := 0
def PySem.W.Fast.tw1470686214505861842 : Nat := 0
def PySem.W.Fast.tw2879981109902216230 : Nat := 0
def PySem.W.Fast.tw1536474418522619842 : Nat := 0
def PySem.W.Fast.tw6357992122891403789 : Nat := 0
def PySem.W.Fast.tw5999980067645016061 : Nat := 0
def PySem.W.Fast.tw10216803329982345549 : Nat := 0
def PySem.W.Fast.tw5821391231355482358 : Nat := 0
def PySem.W.Fast.tw15533248414904318003 : Nat := 0
def PySem.W.Fast.tw9615271063136062974 : Nat := 0
def PySem.W.Fast.tw844910160026455112 : Nat := 0
def PySem.W.Fast.tw15835956360943174106 : Nat := 0
def PySem.W.Fast.tw10460220923921294706 : Nat := 0
def PySem.W.Fast.tw9923459165670877184 : Nat := 0
def PySem.W.Fast.tw1456145735674690930 : Nat := 0
def PySem.W.Fast.tw6832427570328914809 : Nat := 0
def PySem.W.Fast.tw928802248163454325 : Nat := 0
def PySem.W.Fast.tw2636741527629709375 : Nat := 0
def PySem.W.Fast.tw7829723665672412061 : Nat := 0
def PySem.W.Fast.tw7566059080609066452 : Nat := 0
def PySem.W.Fast.tw7968360535280494840 : Nat := 0
def PySem.W.Fast.tw340077768854348969 : Nat := 0
def PySem.W.Fast.tw18351716886961437158 : Nat := 0
def PySem.W.Fast.tw18077192348463152301 : Nat := 0
def PySem.W.Fast.tw429357190907316443 : Nat := 0
def PySem.W.Fast.tw5688976332302473160 : Nat := 0
def PySem.W.Fast.tw14973514085918748808 : Nat := 0
def PySem.W.Fast.tw7663362761654873191 : Nat := 0
def PySem.W.Fast.tw9094602767437536970 : Nat := 0
def PySem.W.Fast.tw7580338506546686583 : Nat := 0
def PySem.W.Fast.tw10987685546582575601 : Nat := 0
def PySem.W.Fast.tw764825320433368840 : Nat := 0
def PySem.W.Fast.tw253061256312066531 : Nat := 0
def PySem.W.Fast.tw14118441585601840508 : Nat := 0
def PySem.W.Fast.tw9754969696538996506 : Nat := 0
def PySem.W.Fast.tw6079310509277312777 : Nat := 0
def PySem.W.Fast.tw4148175971728066598 : Nat := 0
def PySem.W.Fast.tw16289668433068148061 : Nat := 0
def PySem.W.Fast.tw7602148264615886840 : Nat := 0
def PySem.W.Fast.tw18230993334959128055 : Nat := 0
def PySem.W.Fast.tw4973806588487928736 : Nat := 0
def PySem.W.Fast.tw12463826377762465054 : Nat := 0
def PySem.W.Fast.tw12292299451026333766 : Nat := 0
def PySem.W.Fast.tw17224960737098926485 : Nat := 0
def PySem.W.Fast.tw824749462536331831 : Nat := 0
def PySem.W.Fast.tw17223115588007508139 : Nat := 0
def PySem.W.Fast.tw7917446893907113065 : Nat := 0
def PySem.W.Fast.tw16784649781351406683 : Nat := 0
def PySem.W.Fast.tw15486673479900277448 : Nat := 0
def PySem.W.Fast.tw7627143155541410606 : Nat := 0
def PySem.W.Fast.tw11166869100444659371 : Nat := 0
def PySem.W.Fast.tw14751187990407436514 : Nat := 0
def PySem.W.Fast.tw13896771013674946007 : Nat := 0
def PySem.W.Fast.tw6684343258663749808 : Nat := 0
def PySem.W.Fast.tw13127900556301817096 : Nat := 0
def PySem.W.Fast.tw8594055038334716173 : Nat := 0
def PySem.W.Fast.tw7932924709351715860 : Nat := 0
def PySem.W.Fast.tw6779912738421037300 : Nat := 0
def PySem.W.Fast.tw8778170219471797514 : Nat := 0
def PySem.W.Fast.tw1353061025265042224 : Nat := 0
def PySem.W.Fast.tw4529197627833544318 : Nat := 0
def PySem.W.Fast.tw7268107772762547192 : Nat := 0
def PySem.W.Fast.tw1395932859377517923 : Nat := 0
def PySem.W.Fast.tw16787705857431972677 : Nat := 0
def PySem.W.Fast.tw13128934087076444015 : Nat := 0
def PySem.W.Fast.tw14510053932958023902 : Nat := 0
def PySem.W.Fast.tw7013233401055492357 : Nat := 0
def PySem.W.Fast.tw4894356885878076667 : Nat := 0
def PySem.W.Fast.tw11525790608240487983 : Nat := 0
def PySem.W.Fast.tw12127652908197329226 : Nat := 0
def PySem.W.Fast.tw11135794738302650062 : Nat := 0
def PySem.W.Fast.tw17003813934651391360 : Nat := 0
def PySem.W.Fast.tw8806129985886188546 : Nat := 0
def PySem.W.Fast.tw5467921859264142096 : Nat := 0
def PySem.W.Fast.tw11254871297720443886 : Nat := 0
def PySem.W.Fast.tw17212805143235935972 : Nat := 0
def PySem.W.Fast.tw15024907831075558968 : Nat := 0
def PySem.W.Fast.tw8389319749014438557 : Nat := 0
def PySem.W.Fast.tw6052524804364290671 : Nat := 0
def PySem.W.Fast.tw18441258200679334892 : Nat := 0
def PySem.W.Fast.tw12766189433262201169 : Nat := 0
def PySem.W.Fast.tw18154473077000265096 : Nat := 0
def PySem.W.Fast.tw4319231841337190753 : Nat := 0
def PySem.W.Fast.tw14434177019136289116 : Nat := 0
def PySem.W.Fast.tw3694560374840851755 : Nat := 0
def PySem.W.Fast.tw12287645670625002217 : Nat := 0
def PySem.W.Fast.tw16411138454723001919 : Nat := 0
def PySem.W.Fast.tw17096391741676324036 : Nat := 0
def PySem.W.Fast.tw4324313581429758264 : Nat := 0
def PySem.W.Fast.tw958689831317321110 : Nat := 0
def PySem.W.Fast.tw3295164702118730687 : Nat := 0
def PySem.W.Fast.tw6889949475569679751 : Nat := 0
def PySem.W.Fast.tw9003648624168938143 : Nat := 0
def PySem.W.Fast.tw2934512334776808090 : Nat := 0
def PySem.W.Fast.tw3449577686658391778 : Nat := 0
def PySem.W.Fast.tw14022854029889453684 : Nat := 0
def PySem.W.Fast.tw16529267399346691471 : Nat := 0
def PySem.W.Fast.tw14757053319846827801 : Nat := 0
def PySem.W.Fast.tw7339582827170067945 : Nat := 0
def PySem.W.Fast.tw5677216524030250722 : Nat := 0
def PySem.W.Fast.tw2938249729206946864 : Nat := 0
def PySem.W.Fast.tw2964392113068172961 : Nat := 0
def PySem.W.Fast.tw5818976064080900022 : Nat := 0
def PySem.W.Fast.tw79868673425631941 : Nat := 0
def PySem.W.Fast.tw10107289159747652301 : Nat := 0
def PySem.W.Fast.tw11524594941174689317 : Nat := 0
def PySem.W.Fast.tw10132724693611604055 : Nat := 0
def PySem.W.Fast.tw16271219013179932019 : Nat := 0
def PySem.W.Fast.tw6228795736721959328 : Nat := 0
def PySem.W.Fast.tw18086550129140754955 : Nat := 0
def PySem.W.Fast.tw11648989266845080020 : Nat := 0
def PySem.W.Fast.tw17437844537115847539 : Nat := 0
def PySem.W.Fast.tw16488269237324859323 : Nat := 0
def PySem.W.Fast.tw17074090419371579372 : Nat := 0
def PySem.W.Fast.tw6856924349439124440 : Nat := 0
def PySem.W.Fast.tw1181989130915277740 : Nat := 0
def PySem.W.Fast.tw5287756822378146425 : Nat := 0
def PySem.W.Fast.tw17342663400436112637 : Nat := 0
def PySem.W.Fast.tw2235667461334611173 : Nat := 0
def PySem.W.Fast.tw10384480745860799124 : Nat := 0
def PySem.W.Fast.tw3319051665380151749 : Nat := 0
def PySem.W.Fast.tw1279214044095113605 : Nat := 0
def PySem.W.Fast.tw15513872301076168974 : Nat := 0
def PySem.W.Fast.tw1883013511125219995 : Nat := 0
def PySem.W.Fast.tw13519114847904705345 : Nat := 0
def PySem.W.Fast.tw15753925920800829102 : Nat := 0
def PySem.W.Fast.tw769898153625962872 : Nat := 0
def PySem.W.Fast.tw14770509738846016379 : Nat := 0
def PySem.W.Fast.tw3586785750075293499 : Nat := 0
def PySem.W.Fast.tw2207374950223828717 : Nat := 0
def PySem.W.Fast.tw1235684404961138243 : Nat := 0
def PySem.W.Fast.tw5475485749065579248 : Nat := 0
def PySem.W.Fast.tw17405445864719653476 : Nat := 0
def PySem.W.Fast.tw9188714581616300846 : Nat := 0
def PySem.W.Fast.tw13927493853689493775 : Nat := 0
def PySem.W.Fast.tw5990322867415723868 : Nat := 0
def PySem.W.Fast.tw3129717089423198458 : Nat := 0
def PySem.W.Fast.tw14151450143235035041 : Nat := 0
open PySem PySem.W PyProof.Rows
set_option maxRecDepth 100000 in
set_option maxHeartbeats 0 in
theorem PySem.Challenge.cw_holebook_k04_what_is_a_shape_holds : PySem.Challenge.rw_holebook_k04_what_is_a_shape.Holds := by
  w_on; o_law; k_head; (case hw => w_witness2)
  k_fill
  refine Hb.walk (l := PySem.Challenge.rw_holebook_k04_what_is_a_shape) rfl rfl (fun w h Y => PySem.W.kIn_of Y) ?F
  case F =>
    intro w mg fa h KX G hmg
    refine' Hb.all_mk KX G hmg ?ac_HoleError ?ac_NoShape ?ac_NoPiece ?a_NoPiece__init_ ?if_NoPiece__init_ ?l_NoPiece__init_ ?c_NoPiece__init_ ?k_NoPiece__init_ ?a_is_whole ?l_is_whole ?c_is_whole ?k_is_whole ?a_level_of ?l_level_of ?c_level_of ?k_level_of ?a_faces_agree ?l_faces_agree ?c_faces_agree ?k_faces_agree ?a_is_list_of_few ?l_is_list_of_few ?c_is_list_of_few ?k_is_list_of_few ?a_L_whole ?l_L_whole ?c_L_whole ?k_L_whole ?a_L_cell_at ?l_L_cell_at ?c_L_cell_at ?k_L_cell_at ?a_L_faces_by ?l_L_faces_by ?c_L_faces_by ?k_L_faces_by ?a_L_word_by ?l_L_word_by ?c_L_word_by ?k_L_word_by ?a_is_whole_below ?l_is_whole_below ?c_is_whole_below ?k_is_whole_below ?a_L_fits_by ?l_L_fits_by ?c_L_fits_by ?k_L_fits_by ?a_L_words_with ?l_L_words_with ?c_L_words_with ?k_L_words_with ?a_L_spoilt_by ?l_L_spoilt_by ?c_L_spoilt_by ?k_L_spoilt_by ?a_L_thing_by ?l_L_thing_by ?c_L_thing_by ?k_L_thing_by ?a_is_place_of_level ?l_is_place_of_level ?c_is_place_of_level ?k_is_place_of_level ?a_L_shape_by ?l_L_shape_by ?c_L_shape_by ?k_L_shape_by ?a_L_due_of ?l_L_due_of ?c_L_due_of ?k_L_due_of ?a_fits ?l_fits ?c_fits ?k_fits ?a_first_misfit ?l_first_misfit ?c_first_misfit ?k_first_misfit ?a_is_shape ?l_is_shape ?c_is_shape ?k_is_shape ?a_shape_of ?l_shape_of ?c_shape_of ?k_shape_of ?a_L_told_by ?l_L_told_by ?c_L_told_by ?k_L_told_by ?a_law ?l_law ?c_law ?k_law ?kc_NoPiece ?eo_NoPiece ?en_NoPiece ?ei_NoPiece ?et_NoPiece ?es_NoPiece ?ae_NoShape ?ak_NoShape ?a1_NoShape ?a2_NoShape ?a3_NoShape ?a4_NoShape ?a5_NoShape ?ak_NoPiece ?a1_NoPiece ?a2_NoPiece ?a3_NoPiece ?a4_NoPiece ?a5_NoPiece ?av_NoPiece ?ai_NoShape_HoleError ?as_NoShape_NoShape ?ai_NoShape_NoPiece ?ai_NoPiece_HoleError ?as_NoPiece_NoShape ?as_NoPiece_NoPiece ?b1_HoleError ?b2_HoleError ?b3_HoleError ?na_NoPiece_place ?ac_FACE_COUNTS ?lc_FACE_COUNTS ?aq_MOST_PIECES ?z_isinstance ?z_int ?z_bool ?z_max ?z_len ?z_all ?z_tuple ?z_range ?z_list ?z_enumerate ?z_ValueError
    (case ac_HoleError => k_is); (case ac_NoShape => k_is); (case ac_NoPiece => k_is); (case ac_FACE_COUNTS => k_is)
    (case a_NoPiece__init_ => k_is); (case if_NoPiece__init_ => k_is); (case l_NoPiece__init_ => k_is); (case c_NoPiece__init_ => k_is)
    (case k_NoPiece__init_ => k_is); (case a_is_whole => k_is); (case l_is_whole => k_is); (case c_is_whole => k_is)
    (case k_is_whole => k_is); (case a_level_of => k_is); (case l_level_of => k_is); (case c_level_of => k_is)
    (case k_level_of => k_is); (case a_faces_agree => k_is); (case l_faces_agree => k_is); (case c_faces_agree => k_is)
    (case k_faces_agree => k_is); (case a_is_list_of_few => k_is); (case l_is_list_of_few => k_is); (case c_is_list_of_few => k_is)
    (case k_is_list_of_few => k_is); (case a_L_whole => k_is); (case l_L_whole => k_is); (case c_L_whole => k_is)
    (case k_L_whole => k_is); (case a_L_cell_at => k_is); (case l_L_cell_at => k_is); (case c_L_cell_at => k_is)
    (case k_L_cell_at => k_is); (case a_L_faces_by => k_is); (case l_L_faces_by => k_is); (case c_L_faces_by => k_is)
    (case k_L_faces_by => k_is); (case a_L_word_by => k_is); (case l_L_word_by => k_is); (case c_L_word_by => k_is)
    (case k_L_word_by => k_is); (case a_is_whole_below => k_is); (case l_is_whole_below => k_is); (case c_is_whole_below => k_is)
    (case k_is_whole_below => k_is); (case a_L_fits_by => k_is); (case l_L_fits_by => k_is); (case c_L_fits_by => k_is)
    (case k_L_fits_by => k_is); (case a_L_words_with => k_is); (case l_L_words_with => k_is); (case c_L_words_with => k_is)
    (case k_L_words_with => k_is); (case a_L_spoilt_by => k_is); (case l_L_spoilt_by => k_is); (case c_L_spoilt_by => k_is)
    (case k_L_spoilt_by => k_is); (case a_L_thing_by => k_is); (case l_L_thing_by => k_is); (case c_L_thing_by => k_is)
    (case k_L_thing_by => k_is); (case a_is_place_of_level => k_is); (case l_is_place_of_level => k_is); (case c_is_place_of_level => k_is)
    (case k_is_place_of_level => k_is); (case a_L_shape_by => k_is); (case l_L_shape_by => k_is); (case c_L_shape_by => k_is)
    (case k_L_shape_by => k_is); (case a_L_due_of => k_is); (case l_L_due_of => k_is); (case c_L_due_of => k_is)
    (case k_L_due_of => k_is); (case a_fits => k_is); (case l_fits => k_is); (case c_fits => k_is)
    (case k_fits => k_is); (case a_first_misfit => k_is); (case l_first_misfit => k_is); (case c_first_misfit => k_is)
    (case k_first_misfit => k_is); (case a_is_shape => k_is); (case l_is_shape => k_is); (case c_is_shape => k_is)
    (case k_is_shape => k_is); (case a_shape_of => k_is); (case l_shape_of => k_is); (case c_shape_of => k_is)
    (case k_shape_of => k_is); (case a_L_told_by => k_is); (case l_L_told_by => k_is); (case c_L_told_by => k_is)
    (case k_L_told_by => k_is); (case a_law => k_is); (case l_law => k_is); (case c_law => k_is)
    (case k_law => k_is); (case kc_NoPiece => k_is); (case eo_NoPiece => k_is); (case en_NoPiece => first | k_is | k_qdec | kernel_rfl | decide +kernel)
    (case ei_NoPiece => k_is); (case et_NoPiece => first | k_is | k_qdec | kernel_rfl | decide +kernel); (case es_NoPiece => k_is); (case ae_NoShape => k_exc)
    (case ak_NoShape => kts_isx); (case a1_NoShape => k_is); (case a2_NoShape => k_is); (case a3_NoShape => k_is)
    (case a4_NoShape => k_is); (case a5_NoShape => k_is); (case ak_NoPiece => kts_isx); (case a1_NoPiece => k_is)
    (case a2_NoPiece => k_is); (case a3_NoPiece => k_is); (case a4_NoPiece => k_is); (case a5_NoPiece => k_is)
    (case av_NoPiece => kit_is); (case ai_NoShape_HoleError => kit_is); (case as_NoShape_NoShape => k_is); (case ai_NoShape_NoPiece => kit_is)
    (case ai_NoPiece_HoleError => kit_is); (case as_NoPiece_NoShape => k_is); (case as_NoPiece_NoPiece => k_is); (case b1_HoleError => first | k_is | k_qdec | kernel_rfl | decide +kernel)
    (case b2_HoleError => first | k_is | k_qdec | kernel_rfl | decide +kernel); (case b3_HoleError => first | k_is | k_qdec | kernel_rfl | decide +kernel); (case na_NoPiece_place => k_is); (case lc_FACE_COUNTS => k_is)
    (case aq_MOST_PIECES => k_is); (case z_isinstance => k_is); (case z_int => k_is); (case z_bool => k_is)
    (case z_max => k_is); (case z_len => k_is); (case z_all => k_is); (case z_tuple => k_is)
    (case z_range => k_is); (case z_list => k_is); (case z_enumerate => k_is); (case z_ValueError => k_is)
