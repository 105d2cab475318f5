import PyProof.Rows.All
import Wide.All
import OpenK.AllK
import Wide.FinOn
import Lean
import PyProof.EqAt
import PyProof.EqKinds
import PyProof.TupleCall
import PySem.Challenge.RW_holebook_k07_text_there_and_back
set_option Elab.async false
set_option linter.all false
set_option maxRecDepth 100000

namespace L2
open PySem PySem.Spec PyProof.Rows


abbrev Key := Sum Int Str
def keyIs : Key → Value → Bool
  | .inl k, v => Value.isInt k v
  | .inr x, v => Value.isStrOf x v
def keyH (w : World) : Key → Int
  | .inl k => hashInt k
  | .inr x => hashStr w x
theorem keyIs_shape : ∀ {k : Key} {v : Value}, keyIs k v = true → (∃ i t, k = Sum.inl i ∧ v = Value.int i t) ∨ (∃ x t, k = Sum.inr x ∧ v = Value.str x t)
  | .inl i, v, h => by
    obtain ⟨t, e⟩ := Value.isInt_shape (k := i) (v := v) h
    exact .inl ⟨i, t, rfl, e⟩
  | .inr x, v, h => by
    obtain ⟨t, e⟩ := Value.isStrOf_shape (x := x) (v := v) h
    exact .inr ⟨x, t, rfl, e⟩
theorem keyIs_int (i : Int) (t : Tok) : keyIs (.inl i) (.int i t) = true := by simp [keyIs, Value.isInt]
theorem keyIs_str (x : Str) (t : Tok) : keyIs (.inr x) (.str x t) = true := by simp [keyIs, Value.isStrOf]
theorem key_ll (a b : Int) : decide ((Sum.inl a : Key) = Sum.inl b) = (a == b) := by
  by_cases e : a = b
  · subst e; simp
  · have h : ¬ (Sum.inl a : Key) = Sum.inl b := fun q => e (Sum.inl.inj q)
    rw [decide_eq_false h]
    exact (beq_eq_false_iff_ne.mpr e).symm
theorem key_rr (a b : Str) : decide ((Sum.inr a : Key) = Sum.inr b) = decide (a = b) := by
  by_cases e : a = b
  · subst e; simp
  · have h : ¬ (Sum.inr a : Key) = Sum.inr b := fun q => e (Sum.inr.inj q)
    rw [decide_eq_false h, decide_eq_false e]
theorem key_lr (a : Int) (b : Str) : decide ((Sum.inl a : Key) = Sum.inr b) = false := decide_eq_false (fun q => nomatch q)
theorem key_rl (a : Str) (b : Int) : decide ((Sum.inr a : Key) = Sum.inl b) = false := decide_eq_false (fun q => nomatch q)

def mixKind (prog : Program) (w : World) : PySem.KeyKind prog w Key where
  is := keyIs
  hash := keyH w
  inj := fun v a b ha hb => by
    rcases keyIs_shape ha with ⟨i, t, rfl, rfl⟩ | ⟨x, t, rfl, rfl⟩
    · rcases keyIs_shape hb with ⟨j, u, rfl, e⟩ | ⟨y, u, rfl, e⟩
      · injection e with e1 _; rw [e1]
      · exact nomatch e
    · rcases keyIs_shape hb with ⟨j, u, rfl, e⟩ | ⟨y, u, rfl, e⟩
      · exact nomatch e
      · injection e with e1 _; rw [e1]
  byValue := fun k v h => by
    rcases keyIs_shape h with ⟨i, t, rfl, rfl⟩ | ⟨x, t, rfl, rfl⟩ <;> rfl
  pyHash := fun hv h => by
    rcases keyIs_shape hv with ⟨i, t, rfl, rfl⟩ | ⟨x, t, rfl, rfl⟩
    · exact wpAny_pyHash_int h
    · exact wpAny_pyHash_str h
  eqBool := fun hu hv h => by
    rcases keyIs_shape hu with ⟨i, t, rfl, rfl⟩ | ⟨x, t, rfl, rfl⟩
    · rcases keyIs_shape hv with ⟨j, u, rfl, rfl⟩ | ⟨y, u, rfl, rfl⟩
      · rw [key_ll] at h; exact wpAny_eqBool_int h
      · rw [key_lr] at h; exact SeqAt.EqAt.int_str i t y u _ _ _ _ h
    · rcases keyIs_shape hv with ⟨j, u, rfl, rfl⟩ | ⟨y, u, rfl, rfl⟩
      · rw [key_rl] at h; exact SeqAt.EqAt.str_int x t j u _ _ _ _ h
      · rw [key_rr] at h; exact wpAny_eqBool_str h
  «strs» := fun k x t v h => by
    rcases keyIs_shape h with ⟨i, u, rfl, e⟩ | ⟨y, u, rfl, e⟩
    · exact nomatch e
    · injection e with e1 _
      subst e1
      cases v <;> rfl

theorem mixKind_int (prog : Program) (w : World) (i : Int) (t : Tok) : (mixKind prog w).is (.inl i) (.int i t) = true := keyIs_int i t
theorem mixKind_str (prog : Program) (w : World) (x : Str) (t : Tok) : (mixKind prog w).is (.inr x) (.str x t) = true := keyIs_str x t
end L2

namespace L2
open PySem PySem.Spec PyProof.Rows


inductive V where
  | non | bl (b : Bool) | int (i : Int) | str (x : Str) | byt (b : Array UInt8) | flt (b : UInt64) | ref (a : Addr) | ty (n : String)
  deriving DecidableEq

def RelV : V → Value → Prop
  | .non, u => u = Value.none
  | .bl b, u => u = Value.bool b
  | .int i, u => ∃ t, u = Value.int i t
  | .str x, u => ∃ t, u = Value.str x t
  | .byt b, u => ∃ t, u = Value.bytes b t
  | .flt b, u => ∃ t, u = Value.float b t
  | .ref a, u => u = Value.ref a
  | .ty n, u => u = Value.type n

abbrev Vals : List V → List Value → Prop := Paired RelV
theorem Vals.length {xs : List V} {us : List Value} (r : Vals xs us) : xs.length = us.length := Paired.length r
theorem Vals.get : ∀ {xs : List V} {us : List Value} {i : Nat} {x : V}, Vals xs us → xs[i]? = some x → ∃ u, us[i]? = some u ∧ RelV x u
  | _, _, _, _, .nil, e => by simp at e
  | _, _, 0, _, .cons r _, e => by simp at e; subst e; exact ⟨_, rfl, r⟩
  | _, _, i + 1, x, .cons _ t, e => by
    obtain ⟨u, h1, h2⟩ := Vals.get (i := i) (x := x) t (by simpa using e)
    exact ⟨u, by simpa using h1, h2⟩
theorem Vals.set {x : V} {u : Value} (r : RelV x u) : ∀ {xs : List V} {us : List Value} (i : Nat), Vals xs us → Vals (xs.set i x) (us.set i u)
  | _, _, _, .nil => .nil
  | _, _, 0, .cons _ t => .cons r t
  | _, _, i + 1, .cons q t => .cons q (Vals.set r i t)
theorem Vals.append : ∀ {xs ys : List V} {us ws : List Value}, Vals xs us → Vals ys ws → Vals (xs ++ ys) (us ++ ws)
  | _, _, _, _, .nil, s => s
  | _, _, _, _, .cons r t, s => .cons r (Vals.append t s)
theorem Vals.take : ∀ {xs : List V} {us : List Value} (n : Nat), Vals xs us → Vals (xs.take n) (us.take n)
  | _, _, 0, _ => .nil
  | _, _, _ + 1, .nil => .nil
  | _, _, n + 1, .cons r t => .cons r (Vals.take n t)
theorem Vals.drop : ∀ {xs : List V} {us : List Value} (n : Nat), Vals xs us → Vals (xs.drop n) (us.drop n)
  | _, _, 0, r => r
  | _, _, _ + 1, .nil => .nil
  | _, _, n + 1, .cons _ t => Vals.drop n t
def RelO : Option V → Option Value → Prop
  | some v, some u => RelV v u
  | none, none => True
  | _, _ => False
def KV {κ : Type} : List (κ × V) → List (κ × Value) → Prop := Paired fun (p : κ × V) (q : κ × Value) => p.1 = q.1 ∧ RelV p.2 q.2


def kV : Key → V
  | .inl i => .int i
  | .inr x => .str x


inductive HO where
  
  | lst (xs : List V)
  
  | tup (xs : List V)
  
  | dK (kvs : List (Key × V)) | dT (kvs : List (List Key × V))
  
  | set (S : Int → Bool) (n : Nat)
  
  | ins (C dx : Addr) (fs : List (Str × V))
  
  | own (x : Addr)
  
  | xd (fs : List (Str × V))
  
  | met (f x : Addr)
  
  | rng (lo hi : Int)
  
  | frz (o : Obj) (u : HO)
  
  | tbl (ps : Array Value)
  
  | ext (φ : Heap → Prop)

abbrev Hp := Addr → Option HO
def upd (H : Hp) (a : Addr) (o : HO) : Hp := fun b => if b = a then some o else H b
theorem upd_same {H : Hp} {a : Addr} {o : HO} : upd H a o a = some o := by unfold upd; rw [if_pos rfl]
theorem upd_ne {H : Hp} {a b : Addr} {o : HO} (h : b ≠ a) : upd H a o b = H b := by unfold upd; rw [if_neg h]
theorem ne_of {H : Hp} {a b : Addr} {o u : HO} (h : H a = some o) (h' : H b = some u) (d : o ≠ u) : a ≠ b := by
  intro e; subst e; rw [h] at h'; exact d (Option.some.inj h')
theorem ne_of_none {H : Hp} {a b : Addr} {o : HO} (h : H a = some o) (h' : H b = none) : a ≠ b := by
  intro e; subst e; rw [h] at h'; cases h'


def IsTupN (h : Heap) (a : Addr) (items : Array Value) : Prop := ∃ o, h.get? a = some o ∧ o.cls = .type "tuple" ∧ o.dict = none ∧ ∃ n, o.data = .seq items n
theorem IsTupN.tup {h : Heap} {a : Addr} {items : Array Value} (x : IsTupN h a items) : IsTup h a items := let ⟨o, e, c, _, d⟩ := x; ⟨o, e, c, d⟩
theorem IsTupN.lt {h : Heap} {a : Addr} {items : Array Value} (x : IsTupN h a items) : a < h.objs.size := x.tup.lt
theorem IsTupN.keep {h h' : Heap} {a : Addr} {items : Array Value} (x : IsTupN h a items) (k : ∀ o, h.get? a = some o → h'.get? a = some o) : IsTupN h' a items := let ⟨o, e, r⟩ := x; ⟨o, k o e, r⟩
theorem IsTupN.new (h : Heap) (items : Array Value) : IsTupN (h.push { cls := .type "tuple", data := .seq items }) h.objs.size items := ⟨_, Heap.get?_push_size _ rfl, rfl, rfl, _, rfl⟩
section
variable (P : Program) (w : World)
def ObjOk (H : Hp) (h : Heap) (a : Addr) : HO → Prop
  | .lst xs => xs.length ≤ sizeLine ∧ ∃ (its : List Value) (n : Nat), Vals xs its ∧ h.get? a = some { cls := .type "list", data := .seq its.toArray n }
  | .tup xs => xs.length ≤ sizeLine ∧ ∃ its : List Value, Vals xs its ∧ IsTupN h a its.toArray
  | .dK kvs => kvs.length ≤ sizeLine ∧ (a == sysModules) = false ∧ ∃ vs, KV kvs vs ∧ h.DictOf (mixKind P w) a vs
  | .dT kvs => kvs.length ≤ sizeLine ∧ (a == sysModules) = false ∧ ∃ xs : List (List Key × Addr × Value),
      Paired (fun (p : List Key × V) (q : List Key × Addr × Value) => p.1 = q.1 ∧ H q.2.1 = some (.tup (p.1.map kV)) ∧ RelV p.2 q.2.2) kvs xs ∧
      ∃ o es ep, h.get? a = some o ∧ o.ExactDict ∧ o.data = .dict es ep ∧ es.toList = xs.map (entryOfKey (tupleKind (mixKind P w))) ∧ (xs.map (·.1)).Nodup
  | .set S n => h.SetOf (intKind P w) a S n
  | .ins C dx fs => H dx = some (.own a) ∧ fs.length ≤ 1000 ∧ dx ≠ a ∧ h.get? a = some (PySem.W.instObj C dx) ∧
      ∃ mA, h.Ns1 dx mA ∧ (∀ f, RelO (fs.lookup f) (mA f)) ∧ PySem.Within mA (fs.map (·.1))
  | .own _ => ∃ o, h.get? a = some o
  | .xd fs => ∃ mA, h.Ns1 a mA ∧ ∀ f, RelO (fs.lookup f) (mA f)
  | .rng lo hi => ∃ t u v, h.get? a = some { cls := .type "range", data := .fields #[.int lo t, .int hi u, .int 1 v] }
  | .frz o u => h.get? a = some o ∧ ObjOk H h a u
  | .tbl ps => h.get? a = some { cls := .none, data := .fields ps }
  | .met f x => h.get? a = some (PySem.W.methodObj (.ref f) (.ref x))
  | .ext φ => φ h ∧ (∃ o, h.get? a = some o) ∧ ∀ h1 h2 : Heap, φ h1 → (∀ o, h1.get? a = some o → h2.get? a = some o) → φ h2

def HOk (H : Hp) (h : Heap) : Prop := ∀ a o, H a = some o → ObjOk P w H h a o
end

section
variable {P : Program} {w : World} {H H' : Hp} {h h' : Heap} {a : Addr} {o : HO}
theorem ObjOk.lt (x : ObjOk P w H h a o) : a < h.objs.size := by
  cases o with
  | lst xs => obtain ⟨_, _, _, _, e⟩ := x; exact Heap.lt_size e
  | tup xs => obtain ⟨_, _, _, p⟩ := x; exact p.lt
  | dK kvs => obtain ⟨_, _, _, _, o, _, _, e, _⟩ := x; exact Heap.lt_size e
  | dT kvs => obtain ⟨_, _, _, _, o, _, _, e, _⟩ := x; exact Heap.lt_size e
  | set S n => obtain ⟨o, _, _, _, e, _⟩ := x; exact Heap.lt_size e
  | ins C dx fs => obtain ⟨_, _, _, e, _⟩ := x; exact Heap.lt_size e
  | own y => obtain ⟨_, e⟩ := x; exact Heap.lt_size e
  | xd fs => obtain ⟨_, ⟨_, _, _, e, _⟩, _⟩ := x; exact Heap.lt_size e
  | rng lo hi => obtain ⟨_, _, _, e⟩ := x; exact Heap.lt_size e
  | frz ob u => obtain ⟨e, _⟩ := x; exact Heap.lt_size e
  | tbl ps => exact Heap.lt_size (show h.get? a = some _ from x)
  | met f y => exact Heap.lt_size (show h.get? a = some _ from x)
  | ext φ => obtain ⟨_, ⟨_, e⟩, _⟩ := x; exact Heap.lt_size e
theorem Paired.mapP {α β : Type} {F G : α → β → Prop} : ∀ {l₁ : List α} {l₂ : List β}, Paired F l₁ l₂ → (∀ a b, F a b → G a b) → Paired G l₁ l₂
  | _, _, .nil, _ => .nil
  | _, _, .cons r t, f => .cons (f _ _ r) (Paired.mapP t f)
theorem ObjOk.stay (x : ObjOk P w H h a o) (k : ∀ b u, (b = a ∨ H b = some (.own a)) → h.get? b = some u → h'.get? b = some u)
    (ho : ∀ b, H b = some (.own a) → H' b = some (.own a)) (ht : ∀ b xs, H b = some (.tup xs) → H' b = some (.tup xs)) : ObjOk P w H' h' a o := by
  induction o with
  | lst xs => obtain ⟨z, its, n, r, e⟩ := x; exact ⟨z, its, n, r, k _ _ (.inl rfl) e⟩
  | tup xs => obtain ⟨z, its, r, ob, e, c⟩ := x; exact ⟨z, its, r, ob, k _ _ (.inl rfl) e, c⟩
  | dK kvs => obtain ⟨z, y, vs, r, ob, es, ep, e, c⟩ := x; exact ⟨z, y, vs, r, ob, es, ep, k _ _ (.inl rfl) e, c⟩
  | dT kvs =>
    obtain ⟨z, y, xs, r, ob, es, ep, e, c⟩ := x
    exact ⟨z, y, xs, Paired.mapP r fun p q z => ⟨z.1, ht _ _ z.2.1, z.2.2⟩, ob, es, ep, k _ _ (.inl rfl) e, c⟩
  | set S n => obtain ⟨ob, es, ep, t, e, c⟩ := x; exact ⟨ob, es, ep, t, k _ _ (.inl rfl) e, c⟩
  | ins C dx fs =>
    obtain ⟨d, z, ne, e, mA, ⟨od, es, ep, e2, c⟩, r⟩ := x
    exact ⟨ho _ d, z, ne, k _ _ (.inl rfl) e, mA, ⟨od, es, ep, k _ _ (.inr d) e2, c⟩, r⟩
  | own y => obtain ⟨ob, e⟩ := x; exact ⟨ob, k _ _ (.inl rfl) e⟩
  | xd fs => obtain ⟨mA, ⟨od, es, ep, e, c⟩, r⟩ := x; exact ⟨mA, ⟨od, es, ep, k _ _ (.inl rfl) e, c⟩, r⟩
  | rng lo hi => obtain ⟨t, u, v, e⟩ := x; exact ⟨t, u, v, k _ _ (.inl rfl) e⟩
  | frz ob u ih => obtain ⟨e, q⟩ := x; exact ⟨k _ _ (.inl rfl) e, ih q⟩
  | tbl ps =>
    have e : h.get? a = some { cls := .none, data := .fields ps } := x
    show h'.get? a = some { cls := .none, data := .fields ps }
    exact k a _ (.inl rfl) e
  | met f y =>
    have e : h.get? a = some (PySem.W.methodObj (.ref f) (.ref y)) := x
    show h'.get? a = some (PySem.W.methodObj (.ref f) (.ref y))
    exact k a _ (.inl rfl) e
  | ext φ => obtain ⟨p, ⟨o, e⟩, st⟩ := x; exact ⟨st _ _ p fun o q => k _ _ (.inl rfl) q, ⟨o, k _ _ (.inl rfl) e⟩, st⟩
theorem HOk.lt (x : HOk P w H h) (e : H a = some o) : a < h.objs.size := (x a o e).lt
theorem HOk.fresh (x : HOk P w H h) (e : h.objs.size ≤ a) : H a = none := by
  cases q : H a with
  | none => rfl
  | some u => exact absurd (Nat.lt_of_lt_of_le (x.lt q) e) (Nat.lt_irrefl _)

theorem HOk.kept (x : HOk P w H h) (k : ∀ b u, h.get? b = some u → h'.get? b = some u) : HOk P w H h' := fun a o e =>
  (x a o e).stay (fun b u _ q => k b u q) (fun _ q => q) fun _ _ q => q

theorem HOk.laid (x : HOk P w H h) (k : ∀ b u, h.get? b = some u → h'.get? b = some u) (hp : h.objs.size ≤ a) (new : ObjOk P w (upd H a o) h' a o) : HOk P w (upd H a o) h' := fun b u e => by
  have hn := x.fresh hp
  by_cases hb : b = a
  · subst hb; rw [upd_same] at e; cases e; exact new
  · rw [upd_ne hb] at e
    exact (x b u e).stay (fun c v _ q => k c v q) (fun c q => by rw [upd_ne (ne_of_none q hn)]; exact q) fun c xs q => by rw [upd_ne (ne_of_none q hn)]; exact q
end


def Rd (H : Hp) (a : Addr) (u : HO) : Prop := H a = some u ∨ ∃ o, H a = some (.frz o u)
theorem Rd.of {H : Hp} {a : Addr} {u : HO} (h : H a = some u) : Rd H a u := .inl h
theorem Rd.ok {P : Program} {w : World} {H : Hp} {h : Heap} {a : Addr} {u : HO} (r : Rd H a u) (x : HOk P w H h) : ObjOk P w H h a u := by
  rcases r with r | ⟨o, r⟩
  · exact x a u r
  · obtain ⟨_, q⟩ := x a _ r
    exact q

def Mut : Option HO → Prop
  | some (.lst _) => True
  | some (.dK _) => True
  | some (.dT _) => True
  | some (.set _ _) => True
  | some (.ins _ _ _) => True
  | some (.ext _) => True
  | _ => False
section
variable {P : Program} {w : World} {H : Hp} {h h' : Heap} {x e : Addr} {o' : HO}

theorem HOk.write (ok : HOk P w H h) (mu : Mut (H x)) (he : e = x ∨ H e = some (.own x)) (k : ∀ b u, b ≠ e → h.get? b = some u → h'.get? b = some u) (heo : ∃ u, h'.get? e = some u)
    (new : ObjOk P w (upd H x o') h' x o') : HOk P w (upd H x o') h' := fun b u q => by
  have nown : ∀ c y, H c = some (.own y) → c ≠ x := fun c y r z => by subst z; rw [r] at mu; exact mu
  have ntup : ∀ c xs, H c = some (.tup xs) → c ≠ x := fun c xs r z => by subst z; rw [r] at mu; exact mu
  by_cases hb : b = x
  · subst hb; rw [upd_same] at q; cases q; exact new
  · rw [upd_ne hb] at q
    by_cases hbe : b = e
    · have q' : H b = some (.own x) := by
        rcases he with z | z
        · exact absurd (hbe.trans z) hb
        · rw [hbe]; exact z
      rw [q] at q'; cases q'
      obtain ⟨v, hv⟩ := heo
      exact ⟨v, by rw [hbe]; exact hv⟩
    · refine (ok b u q).stay (fun c v hc r => k c v ?_ r) (fun c r => by rw [upd_ne (nown c b r)]; exact r) fun c xs r => by rw [upd_ne (ntup c xs r)]; exact r
      rcases hc with rfl | hc
      · exact hbe
      · rintro rfl
        rcases he with z | z
        · exact nown c b hc z
        · rw [hc] at z; cases z; exact hb rfl
end


structure Un (fs ex : List Addr) (H H' : Hp) (h h' : Heap) : Prop where
  keep : ∀ b o, h.get? b = some o → H b = none → b ∉ fs → b ∉ ex → h'.get? b = some o
  slot : ∀ b o, h.get? b = some o → H b = none → b ∈ fs → b ∉ ex → ∃ sl, h'.get? b = some { o with slots := sl }
  free : ∀ b o, h.get? b = some o → H b = none → b ∉ ex → H' b = none
  there : ∀ b o, h.get? b = some o → b ∉ ex → ∃ o', h'.get? b = some o'
  tups : ∀ b xs, H b = some (.tup xs) → H' b = some (.tup xs)
  frzs : ∀ b o u, H b = some (.frz o u) → H' b = some (.frz o u)
  tbls : ∀ b ps, H b = some (.tbl ps) → ∃ more, H' b = some (.tbl (ps ++ more))
section
variable {fs fs' ex ex' : List Addr} {H H1 H2 : Hp} {h h1 h2 h' : Heap} {a x e : Addr} {o : HO}
theorem Un.any (u : Un fs ex H H1 h h1) {b : Addr} {ob : Obj} (q : h.get? b = some ob) (n : H b = none) (hx : b ∉ ex) : ∃ sl, h1.get? b = some { ob with slots := sl } := by
  by_cases hb : b ∈ fs
  · exact u.slot b ob q n hb hx
  · exact ⟨ob.slots, u.keep b ob q n hb hx⟩
theorem Un.trans (a : Un fs ex H H1 h h1) (b : Un fs ex H1 H2 h1 h2) : Un fs ex H H2 h h2 where
  keep := fun c ob q n hc hx => b.keep c ob (a.keep c ob q n hc hx) (a.free c ob q n hx) hc hx
  slot := fun c ob q n hc hx => by
    obtain ⟨sl, e1⟩ := a.slot c ob q n hc hx
    obtain ⟨sl', e2⟩ := b.slot c _ e1 (a.free c ob q n hx) hc hx
    exact ⟨sl', e2⟩
  free := fun c ob q n hx => by
    obtain ⟨o', e1⟩ := a.there c ob q hx
    exact b.free c o' e1 (a.free c ob q n hx) hx
  there := fun c ob q hx => by
    obtain ⟨o', e1⟩ := a.there c ob q hx
    exact b.there c o' e1 hx
  tups := fun c xs q => b.tups c xs (a.tups c xs q)
  frzs := fun c ob xs q => b.frzs c ob xs (a.frzs c ob xs q)
  tbls := fun c ps q => by
    obtain ⟨m1, e1⟩ := a.tbls c ps q
    obtain ⟨m2, e2⟩ := b.tbls c _ e1
    exact ⟨m1 ++ m2, by rw [e2, Array.append_assoc]⟩
theorem Un.kept (k : ∀ b u, h.get? b = some u → h'.get? b = some u) : Un fs ex H H h h' :=
  ⟨fun b ob q _ _ _ => k b ob q, fun b ob q _ _ _ => ⟨ob.slots, k b ob q⟩, fun _ _ _ n _ => n, fun b ob q _ => ⟨ob, k b ob q⟩, fun _ _ q => q, fun _ _ _ q => q, fun _ ps q => ⟨#[], by rw [q]; simp⟩⟩
theorem Un.refl : Un fs ex H H h h := Un.kept fun _ _ q => q
theorem Un.laid (k : ∀ b u, h.get? b = some u → h'.get? b = some u) (hp : h.objs.size ≤ a) (hn : H a = none) : Un fs ex H (upd H a o) h h' where
  keep := fun b u q _ _ _ => k b u q
  slot := fun b u q _ _ _ => ⟨u.slots, k b u q⟩
  free := fun b u q n _ => by rw [upd_ne (Nat.ne_of_lt (Nat.lt_of_lt_of_le (Heap.lt_size q) hp))]; exact n
  there := fun b u q _ => ⟨u, k b u q⟩
  tups := fun b xs q => by rw [upd_ne (ne_of_none q hn)]; exact q
  frzs := fun b u xs q => by rw [upd_ne (ne_of_none q hn)]; exact q
  tbls := fun b ps q => ⟨#[], by rw [upd_ne (ne_of_none q hn), q]; simp⟩
theorem Un.write (mu : Mut (H x)) (he : e = x ∨ H e = some (.own x)) (k : ∀ b u, b ≠ e → h.get? b = some u → h'.get? b = some u) (heo : ∃ u, h'.get? e = some u) : Un fs ex H (upd H x o) h h' := by
  have hx : ∀ b, H b = none → b ≠ x := fun b n z => by subst z; rw [n] at mu; exact mu
  have hb : ∀ b, H b = none → b ≠ e := fun b n z => by
    subst z
    rcases he with r | r
    · exact hx b n r
    · rw [n] at r; cases r
  have hm : ∀ b u, H b = some u → ¬ Mut (some u) → b ≠ x := fun b u q nm z => by subst z; rw [q] at mu; exact nm mu
  refine ⟨fun b u q n _ _ => k b u (hb b n) q, fun b u q n _ _ => ⟨u.slots, k b u (hb b n) q⟩, fun b u q n _ => by rw [upd_ne (hx b n)]; exact n, fun b u q _ => ?_,
    fun b xs q => by rw [upd_ne (hm b _ q fun z => z)]; exact q, fun b u xs q => by rw [upd_ne (hm b _ q fun z => z)]; exact q, fun b ps q => ⟨#[], by rw [upd_ne (hm b _ q fun z => z), q]; simp⟩⟩
  by_cases hbe : b = e
  · subst hbe; exact heo
  · exact ⟨u, k b u hbe q⟩
theorem Un.mono (u : Un fs ex H H1 h h1) (hs : ∀ b ∈ fs, b ∈ fs') (hx : ∀ b ∈ ex, b ∈ ex') : Un fs' ex' H H1 h h1 :=
  ⟨fun b ob q n hb he => u.keep b ob q n (fun z => hb (hs b z)) fun z => he (hx b z), fun _ _ q n _ he => u.any q n fun z => he (hx _ z), fun b ob q n he => u.free b ob q n fun z => he (hx b z), fun b ob q he => u.there b ob q fun z => he (hx b z), u.tups, u.frzs, u.tbls⟩
end


def trk (h : Heap) (H : Hp) : List Addr := (List.range h.objs.size).filter fun a => (H a).isSome
def hidT (h : Heap) (H : Hp) : Heap := PySem.W.hideAll h (trk h H)
theorem hidT_size (h : Heap) (H : Hp) : (hidT h H).objs.size = h.objs.size := PySem.W.hideAll_size _ _
theorem hidT_get {h : Heap} {H : Hp} {b : Addr} {o : Obj} (e : h.get? b = some o) (n : H b = none) : (hidT h H).get? b = some o :=
  PySem.W.hideAll_get _ e fun hm => by
    have q : (H b).isSome = true := (List.mem_filter.mp hm).2
    rw [n] at q; simp at q
theorem of_hidT {h : Heap} {H : Hp} {b : Addr} {o : Obj} (e : (hidT h H).get? b = some o) : h.get? b = some o ∧ H b = none := by
  have e' : h.get? b = some o := PySem.W.of_hideAll (trk h H) e
  refine ⟨e', ?_⟩
  cases q : H b with
  | none => rfl
  | some x =>
    have hm : b ∈ trk h H := List.mem_filter.mpr ⟨List.mem_range.mpr (Heap.lt_size e'), by simp [q]⟩
    have z : (hidT h H).get? b = none := PySem.W.hideAll_none (trk h H) hm
    rw [z] at e; cases e


def allNews (g h : Heap) (L : Addr) : List (Addr × Obj) := (List.range h.objs.size).filterMap fun a => if a = L ∨ (g.get? a).isSome = true then none else (h.get? a).map fun o => (a, o)
def rest (g h : Heap) (L d : Addr) : List (Addr × Obj) := (allNews g h L).filter fun p => decide (p.1 ≠ d)
end L2

namespace L2
open PySem PySem.Spec PyProof.Rows


structure Mod (K : PySem.W.Frag) (mg : Str → Option Value) (base : Heap) : Prop where
  kin : K.In base
  glob : base.Ns mainGlobals mg
  blt : ∃ mb, base.Ns builtinsNs mb ∧ ∀ x : Str, x ≠ "__name__" → mb x = bootBuiltins x
  nolimit : base.NoLimit


structure Cx where
  prog : Program
  w : World
  K : PySem.W.Frag
  mg : Str → Option Value
  base : Heap
  A : Around
  N : List Str
  s₀ : Shared
  H₀ : Hp
  env : Env
  outer : List Env
  stack : List Env
  ex : List Addr
  fn : Str → Bool
  calm : Bool
  pn : List (Addr × Obj)
  xe : Value → Shared → Prop

def frs (l : List Env) : List Addr := l.filterMap (·.frame)
abbrev Cx.fs (X : Cx) : List Addr := frs X.outer

def Vis (sc : Scope) (x : Str) : Prop := sc.names.lookup x = some .local ∨ sc.names.lookup x = some .cell ∨ sc.names.lookup x = some .free
def Loc (sc : Scope) (x : Str) : Prop := sc.names.lookup x = some .local ∨ sc.names.lookup x = some .cell
def Look (env : Env) (h : Heap) (m : Str → Option Value) (x : Str) (u : Value) : Prop :=
  (env.kindOf x = some .local ∧ m x = some u) ∨ ((env.kindOf x = some .cell ∨ env.kindOf x = some .free) ∧ ∃ c, env.cells.lookup x = some c ∧ h.IsCell c (some u))

structure Cx.Ok (X : Cx) : Prop where
  mod : Mod X.K X.mg X.base
  kind : X.env.scope.kind = .function
  glob : X.env.globals = mainGlobals
  blt : X.env.builtins = builtinsNs
  above : X.s₀.heap.objs.size ≤ X.env.locals
  inj : ∀ x y c, X.env.cells.lookup x = some c → X.env.cells.lookup y = some c → x = y
  has : ∀ x, (X.env.kindOf x = some .cell ∨ X.env.kindOf x = some .free) → ∃ c, X.env.cells.lookup x = some c
  cab : ∀ x c, X.fn x = true → X.env.cells.lookup x = some c → X.s₀.heap.objs.size ≤ c
  hd : X.calm = true → X.A.handled = none
  frames : X.A.frames = some X.stack
  stk : X.stack = X.outer ∨ (X.stack = X.env :: X.outer ∧ X.env.frame = some X.env.locals)
  exf : ∀ b ∈ X.ex, b ≠ X.env.locals ∧ ∀ x c, X.env.cells.lookup x = some c → c ≠ b
  bs : ∀ b o, X.base.get? b = some o → X.s₀.heap.get? b = some o ∧ X.H₀ b = none
  bsz : X.base.objs.size ≤ X.s₀.heap.objs.size
  noex : ∀ b o, X.base.get? b = some o → b ∉ X.ex
  exfs : ∀ b ∈ X.ex, b ∉ X.fs
  funs : X.s₀.heap.FunFrames X.base X.outer
  frf : ∀ b ∈ X.fs, X.H₀ b = none

structure Inv (X : Cx) (pins : List (Addr × Obj)) (σ : List (Option V)) (H : Hp) (s : Shared) : Prop where
  ok : X.Ok
  os : s.os = X.s₀.os
  bare : AllBare s.gens
  base : Un X.fs X.ex X.H₀ H X.s₀.heap s.heap
  loc : ∃ m, s.heap.Ns X.env.locals m ∧ ∀ (i : Nat) (x : Str) (v : V), X.N[i]? = some x → σ[i]? = some (some v) → Vis X.env.scope x → ∃ u, RelV v u ∧ Look X.env s.heap m x u
  cell : ∀ x c, X.env.cells.lookup x = some c → ∃ v, s.heap.IsCell c v
  free : H X.env.locals = none
  freeC : ∀ x c, X.env.cells.lookup x = some c → H c = none
  pin : ∀ p ∈ X.pn ++ pins, s.heap.get? p.1 = some p.2 ∧ H p.1 = none ∧ p.1 ≠ X.env.locals ∧ p.1 ∉ X.fs ∧ ∀ v, p.2.data ≠ .cell v
  hok : HOk X.prog X.w H s.heap
  len : σ.length = X.N.length

section
variable {X : Cx} {pins : List (Addr × Obj)} {σ : List (Option V)} {H H' : Hp} {s : Shared} {h' : Heap}

theorem Cx.Ok.nofr (ok : X.Ok) {b : Addr} {o : Obj} (e : X.base.get? b = some o) : b ∉ X.fs := fun hb => by
  have := (ok.funs.mem hb).1
  rw [e] at this; cases this
theorem Inv.bs (I : Inv X pins σ H s) : ∀ b o, X.base.get? b = some o → s.heap.get? b = some o ∧ H b = none := fun b o e =>
  ⟨I.base.keep b o (I.ok.bs b o e).1 (I.ok.bs b o e).2 (I.ok.nofr e) (I.ok.noex b o e), I.base.free b o (I.ok.bs b o e).1 (I.ok.bs b o e).2 (I.ok.noex b o e)⟩
theorem Inv.bk (I : Inv X pins σ H s) : ∀ b o, X.base.get? b = some o → s.heap.get? b = some o := fun b o e => (I.bs b o e).1
theorem Inv.mod (I : Inv X pins σ H s) : Mod X.K X.mg X.base := I.ok.mod
theorem Inv.kIn (I : Inv X pins σ H s) : X.K.In s.heap := I.ok.mod.kin.keeps I.bk
theorem Inv.nolimit (I : Inv X pins σ H s) : s.heap.NoLimit := I.ok.mod.nolimit.keeps I.bk

theorem Inv.fr (I : Inv X pins σ H s) : ∃ m, Fr X.base X.env.locals s.heap m :=
  let ⟨m, hn, _⟩ := I.loc
  ⟨m, hn, I.bk, Nat.le_trans I.ok.bsz I.ok.above⟩
theorem Inv.lt (I : Inv X pins σ H s) : X.env.locals < s.heap.objs.size := let ⟨_, hn, _⟩ := I.loc; hn.lt
theorem Inv.sz (I : Inv X pins σ H s) : X.s₀.heap.objs.size ≤ s.heap.objs.size := Nat.le_trans I.ok.above (Nat.le_of_lt I.lt)
theorem Inv.nofs (I : Inv X pins σ H s) {a : Addr} (h : s.heap.objs.size ≤ a) : a ∉ X.fs := fun hb => by
  obtain ⟨_, o, ho, _⟩ := I.ok.funs.mem hb
  exact absurd (Nat.lt_of_lt_of_le (Heap.lt_size ho) (Nat.le_trans I.sz h)) (Nat.lt_irrefl _)
theorem Inv.cne (I : Inv X pins σ H s) : ∀ x c, X.env.cells.lookup x = some c → c ≠ X.env.locals := fun x c e z => by
  obtain ⟨v, o, ho, hd⟩ := I.cell x c e
  obtain ⟨m, ⟨o', es, ep, ho', hd', _⟩, _⟩ := I.loc
  rw [z, ho'] at ho; cases ho; rw [hd'] at hd; cases hd
theorem Inv.funs (I : Inv X pins σ H s) : s.heap.FunFrames X.base X.outer := by
  have all : ∀ (l : List Env), (∀ b ∈ frs l, b ∈ X.fs) → X.s₀.heap.FunFrames X.base l → s.heap.FunFrames X.base l := by
    intro l
    induction l with
    | nil => intro _ _; trivial
    | cons env r ih =>
      intro hs hl
      obtain ⟨hk, ⟨L, o, hf, hn, ho, hd⟩, hr⟩ := hl
      have hL : L ∈ X.fs := hs L (by unfold frs; rw [List.filterMap_cons, hf]; exact List.mem_cons_self)
      obtain ⟨sl, e⟩ := I.base.slot L o ho (I.ok.frf L hL) hL fun z => I.ok.exfs L z hL
      exact ⟨hk, ⟨L, _, hf, hn, e, hd⟩, ih (fun b hb => hs b (by unfold frs; rw [List.filterMap_cons, hf]; exact List.mem_cons_of_mem _ hb)) hr⟩
  exact all X.outer (fun _ hb => hb) I.ok.funs


theorem Inv.stack (I : Inv X pins σ H s) : s.heap.FunFrames X.base X.stack := by
  rcases I.ok.stk with e | ⟨e, hf⟩
  · rw [e]; exact I.funs
  · rw [e]
    obtain ⟨m, hn, _⟩ := I.loc
    refine .cons (by rw [I.ok.kind]; decide) hf hn ?_ I.funs
    exact Heap.get?_none_of_le (Nat.le_trans I.ok.bsz I.ok.above)
theorem Inv.stkSub (I : Inv X pins σ H s) : ∀ b ∈ frs X.stack, b ∈ X.env.locals :: X.fs := fun b hb => by
  rcases I.ok.stk with e | ⟨e, hf⟩
  · rw [e] at hb; exact List.mem_cons_of_mem _ hb
  · rw [e] at hb
    unfold frs at hb
    rw [List.filterMap_cons, hf] at hb
    exact hb
theorem Inv.stkFree (I : Inv X pins σ H s) : ∀ b ∈ frs X.stack, H b = none := fun b hb => by
  rcases List.mem_cons.mp (I.stkSub b hb) with e | hb
  · rw [e]; exact I.free
  · obtain ⟨_, o, ho, _⟩ := I.ok.funs.mem hb
    exact I.base.free b o ho (I.ok.frf b hb) fun z => I.ok.exfs b z hb


theorem Inv.step {g' : Array GenState} {t' : Nat} {d' : Drawn} {ch : List Addr} (I : Inv X pins σ H s)
    (hch : ∀ b ∈ ch, (b ∈ X.ex ∨ X.s₀.heap.objs.size ≤ b) ∧ b ≠ X.env.locals ∧ (∀ x c, X.env.cells.lookup x = some c → c ≠ b) ∧ ∀ p ∈ X.pn ++ pins, p.1 ≠ b)
    (keep : ∀ b o, b ≠ X.env.locals → b ∉ X.fs → b ∉ ch → s.heap.get? b = some o → H b = none → h'.get? b = some o)
    (slot : ∀ b o, b ≠ X.env.locals → b ∈ X.fs → b ∉ ch → s.heap.get? b = some o → H b = none → ∃ sl, h'.get? b = some { o with slots := sl }) (free : ∀ b o, b ∉ ch → s.heap.get? b = some o → H b = none → H' b = none)
    (there : ∀ b o, b ∉ ch → s.heap.get? b = some o → ∃ o', h'.get? b = some o')
    (tups : ∀ b xs, H b = some (.tup xs) → H' b = some (.tup xs)) (frzs : ∀ b o u, H b = some (.frz o u) → H' b = some (.frz o u)) (tbls : ∀ b ps, H b = some (.tbl ps) → ∃ more, H' b = some (.tbl (ps ++ more)))
    (ns : ∀ m, s.heap.Ns X.env.locals m → h'.Ns X.env.locals m) (hok : HOk X.prog X.w H' h') (hg : AllBare g') :
    Inv X pins σ H' { s with heap := h', gens := g', drawn := d', toks := t' } := by
  have neL : ∀ b o, X.s₀.heap.get? b = some o → b ≠ X.env.locals := fun b o e => Nat.ne_of_lt (Nat.lt_of_lt_of_le (Heap.lt_size e) I.ok.above)
  have neC : ∀ b o, X.s₀.heap.get? b = some o → b ∉ X.ex → b ∉ ch := fun b o e hx hb => by
    rcases (hch b hb).1 with z | z
    · exact hx z
    · exact absurd (Nat.lt_of_lt_of_le (Heap.lt_size e) z) (Nat.lt_irrefl _)
  have cellK : ∀ x c, X.env.cells.lookup x = some c → ∀ v, s.heap.IsCell c v → h'.IsCell c v := fun x c e v ⟨o, ho, hd⟩ => by
    have nch : c ∉ ch := fun z => (hch c z).2.2.1 x c e rfl
    by_cases hc : c ∈ X.fs
    · obtain ⟨sl, q⟩ := slot c o (I.cne x c e) hc nch ho (I.freeC x c e)
      exact ⟨_, q, hd⟩
    · exact ⟨o, keep c o (I.cne x c e) hc nch ho (I.freeC x c e), hd⟩
  refine ⟨I.ok, I.os, hg, ⟨fun b o e n hb hx => ?_, fun b o e n hb hx => ?_, fun b o e n hx => ?_, fun b o e hx => ?_, fun b xs e => tups b xs (I.base.tups b xs e), fun b o xs e => frzs b o xs (I.base.frzs b o xs e), fun b ps e => ?_⟩, ?_, fun x c e => ?_, ?_, fun x c e => ?_, fun p hp => ?_, hok, I.len⟩
  · exact keep b o (neL b o e) hb (neC b o e hx) (I.base.keep b o e n hb hx) (I.base.free b o e n hx)
  · obtain ⟨sl, e1⟩ := I.base.slot b o e n hb hx
    obtain ⟨sl', e2⟩ := slot b _ (neL b o e) hb (neC b o e hx) e1 (I.base.free b o e n hx)
    exact ⟨sl', e2⟩
  · obtain ⟨o', e1⟩ := I.base.there b o e hx
    exact free b o' (neC b o e hx) e1 (I.base.free b o e n hx)
  · obtain ⟨o', e1⟩ := I.base.there b o e hx
    exact there b o' (neC b o e hx) e1
  · obtain ⟨m1, e1⟩ := I.base.tbls b ps e
    obtain ⟨m2, e2⟩ := tbls b _ e1
    exact ⟨m1 ++ m2, by rw [e2, Array.append_assoc]⟩
  · obtain ⟨m, hn, hl⟩ := I.loc
    refine ⟨m, ns m hn, fun i x v e1 e2 e3 => ?_⟩
    obtain ⟨u, r, l⟩ := hl i x v e1 e2 e3
    refine ⟨u, r, ?_⟩
    rcases l with l | ⟨k, c, e, z⟩
    · exact .inl l
    · exact .inr ⟨k, c, e, cellK x c e _ z⟩
  · obtain ⟨v, z⟩ := I.cell x c e
    exact ⟨v, cellK x c e v z⟩
  · obtain ⟨m, ⟨o, _, _, ho, _⟩, _⟩ := I.loc
    exact free _ o (fun z => (hch _ z).2.1 rfl) ho I.free
  · obtain ⟨v, o, ho, hd⟩ := I.cell x c e
    exact free c o (fun z => (hch c z).2.2.1 x c e rfl) ho (I.freeC x c e)
  · obtain ⟨e, n, ne, nf, d⟩ := I.pin p hp
    have nch : p.1 ∉ ch := fun z => (hch p.1 z).2.2.2 p hp rfl
    exact ⟨keep p.1 p.2 ne nf nch e n, free p.1 p.2 nch e n, ne, nf, d⟩

theorem Inv.un {t' : Nat} (I : Inv X pins σ H s) (u : Un X.fs [] H H' s.heap h') (hok : HOk X.prog X.w H' h') : Inv X pins σ H' { s with heap := h', toks := t' } := by
  obtain ⟨m, ⟨o, es, ep, ho, r⟩, _⟩ := id I.loc
  obtain ⟨sl, hL⟩ := u.any ho I.free (by simp)
  exact I.step (g' := s.gens) (d' := s.drawn) (ch := []) (fun _ z => nomatch z) (fun b o _ hb _ e n => u.keep b o e n hb (by simp)) (fun b o _ hb _ e n => u.slot b o e n hb (by simp)) (fun b o _ e n => u.free b o e n (by simp)) (fun b o _ e => u.there b o e (by simp)) u.tups u.frzs u.tbls (fun m' hm => by
    obtain ⟨o', es', ep', ho', r'⟩ := hm
    rw [ho] at ho'; cases ho'
    exact ⟨_, es', ep', hL, r'⟩) hok I.bare

theorem Inv.call {g' : Array GenState} {t' : Nat} {d' : Drawn} {ch : List Addr} (I : Inv X pins σ H s) (u : Un (frs X.stack) ch H H' s.heap h') (hok : HOk X.prog X.w H' h') (hg : AllBare g')
    (hch : ∀ b ∈ ch, (b ∈ X.ex ∨ X.s₀.heap.objs.size ≤ b) ∧ b ≠ X.env.locals ∧ (∀ x c, X.env.cells.lookup x = some c → c ≠ b) ∧ ∀ p ∈ X.pn ++ pins, p.1 ≠ b) :
    Inv X pins σ H' { s with heap := h', gens := g', drawn := d', toks := t' } := by
  obtain ⟨m, ⟨o, es, ep, ho, r⟩, _⟩ := id I.loc
  obtain ⟨sl, hL⟩ := u.any ho I.free fun z => (hch _ z).2.1 rfl
  exact I.step (ch := ch) hch (fun b o hL hb hc e n => u.keep b o e n (fun z => (List.mem_cons.mp (I.stkSub b z)).elim hL hb) hc) (fun b o _ _ hc e n => u.any e n hc) (fun b o hc e n => u.free b o e n hc) (fun b o hc e => u.there b o e hc) u.tups u.frzs u.tbls (fun m' hm => by
    obtain ⟨o', es', ep', ho', r'⟩ := hm
    rw [ho] at ho'; cases ho'
    exact ⟨_, es', ep', hL, r'⟩) hok hg

theorem Inv.turned {t' : Nat} {it : Addr} (I : Inv X pins σ H s) (k : ∀ b o, b ≠ it → s.heap.get? b = some o → h'.get? b = some o) (hn : H it = none) (hL : it ≠ X.env.locals)
    (h1 : it ∈ X.ex ∨ X.s₀.heap.objs.size ≤ it) (h2 : ∀ x c, X.env.cells.lookup x = some c → c ≠ it) (h3 : ∀ p ∈ X.pn ++ pins, p.1 ≠ it) : Inv X pins σ H { s with heap := h', toks := t' } := by
  have nit : ∀ b u, H b = some u → b ≠ it := fun b u e z => by rw [z, hn] at e; cases e
  refine I.step (g' := s.gens) (d' := s.drawn) (ch := [it]) (fun b hb => ?_) (fun b o _ _ hc e _ => k b o (fun z => hc (by simp [z])) e) (fun b o _ _ hc e _ => ⟨o.slots, k b o (fun z => hc (by simp [z])) e⟩) (fun _ _ _ _ n => n)
    (fun b o hc e => ⟨o, k b o (fun z => hc (by simp [z])) e⟩) (fun _ _ e => e) (fun _ _ _ e => e) (fun b ps e => ⟨#[], by rw [e]; simp⟩) (fun m hm => ?_) (fun b u e => ?_) I.bare
  · have e : b = it := by simpa using hb
    subst e
    exact ⟨h1, hL, h2, h3⟩
  · obtain ⟨o, es, ep, ho, r⟩ := hm
    exact ⟨o, es, ep, k _ o (Ne.symm hL) ho, r⟩
  · refine (I.hok b u e).stay (fun c v hc q => k c v ?_ q) (fun _ q => q) fun _ _ q => q
    rcases hc with z | z
    · rw [z]; exact nit b u e
    · exact nit c _ z
theorem Inv.tok (I : Inv X pins σ H s) (t : Nat) : Inv X pins σ H { s with toks := t } := I.un (h' := s.heap) (t' := t) Un.refl I.hok

theorem Inv.kept {t' : Nat} (I : Inv X pins σ H s) (k : ∀ b u, s.heap.get? b = some u → h'.get? b = some u) : Inv X pins σ H { s with heap := h', toks := t' } := I.un (Un.kept k) (I.hok.kept k)

theorem Inv.laid {a : Addr} {o : HO} {t' : Nat} (I : Inv X pins σ H s) (k : ∀ b u, s.heap.get? b = some u → h'.get? b = some u) (hp : s.heap.objs.size ≤ a) (new : ObjOk X.prog X.w (upd H a o) h' a o) :
    Inv X pins σ (upd H a o) { s with heap := h', toks := t' } := I.un (Un.laid k hp (I.hok.fresh hp)) (I.hok.laid k hp new)

theorem Inv.write {x e : Addr} {o : HO} {t' : Nat} (I : Inv X pins σ H s) (mu : Mut (H x)) (he : e = x ∨ H e = some (.own x)) (k : ∀ b u, b ≠ e → s.heap.get? b = some u → h'.get? b = some u) (heo : ∃ u, h'.get? e = some u)
    (new : ObjOk X.prog X.w (upd H x o) h' x o) : Inv X pins σ (upd H x o) { s with heap := h', toks := t' } := I.un (Un.write mu he k heo) (I.hok.write mu he k heo new)

theorem Inv.pins_of {pins' : List (Addr × Obj)} (I : Inv X pins σ H s) (h : ∀ p ∈ pins', s.heap.get? p.1 = some p.2 ∧ H p.1 = none ∧ p.1 ≠ X.env.locals ∧ p.1 ∉ X.fs ∧ ∀ v, p.2.data ≠ .cell v) : Inv X pins' σ H s :=
  ⟨I.ok, I.os, I.bare, I.base, I.loc, I.cell, I.free, I.freeC, fun p hp => (List.mem_append.mp hp).elim (fun z => I.pin p (List.mem_append_left _ z)) (h p), I.hok, I.len⟩

theorem nodup_ix {N : List Str} (hN : N.Nodup) {i j : Nat} {x : Str} (a : N[i]? = some x) (b : N[j]? = some x) : i = j := by
  obtain ⟨h1, e1⟩ := List.getElem?_eq_some_iff.mp a
  obtain ⟨h2, e2⟩ := List.getElem?_eq_some_iff.mp b
  exact (List.getElem_inj hN).mp (e1.trans e2.symm)


theorem store_ok2 {M : Model} {A : Around} {E : Value → Shared → Prop} {i : Nat} {x : Str} {v : V} {u : Value} {Q : Unit → Shared → Prop} (I : Inv X pins σ H s) (hN : X.N.Nodup) (hi : X.N[i]? = some x) (hx : Loc X.env.scope x) (r : RelV v u)
    (h : ∀ s', Inv X pins (σ.set i (some v)) H s' → (∃ a, Heap.SameBut a s.heap s'.heap ∧ (a = X.env.locals ∨ X.env.cells.lookup x = some a)) → Q () s') (hf : X.fn x = true ∨ X.env.scope.names.lookup x = some .local := by first | exact .inl rfl | exact .inr rfl | assumption) : wpAny M A (storeName X.env x u) Q E s := by
  obtain ⟨m, hn, hl⟩ := id I.loc
  have hcls : (X.env.scope.kind == .class || (X.env.scope.kind == .module && X.env.locals != X.env.globals)) = false := by rw [I.ok.kind]; rfl
  have hiσ : i < σ.length := by rw [I.len]; exact (List.getElem?_eq_some_iff.mp hi).1
  have cne := I.cne
  have tracked : ∀ {a : Addr} {h' : Heap}, (∃ o, s.heap.get? a = some o ∧ H a = none) → Heap.SameBut a s.heap h' → HOk X.prog X.w H h' := fun {a h'} ha hs b ob e => by
    obtain ⟨_, _, hfree⟩ := ha
    refine (I.hok b ob e).stay (fun c w' hc q => (hs.2 c ?_).trans q) (fun _ q => q) fun _ _ q => q
    rintro rfl
    rcases hc with rfl | hc
    · rw [hfree] at e; cases e
    · rw [hfree] at hc; cases hc
  rcases hx with hk | hk
  · refine wpAny_storeName_local hk hn (fun h' hn' hs => ?_) hcls
    obtain ⟨oL, _, _, hoL, _⟩ := id hn
    refine h _ ⟨I.ok, I.os, I.bare, ⟨fun b o e n hb hx => ?_, fun b o e n hb hx => ?_, I.base.free, fun b o e hx => ?_, I.base.tups, I.base.frzs, I.base.tbls⟩, ⟨_, hn', fun j y v' e1 e2 e3 => ?_⟩, fun y c e => ?_, I.free, I.freeC, fun p hp => ?_, tracked ⟨oL, hoL, I.free⟩ hs, by simpa using I.len⟩ ⟨_, hs, .inl rfl⟩
    · exact (hs.2 b (Nat.ne_of_lt (Nat.lt_of_lt_of_le (Heap.lt_size e) I.ok.above))).trans (I.base.keep b o e n hb hx)
    · obtain ⟨sl, e1⟩ := I.base.slot b o e n hb hx
      exact ⟨sl, (hs.2 b (Nat.ne_of_lt (Nat.lt_of_lt_of_le (Heap.lt_size e) I.ok.above))).trans e1⟩
    · obtain ⟨o', e1⟩ := I.base.there b o e hx
      exact ⟨o', (hs.2 b (Nat.ne_of_lt (Nat.lt_of_lt_of_le (Heap.lt_size e) I.ok.above))).trans e1⟩
    · by_cases hj : j = i
      · subst hj
        rw [hi] at e1; cases e1
        rw [List.getElem?_set_self hiσ] at e2
        cases e2
        exact ⟨u, r, .inl ⟨hk, by simp⟩⟩
      · rw [List.getElem?_set_ne (Ne.symm hj)] at e2
        obtain ⟨u', r', q⟩ := hl j y v' e1 e2 e3
        refine ⟨u', r', ?_⟩
        rcases q with ⟨k, e⟩ | ⟨k, c, e, z⟩
        · refine .inl ⟨k, ?_⟩
          have : y ≠ x := fun e => hj (nodup_ix hN e1 (e ▸ hi))
          simp [this, e]
        · exact .inr ⟨k, c, e, z.sameBut hs (cne y c e)⟩
    · obtain ⟨w', z⟩ := I.cell y c e
      exact ⟨w', z.sameBut hs (cne y c e)⟩
    · obtain ⟨e, n, ne, nf, d⟩ := I.pin p hp
      exact ⟨(hs.2 p.1 ne).trans e, n, ne, nf, d⟩
  · have hfn : X.fn x = true := by
      rcases hf with z | z
      · exact z
      · rw [z] at hk; cases hk
    obtain ⟨c, hc⟩ := I.ok.has x (.inl hk)
    obtain ⟨w', z⟩ := I.cell x c hc
    refine wpAny_storeName_cell I.ok.kind hk hc z (fun h' hc' hs => ?_)
    obtain ⟨oc, hoc, hocd⟩ := id z
    refine h { s with heap := h' } ⟨I.ok, I.os, I.bare, ⟨fun b o e n hb hx => ?_, fun b o e n hb hx => ?_, I.base.free, fun b o e hx => ?_, I.base.tups, I.base.frzs, I.base.tbls⟩, ⟨m, hn.sameBut hs (Ne.symm (cne x c hc)), fun j y v' e1 e2 e3 => ?_⟩, fun y c' e => ?_, I.free, I.freeC, fun p hp => ?_, tracked ⟨oc, hoc, I.freeC x c hc⟩ hs, by simpa using I.len⟩ ⟨c, hs, .inr hc⟩
    · exact (hs.2 b (Nat.ne_of_lt (Nat.lt_of_lt_of_le (Heap.lt_size e) (I.ok.cab x c hfn hc)))).trans (I.base.keep b o e n hb hx)
    · obtain ⟨sl, e1⟩ := I.base.slot b o e n hb hx
      exact ⟨sl, (hs.2 b (Nat.ne_of_lt (Nat.lt_of_lt_of_le (Heap.lt_size e) (I.ok.cab x c hfn hc)))).trans e1⟩
    · obtain ⟨o', e1⟩ := I.base.there b o e hx
      exact ⟨o', (hs.2 b (Nat.ne_of_lt (Nat.lt_of_lt_of_le (Heap.lt_size e) (I.ok.cab x c hfn hc)))).trans e1⟩
    · by_cases hj : j = i
      · subst hj
        rw [hi] at e1; cases e1
        rw [List.getElem?_set_self hiσ] at e2
        cases e2
        exact ⟨u, r, .inr ⟨.inl hk, c, hc, hc'⟩⟩
      · rw [List.getElem?_set_ne (Ne.symm hj)] at e2
        obtain ⟨u', r', q⟩ := hl j y v' e1 e2 e3
        refine ⟨u', r', ?_⟩
        rcases q with q | ⟨k, c', e, z'⟩
        · exact .inl q
        · refine .inr ⟨k, c', e, z'.sameBut hs ?_⟩
          rintro rfl
          exact hj (nodup_ix hN e1 (I.ok.inj _ _ _ e hc ▸ hi))
    · by_cases hcc : c' = c
      · subst hcc; exact ⟨_, hc'⟩
      · obtain ⟨w2, z2⟩ := I.cell y c' e
        exact ⟨w2, z2.sameBut hs hcc⟩
    · obtain ⟨e, n, ne, nf, d⟩ := I.pin p hp
      refine ⟨(hs.2 p.1 ?_).trans e, n, ne, nf, d⟩
      intro q
      rw [q, hoc] at e
      have q' : oc = p.2 := Option.some.inj e
      exact d w' (by rw [← q']; exact hocd)
theorem store_ok {M : Model} {A : Around} {E : Value → Shared → Prop} {i : Nat} {x : Str} {v : V} {u : Value} {Q : Unit → Shared → Prop} (I : Inv X pins σ H s) (hN : X.N.Nodup) (hi : X.N[i]? = some x) (hx : Loc X.env.scope x) (r : RelV v u)
    (h : ∀ s', Inv X pins (σ.set i (some v)) H s' → Q () s') (hf : X.fn x = true ∨ X.env.scope.names.lookup x = some .local := by first | exact .inl rfl | exact .inr rfl | assumption) : wpAny M A (storeName X.env x u) Q E s :=
  store_ok2 I hN hi hx r (fun s' I' _ => h s' I') hf

theorem Inv.call' {s' : Shared} {ch : List Addr} (I : Inv X pins σ H s) (ho : s'.os = s.os) (u : Un (frs X.stack) ch H H' s.heap s'.heap) (hok : HOk X.prog X.w H' s'.heap) (hg : AllBare s'.gens)
    (hch : ∀ b ∈ ch, (b ∈ X.ex ∨ X.s₀.heap.objs.size ≤ b) ∧ b ≠ X.env.locals ∧ (∀ x c, X.env.cells.lookup x = some c → c ≠ b) ∧ ∀ p ∈ X.pn ++ pins, p.1 ≠ b) : Inv X pins σ H' s' := by
  obtain ⟨h', g', d', t', o'⟩ := s'
  have e : o' = s.os := ho
  subst e
  exact I.call (g' := g') (t' := t') (d' := d') u hok hg hch
end



abbrev XK := Value → Option Addr → Hp → Prop
abbrev St := List (Option V)
abbrev VK := V → Hp → Prop

abbrev TE := St → Hp → VK → Prop
abbrev TT := St → Hp → (Bool → Hp → Prop) → Prop
abbrev TA := St → Hp → (List V → Hp → Prop) → Prop

structure Ends where
  nx : St → Hp → Prop
  rt : VK
  bk : St → Hp → Prop := fun _ _ => False
  ct : St → Hp → Prop := fun _ _ => False
abbrev TS := Ends → St → Hp → Prop

def EP (X : Cx) (pins : List (Addr × Obj)) (σ : St) (Q : VK) (u : Value) (s' : Shared) : Prop := ∃ v H', Inv X pins σ H' s' ∧ RelV v u ∧ Q v H'
def TP (X : Cx) (pins : List (Addr × Obj)) (σ : St) (Q : Bool → Hp → Prop) (b : Bool) (s' : Shared) : Prop := ∃ H', Inv X pins σ H' s' ∧ Q b H'
def AP (X : Cx) (pins : List (Addr × Obj)) (σ : St) (Q : List V → Hp → Prop) (us : List Value) (s' : Shared) : Prop := ∃ vs H', Inv X pins σ H' s' ∧ Vals vs us ∧ Q vs H'
def SP (X : Cx) (pins : List (Addr × Obj)) (D : Ends) (f : Flow) (s' : Shared) : Prop :=
  match f with
  | .next => ∃ σ' H', Inv X pins σ' H' s' ∧ D.nx σ' H'
  | .brk => ∃ σ' H', Inv X pins σ' H' s' ∧ D.bk σ' H'
  | .cont => ∃ σ' H', Inv X pins σ' H' s' ∧ D.ct σ' H'
  | .ret u => ∃ v σ' H', Inv X pins σ' H' s' ∧ RelV v u ∧ D.rt v H'

def PE (X : Cx) (e : Expr) (t : TE) : Prop :=
  ∀ (pins : List (Addr × Obj)) (s : Shared) (σ : St) (H : Hp) (Q : VK), Inv X pins σ H s → t σ H Q → wpAny (model X.prog X.w) X.A (eval e X.env) (EP X pins σ Q) X.xe s
def PT (X : Cx) (e : Expr) (t : TT) : Prop :=
  ∀ (pins : List (Addr × Obj)) (s : Shared) (σ : St) (H : Hp) (Q : Bool → Hp → Prop), Inv X pins σ H s → t σ H Q → wpAny (model X.prog X.w) X.A (isTrue e X.env (eval e X.env)) (TP X pins σ Q) X.xe s

def PW (X : Cx) (e : Expr) (t : TT) : Prop :=
  ∀ (whole : Sem Value) (pins : List (Addr × Obj)) (s : Shared) (σ : St) (H : Hp) (Q : Bool → Hp → Prop), Inv X pins σ H s → t σ H Q → wpAny (model X.prog X.w) X.A (isTrue e X.env whole) (TP X pins σ Q) X.xe s
theorem PW.pt {X : Cx} {e : Expr} {t : TT} (h : PW X e t) : PT X e t := h _

def PA (X : Cx) (es : List Expr) (t : TA) : Prop :=
  ∀ (pos : Pos) (pins : List (Addr × Obj)) (s : Shared) (σ : St) (H : Hp) (Q : List V → Hp → Prop), Inv X pins σ H s → t σ H Q → wpAny (model X.prog X.w) X.A (spliced (backTo pos (starEach es X.env))) (AP X pins σ Q) X.xe s
def PS (X : Cx) (st : Stmt) (t : TS) : Prop :=
  ∀ (pins : List (Addr × Obj)) (s : Shared) (σ : St) (H : Hp) (D : Ends), Inv X pins σ H s → t D σ H → wpAny (model X.prog X.w) X.A (exec st X.env) (SP X pins D) X.xe s
def PSs (X : Cx) (st : List Stmt) (t : TS) : Prop :=
  ∀ (pins : List (Addr × Obj)) (s : Shared) (σ : St) (H : Hp) (D : Ends), Inv X pins σ H s → t D σ H → wpAny (model X.prog X.w) X.A (execs st X.env) (SP X pins D) X.xe s

theorem thn {α : Type} {t : Sem α} {Q Q' : α → Shared → Prop} {M : Model} {A : Around} {E : Value → Shared → Prop} {s : Shared} (h : wpAny M A t Q E s) (hQ : ∀ a s, Q a s → Q' a s) : wpAny M A t Q' E s := wpAny_mono h hQ fun _ _ x => x
end L2

namespace L2
open PySem PySem.Spec PyProof.Rows
section
variable {X : Cx}


def tVar (i : Nat) : TE := fun σ H Q => ∃ v, σ[i]? = some (some v) ∧ Q v H
def tC (v : V) : TE := fun _ H Q => Q v H
theorem pe_var {i : Nat} {x : Str} {pos : Pos} (hN : X.N[i]? = some x) (hv : Vis X.env.scope x) (hd : (x == ("__debug__" : Str)) = false := by decide) (hcd : (x == ("__classdict__" : Str)) = false := by decide) : PE X (.Name x pos) (tVar i) := by
  intro pins s σ H Q I h
  obtain ⟨v, e, h⟩ := h
  obtain ⟨m, hn, hl⟩ := I.loc
  obtain ⟨u, r, l⟩ := hl i x v hN e hv
  have fin : EP X pins σ Q u s := ⟨v, H, I, r, h⟩
  rcases l with ⟨hk, hm⟩ | ⟨hk, c, hc, hcell⟩
  · exact wpAny_Name (wpAny_loadName_local I.ok.kind hk hn hm fin) hd
  · rcases hk with hk | hk
    · exact wpAny_Name (wpAny_loadName_cell I.ok.kind hk hc hcell fin) hd
    · exact wpAny_Name (wpAny_loadName_free I.ok.kind hk hc hcell fin hcd) hd
theorem pe_int {i j pos} : PE X (.Constant (.int i) j pos) (tC (.int i)) := fun _ _ _ H _ I h => wpAny_Constant_int ⟨.int i, H, I.tok _, ⟨_, rfl⟩, h⟩
theorem pe_bl {b j pos} : PE X (.Constant (.bool b) j pos) (tC (.bl b)) := fun _ _ _ H _ I h => Constant_bool ⟨.bl b, H, I, rfl, h⟩
theorem pe_non {j pos} : PE X (.Constant .none j pos) (tC .non) := fun _ _ _ H _ I h => Constant_none ⟨.non, H, I, rfl, h⟩
theorem pe_str {x j pos} : PE X (.Constant (.str x) j pos) (tC (.str x)) := fun _ _ _ H _ I h => Calls.Constant_str ⟨.str x, H, I.tok _, ⟨_, rfl⟩, h⟩


def Gl (X : Cx) (x : Str) : Prop := X.env.kindOf x = some .globalImplicit
theorem ld_glob {E : Value → Shared → Prop} {pins : List (Addr × Obj)} {s : Shared} {σ : St} {H : Hp} {x : Str} {u : Value} {pos : Pos} {Q : Value → Shared → Prop} (I : Inv X pins σ H s) (hg : Gl X x) (hm : X.mg x = some u) (h : Q u s)
    (hd : (x == ("__debug__" : Str)) = false := by decide) : wpAny (model X.prog X.w) X.A (eval (.Name x pos) X.env) Q E s :=
  Calls.Name_function_global I.ok.kind hg (Calls.loadGlobal_global (by rw [I.ok.glob]; exact I.mod.glob.keeps I.bk) hm h) hd
theorem ld_blt {E : Value → Shared → Prop} {pins : List (Addr × Obj)} {s : Shared} {σ : St} {H : Hp} {x : Str} {u : Value} {pos : Pos} {Q : Value → Shared → Prop} (I : Inv X pins σ H s) (hg : Gl X x) (hm : X.mg x = none) (hv : bootBuiltins x = some u) (h : Q u s)
    (hn : x ≠ "__name__" := by decide) (hd : (x == ("__debug__" : Str)) = false := by decide) : wpAny (model X.prog X.w) X.A (eval (.Name x pos) X.env) Q E s := by
  obtain ⟨mb, h1, h2⟩ := I.mod.blt
  exact Calls.Name_function_global I.ok.kind hg (Calls.loadGlobal_builtin (by rw [I.ok.glob]; exact I.mod.glob.keeps I.bk) hm (by rw [I.ok.blt]; exact h1.keeps I.bk) ((h2 x hn).trans hv) h) hd

theorem pe_glob {x : Str} {v : V} {u : Value} {pos : Pos} (hg : Gl X x) (hm : X.mg x = some u) (r : RelV v u) (hd : (x == ("__debug__" : Str)) = false := by decide) : PE X (.Name x pos) (tC v) :=
  fun _ _ _ H _ I h => ld_glob I hg hm ⟨v, H, I, r, h⟩ hd
theorem pe_bltn {x : Str} {v : V} {u : Value} {pos : Pos} (hg : Gl X x) (hm : X.mg x = none) (hv : bootBuiltins x = some u) (r : RelV v u) (hn : x ≠ "__name__" := by decide) (hd : (x == ("__debug__" : Str)) = false := by decide) : PE X (.Name x pos) (tC v) :=
  fun _ _ _ H _ I h => ld_blt I hg hm hv ⟨v, H, I, r, h⟩ hn hd



def t2I (ta tb : TE) (k : Int → Int → Hp → Prop) : St → Hp → Prop := fun σ H => ta σ H fun x H1 => tb σ H1 fun y H2 => ∃ i j, x = .int i ∧ y = .int j ∧ k i j H2
def tAdd (ta tb : TE) : TE := fun σ H Q => t2I ta tb (fun i j H2 => Q (.int (i + j)) H2) σ H
def tSub (ta tb : TE) : TE := fun σ H Q => t2I ta tb (fun i j H2 => Q (.int (i - j)) H2) σ H

def tMul (ta tb : TE) : TE := fun σ H Q => t2I ta tb (fun i j H2 => (-(2 ^ 64) < i ∧ i < 2 ^ 64) ∧ Q (.int (i * j)) H2) σ H
variable {a b : Expr} {ta tb : TE} {pos : Pos}
def PC (X : Cx) (op : CmpOp) (a b : Expr) (t : TE) : Prop :=
  ∀ (pins : List (Addr × Obj)) (s : Shared) (σ : St) (H : Hp) (Q : VK), Inv X pins σ H s → t σ H Q →
    wpAny (model X.prog X.w) X.A (eval a X.env) (fun v s₁ => wpAny (model X.prog X.w) X.A (eval b X.env) (fun u s₂ => wpAny (model X.prog X.w) X.A (compareOp op v u) (EP X pins σ Q) X.xe s₂) X.xe s₁) X.xe s
def tCmp (p : Int → Int → Bool) (ta tb : TE) : TE := fun σ H Q => t2I ta tb (fun i j H2 => Q (.bl (p i j)) H2) σ H
abbrev tLt : TE → TE → TE := tCmp fun i j => decide (i < j)
abbrev tLe : TE → TE → TE := tCmp fun i j => decide (i ≤ j)
abbrev tGt : TE → TE → TE := tCmp fun i j => decide (j < i)
abbrev tGe : TE → TE → TE := tCmp fun i j => decide (j ≤ i)
abbrev tEqI : TE → TE → TE := tCmp fun i j => decide (i = j)
abbrev tNeI : TE → TE → TE := tCmp fun i j => !decide (i = j)

def tIsN (ta : TE) : TE := fun σ H Q => ta σ H fun x H1 => Q (.bl (decide (x = .non))) H1
def tNotN (ta : TE) : TE := fun σ H Q => ta σ H fun x H1 => Q (.bl (!decide (x = .non))) H1
def tB (t : TE) : TT := fun σ H Q => t σ H fun x H1 => ∃ c, x = .bl c ∧ Q c H1
theorem pt_val {e : Expr} {t : TE} (h : PE X e t) (he : ∀ whole, isTrue e X.env whole = (do let v ← whole; standAt e.pos; holding [v] (truthy v)) := by intro _; rfl) : PT X e (tB t) := by
  intro pins s σ H Q I hw
  refine isTrue_plain (thn (h pins s σ H _ I hw) fun v s1 ⟨x, H1, I1, r1, q1⟩ => ?_) (he _)
  obtain ⟨d, rfl, q⟩ := q1
  cases r1
  exact wpAny_truthy_bool ⟨H1, I1, q⟩


variable {tA tB' : TT} {rest : List Expr}
def tAnd (t u : TT) : TT := fun σ H Q => t σ H fun c H1 => if c = true then u σ H1 Q else Q false H1
def tOr (t u : TT) : TT := fun σ H Q => t σ H fun c H1 => if c = true then Q true H1 else u σ H1 Q
def tNot (t : TT) : TT := fun σ H Q => t σ H fun c H1 => Q (!c) H1
theorem pw_and1 (ha : PT X a tA) : PW X (.BoolOp .And [a] pos) tA := by
  intro wh pins s σ H Q I h
  refine isTrue_and (thn (ha pins s σ H Q I h) fun c s1 e => ?_)
  cases c with
  | true => exact isTrue_and_nil e
  | false => exact e
theorem pw_or1 (ha : PT X a tA) : PW X (.BoolOp .Or [a] pos) tA := by
  intro wh pins s σ H Q I h
  refine isTrue_or (thn (ha pins s σ H Q I h) fun c s1 e => ?_)
  cases c with
  | false => exact isTrue_or_nil e
  | true => exact e
theorem pw_and (ha : PT X a tA) (hb : PW X (.BoolOp .And (b :: rest) pos) tB') : PW X (.BoolOp .And (a :: b :: rest) pos) (tAnd tA tB') := by
  intro wh pins s σ H Q I h
  refine isTrue_and (thn (ha pins s σ H _ I h) fun c s1 ⟨H1, I1, q1⟩ => ?_)
  cases c with
  | true => exact hb wh pins s1 σ H1 Q I1 q1
  | false => exact ⟨H1, I1, q1⟩
theorem pw_or (ha : PT X a tA) (hb : PW X (.BoolOp .Or (b :: rest) pos) tB') : PW X (.BoolOp .Or (a :: b :: rest) pos) (tOr tA tB') := by
  intro wh pins s σ H Q I h
  refine isTrue_or (thn (ha pins s σ H _ I h) fun c s1 ⟨H1, I1, q1⟩ => ?_)
  cases c with
  | true => exact ⟨H1, I1, q1⟩
  | false => exact hb wh pins s1 σ H1 Q I1 q1
theorem pt_not (ha : PT X a tA) : PT X (.UnaryOp .Not a pos) (tNot tA) := by
  intro pins s σ H Q I h
  exact isTrue_not (ha pins s σ H (fun c H1 => Q (!c) H1) I h)

def tAndV (ta tb : TE) : TE := fun σ H Q => ta σ H fun x H1 => ∃ c, x = .bl c ∧ if c = true then tb σ H1 Q else Q (.bl false) H1
def tOrV (ta tb : TE) : TE := fun σ H Q => ta σ H fun x H1 => ∃ c, x = .bl c ∧ if c = true then Q (.bl true) H1 else tb σ H1 Q
def tNotV (ta : TE) : TE := fun σ H Q => ta σ H fun x H1 => ∃ c, x = .bl c ∧ Q (.bl (!c)) H1
theorem pe_one {op} {t : TE} (h : PE X a t) : PE X (.BoolOp op [a] pos) t := fun pins s σ H Q I hw => BoolOp_one (h pins s σ H Q I hw)
theorem pe_and (ha : PE X a ta) (hb : PE X (.BoolOp .And (b :: rest) pos) tb) : PE X (.BoolOp .And (a :: b :: rest) pos) (tAndV ta tb) := by
  intro pins s σ H Q I h
  refine BoolOp_and (thn (ha pins s σ H _ I h) fun v s1 ⟨x, H1, I1, r1, q1⟩ => ?_)
  obtain ⟨c, rfl, q1⟩ := q1
  cases r1
  refine wpAny_truthy_bool ?_
  cases c with
  | true => exact hb pins s1 σ H1 Q I1 q1
  | false => exact ⟨.bl false, H1, I1, rfl, q1⟩
theorem pe_or (ha : PE X a ta) (hb : PE X (.BoolOp .Or (b :: rest) pos) tb) : PE X (.BoolOp .Or (a :: b :: rest) pos) (tOrV ta tb) := by
  intro pins s σ H Q I h
  refine BoolOp_or (thn (ha pins s σ H _ I h) fun v s1 ⟨x, H1, I1, r1, q1⟩ => ?_)
  obtain ⟨c, rfl, q1⟩ := q1
  cases r1
  refine wpAny_truthy_bool ?_
  cases c with
  | false => exact hb pins s1 σ H1 Q I1 q1
  | true => exact ⟨.bl true, H1, I1, rfl, q1⟩
theorem pe_not (ha : PE X a ta) : PE X (.UnaryOp .Not a pos) (tNotV ta) := by
  intro pins s σ H Q I h
  refine UnaryOp_ (thn (ha pins s σ H _ I h) fun v s1 ⟨x, H1, I1, r1, q1⟩ => ?_)
  obtain ⟨c, rfl, q1⟩ := q1
  cases r1
  exact not_of (wpAny_truthy_bool ⟨.bl (!c), H1, I1, rfl, q1⟩)

def tIf (t : TT) (ta tb : TE) : TE := fun σ H Q => t σ H fun c H1 => if c = true then ta σ H1 Q else tb σ H1 Q
end
end L2

namespace L2
open PySem PySem.Spec PyProof.Rows


def SqL (K : PySem.W.Frag) (H : Hp) (a : Addr) (xs : List V) : Prop :=
  Rd H a (.lst xs) ∨
    ∃ (o : Obj) (its : Array Value) (n : Nat), K.lookup a = some o ∧ o.cls = .type "list" ∧ o.dict = none ∧ o.data = .seq its n ∧ its.size ≤ sizeLine ∧ Vals xs its.toList
def SqT (K : PySem.W.Frag) (H : Hp) (a : Addr) (xs : List V) : Prop :=
  Rd H a (.tup xs) ∨
    ∃ (o : Obj) (its : Array Value) (n : Nat), K.lookup a = some o ∧ o.cls = .type "tuple" ∧ o.dict = none ∧ o.data = .seq its n ∧ its.size ≤ sizeLine ∧ Vals xs its.toList
def absV : Value → Option V
  | .none => some .non
  | .bool b => some (.bl b)
  | .int i _ => some (.int i)
  | .str x _ => some (.str x)
  | .bytes b _ => some (.byt b)
  | .float b _ => some (.flt b)
  | .ref a => some (.ref a)
  | .type n => some (.ty n)
  | _ => none
theorem RelV.abs {x : V} {u : Value} (r : RelV x u) : absV u = some x := by
  cases x with
  | non => cases r; rfl
  | bl _ => cases r; rfl
  | int _ => obtain ⟨t, rfl⟩ := r; rfl
  | str _ => obtain ⟨t, rfl⟩ := r; rfl
  | byt _ => obtain ⟨t, rfl⟩ := r; rfl
  | flt _ => obtain ⟨t, rfl⟩ := r; rfl
  | ref _ => cases r; rfl
  | ty _ => cases r; rfl
theorem RelV.inj {x y : V} {u : Value} (r : RelV x u) (q : RelV y u) : x = y := Option.some.inj (r.abs.symm.trans q.abs)
theorem Vals.inj : ∀ {xs ys : List V} {us : List Value}, Vals xs us → Vals ys us → xs = ys
  | _, _, _, .nil, .nil => rfl
  | _, _, _, .cons r t, .cons r' t' => by rw [r.inj r', Vals.inj t t']
section
variable {X : Cx} {pins : List (Addr × Obj)} {σ : St} {H : Hp} {s : Shared} {a : Addr} {xs ys : List V}
theorem SqL.of {K : PySem.W.Frag} (h : H a = some (.lst xs)) : SqL K H a xs := .inl (.inl h)
theorem SqT.of {K : PySem.W.Frag} (h : H a = some (.tup xs)) : SqT K H a xs := .inl (.inl h)
theorem Inv.list (I : Inv X pins σ H s) (h : SqL X.K H a xs) : ∃ its : List Value, Vals xs its ∧ PlainL s.heap a its.toArray ∧ xs.length ≤ sizeLine := by
  rcases h with h | ⟨o, its, n, hk, hc, hd, hs, hz, r⟩
  · obtain ⟨z, its, n, r, e⟩ := h.ok I.hok
    exact ⟨its, r, ⟨_, n, e, rfl, rfl, rfl⟩, z⟩
  · refine ⟨its.toList, r, ⟨o, n, I.kIn a o hk, hc, hd, by simpa using hs⟩, ?_⟩
    have e := r.length
    simp only [Array.length_toList] at e
    omega
theorem Inv.tuple (I : Inv X pins σ H s) (h : SqT X.K H a xs) : ∃ its : List Value, Vals xs its ∧ IsTup s.heap a its.toArray ∧ xs.length ≤ sizeLine := by
  rcases h with h | ⟨o, its, n, hk, hc, _, hs, hz, r⟩
  · obtain ⟨z, its, r, p⟩ := h.ok I.hok
    exact ⟨its, r, p.tup, z⟩
  · refine ⟨its.toList, r, ⟨o, I.kIn a o hk, hc, n, by simpa using hs⟩, ?_⟩
    have e := r.length
    simp only [Array.length_toList] at e
    omega
theorem Inv.list_inj (I : Inv X pins σ H s) (h : SqL X.K H a xs) (h' : SqL X.K H a ys) : xs = ys := by
  obtain ⟨its, r, ⟨o, n, e, _, _, d⟩, _⟩ := I.list h
  obtain ⟨its', r', ⟨o', n', e', _, _, d'⟩, _⟩ := I.list h'
  rw [e] at e'; cases e'
  rw [d] at d'
  injection d' with d1 _
  have : its = its' := by simpa using congrArg Array.toList d1
  subst this
  exact r.inj r'
theorem Inv.tuple_inj (I : Inv X pins σ H s) (h : SqT X.K H a xs) (h' : SqT X.K H a ys) : xs = ys := by
  obtain ⟨its, r, ⟨o, e, _, n, d⟩, _⟩ := I.tuple h
  obtain ⟨its', r', ⟨o', e', _, n', d'⟩, _⟩ := I.tuple h'
  rw [e] at e'; cases e'
  rw [d] at d'
  injection d' with d1 _
  have : its = its' := by simpa using congrArg Array.toList d1
  subst this
  exact r.inj r'
end


abbrev Cx.wish (X : Cx) (E : Value → Shared → Prop) : Cx := { X with xe := E }

abbrev Cx.nox (X : Cx) : Cx := X.wish fun _ _ => False
theorem Cx.Ok.wish {X : Cx} (ok : X.Ok) (E : Value → Shared → Prop) : (X.wish E).Ok :=
  ⟨ok.mod, ok.kind, ok.glob, ok.blt, ok.above, ok.inj, ok.has, ok.cab, ok.hd, ok.frames, ok.stk, ok.exf, ok.bs, ok.bsz, ok.noex, ok.exfs, ok.funs, ok.frf⟩
theorem Cx.Ok.unwish {X : Cx} {E : Value → Shared → Prop} (ok : (X.wish E).Ok) : X.Ok :=
  ⟨ok.mod, ok.kind, ok.glob, ok.blt, ok.above, ok.inj, ok.has, ok.cab, ok.hd, ok.frames, ok.stk, ok.exf, ok.bs, ok.bsz, ok.noex, ok.exfs, ok.funs, ok.frf⟩
section
variable {X : Cx} {pins : List (Addr × Obj)} {σ : St} {H : Hp} {s : Shared} {E : Value → Shared → Prop}
theorem Inv.wish (I : Inv X pins σ H s) (E : Value → Shared → Prop) : Inv (X.wish E) pins σ H s := ⟨I.ok.wish E, I.os, I.bare, I.base, I.loc, I.cell, I.free, I.freeC, I.pin, I.hok, I.len⟩
theorem Inv.unwish (I : Inv (X.wish E) pins σ H s) : Inv X pins σ H s := ⟨I.ok.unwish, I.os, I.bare, I.base, I.loc, I.cell, I.free, I.freeC, I.pin, I.hok, I.len⟩
theorem SP.unwish {D : Ends} {f : Flow} {s' : Shared} (h : SP (X.wish E) pins D f s') : SP X pins D f s' := by
  cases f with
  | next => obtain ⟨σ', H', I, q⟩ := h; exact ⟨σ', H', I.unwish, q⟩
  | brk => obtain ⟨σ', H', I, q⟩ := h; exact ⟨σ', H', I.unwish, q⟩
  | cont => obtain ⟨σ', H', I, q⟩ := h; exact ⟨σ', H', I.unwish, q⟩
  | ret u => obtain ⟨v, σ', H', I, r, q⟩ := h; exact ⟨v, σ', H', I.unwish, r, q⟩
theorem PE.nox {e : Expr} {t : TE} (h : PE X.nox e t) : PE X e t := fun pins s σ H Q I hw =>
  wpAny_mono (h pins s σ H Q (I.wish _) hw) (fun _ _ ⟨v, H', I', r, q⟩ => ⟨v, H', I'.unwish, r, q⟩) fun _ _ z => False.elim z
theorem PT.nox {e : Expr} {t : TT} (h : PT X.nox e t) : PT X e t := fun pins s σ H Q I hw =>
  wpAny_mono (h pins s σ H Q (I.wish _) hw) (fun _ _ ⟨H', I', q⟩ => ⟨H', I'.unwish, q⟩) fun _ _ z => False.elim z
theorem PSs.nox {st : List Stmt} {t : TS} (h : PSs X.nox st t) : PSs X st t := fun pins s σ H D I hw =>
  wpAny_mono (h pins s σ H D (I.wish _) hw) (fun _ _ q => q.unwish) fun _ _ z => False.elim z
end


section
variable {X : Cx} {st : Stmt} {rest : List Stmt} {t u : TS} {e : Expr} {te : TE} {pos : Pos}
def tNext : TS := fun D σ H => D.nx σ H
def tSeq (t u : TS) : TS := fun D σ H => t { D with nx := u D } σ H
theorem pss_nil : PSs X [] tNext := fun _ _ σ H _ I h => wpAny_execs_nil ⟨σ, H, I, h⟩
theorem pss_cons (h1 : PS X st t) (h2 : PSs X rest u) : PSs X (st :: rest) (tSeq t u) := by
  intro pins s σ H D I h
  refine wpAny_execs_cons (thn (h1 pins s σ H { D with nx := u D } I h) fun f s1 q => ?_)
  cases f with
  | next =>
    obtain ⟨σ', H', I', q⟩ := q
    exact h2 pins s1 σ' H' D I' q
  | ret v => exact q
  | brk => exact q
  | cont => exact q
theorem pss_one (h1 : PS X st t) : PSs X [st] t := by
  intro pins s σ H D I h
  refine wpAny_execs_cons (thn (h1 pins s σ H D I h) fun f s1 q => ?_)
  cases f with
  | next => exact wpAny_execs_nil q
  | ret v => exact q
  | brk => exact q
  | cont => exact q
def tBreak : TS := fun D σ H => D.bk σ H
def tCont : TS := fun D σ H => D.ct σ H
theorem Inv.quiet {pins : List (Addr × Obj)} {σ : St} {H : Hp} {s : Shared} (I : Inv X pins σ H s) : interactive X.env = false := by simp [interactive, I.ok.kind]

def tDrop (te : TE) : TS := fun D σ H => te σ H fun _ H1 => D.nx σ H1
theorem ps_expr (he : PE X e te) (hs : swapsWith e none pos.line X.env = pure false := by rfl) : PS X (.Expr e pos) (tDrop te) := by
  intro pins s σ H D I h
  exact wpAny_Expr_any (thn (he pins s σ H _ I h) fun v s1 ⟨x, H1, I1, r1, q1⟩ => ⟨σ, H1, I1, q1⟩) I.quiet hs
def tRet (te : TE) : TS := fun D σ H => te σ H D.rt
theorem ps_ret (he : PE X e te) : PS X (.Return (some e) pos) (tRet te) := by
  intro pins s σ H D I h
  exact wpAny_Return_some (thn (he pins s σ H _ I h) fun v s1 ⟨x, H1, I1, r1, q1⟩ => ⟨x, σ, H1, I1, r1, q1⟩)
def tRetN : TS := fun D _ H => D.rt .non H
def tIfS (c : TT) (t u : TS) : TS := fun D σ H => c σ H fun b H1 => if b = true then t D σ H1 else u D σ H1
theorem ps_if {c : Expr} {a b : List Stmt} {tc : TT} (hc : PT X c tc) (ha : PSs X a t) (hb : PSs X b u) : PS X (.If c a b pos) (tIfS tc t u) := by
  intro pins s σ H D I h
  refine wpAny_If (thn (hc pins s σ H _ I h) fun d s1 ⟨H1, I1, q1⟩ => ?_)
  cases d with
  | true => exact ha pins s1 σ H1 D I1 q1
  | false => exact hb pins s1 σ H1 D I1 q1

def tNever : TS := fun _ _ _ => False
theorem ps_never : PS X st tNever := fun _ _ _ _ _ _ h => h.elim
end


abbrev TG := V → St → Hp → (St → Hp → Prop) → Prop
abbrev TGs := List V → St → Hp → (St → Hp → Prop) → Prop
def PG (X : Cx) (target : Expr) (t : TG) : Prop :=
  ∀ (pins : List (Addr × Obj)) (s : Shared) (σ : St) (H : Hp) (v : V) (u : Value) (Q : St → Hp → Prop), Inv X pins σ H s → RelV v u → t v σ H Q →
    wpAny (model X.prog X.w) X.A (assign target X.env u) (fun _ s' => ∃ σ' H', Inv X pins σ' H' s' ∧ Q σ' H') X.xe s

def PGs (X : Cx) (ts : List Expr) (t : TGs) : Prop :=
  ∀ (pins : List (Addr × Obj)) (s : Shared) (σ : St) (H : Hp) (vs : List V) (us : List Value) (Q : St → Hp → Prop), Inv X pins σ H s → Vals vs us → t vs σ H Q →
    wpAny (model X.prog X.w) X.A (assignInOrder ((assignEach ts X.env).map (·.2)) us) (fun _ s' => ∃ σ' H', Inv X pins σ' H' s' ∧ Q σ' H') X.xe s

abbrev TSet := V → V → V → Hp → (Hp → Prop) → Prop
def PSet (X : Cx) (t : TSet) : Prop :=
  ∀ (pins : List (Addr × Obj)) (s : Shared) (σ : St) (H : Hp) (o i v : V) (ov iv u : Value) (Q : Hp → Prop), Inv X pins σ H s → RelV o ov → RelV i iv → RelV v u → t o i v H Q →
    wpAny (model X.prog X.w) X.A (setItem ov iv u) (fun _ s' => ∃ H', Inv X pins σ H' s' ∧ Q H') X.xe s

abbrev TIp := V → V → Hp → VK → Prop
def PIp (X : Cx) (op : Operator) (t : TIp) : Prop :=
  ∀ (pins : List (Addr × Obj)) (s : Shared) (σ : St) (H : Hp) (x y : V) (v u : Value) (Q : VK), Inv X pins σ H s → RelV x v → RelV y u → t x y H Q →
    wpAny (model X.prog X.w) X.A (inplaceOp op v u) (EP X pins σ Q) X.xe s
section
variable {X : Cx} {pos : Pos}
def gName (i : Nat) : TG := fun v σ H Q => Q (σ.set i (some v)) H
theorem pg_name {i : Nat} {x : Str} (hN : X.N.Nodup) (hi : X.N[i]? = some x) (hx : Loc X.env.scope x) (hf : X.fn x = true ∨ X.env.scope.names.lookup x = some .local := by first | exact .inl rfl | exact .inr rfl | assumption) : PG X (.Name x pos) (gName i) := by
  intro pins s σ H v u Q I r h
  exact wpAny_assign_Name (store_ok I hN hi hx r (fun s' I' => ⟨_, H, I', h⟩) hf)
def gNil : TGs := fun vs σ H Q => vs = [] ∧ Q σ H
def gCons (t : TG) (u : TGs) : TGs := fun vs σ H Q => ∃ v r, vs = v :: r ∧ t v σ H fun σ' H' => u r σ' H' Q
theorem pgs_nil : PGs X [] gNil := by
  intro pins s σ H vs us Q I r h
  obtain ⟨e, h⟩ := h
  subst e
  cases r
  exact assignInOrder_nil ⟨σ, H, I, h⟩
theorem pgs_cons {e : Expr} {es : List Expr} {t : TG} {u : TGs} (h1 : PG X e t) (h2 : PGs X es u)
    (hs : (assignEach (e :: es) X.env).map (·.2) = assign e X.env :: (assignEach es X.env).map (·.2) := by rfl) : PGs X (e :: es) (gCons t u) := by
  intro pins s σ H vs us Q I r h
  obtain ⟨v, vr, e1, h⟩ := h
  subst e1
  cases r with
  | cons r rr =>
    rw [hs]
    refine assignInOrder_cons (thn (h1 pins s σ H _ _ _ I r h) fun _ s1 ⟨σ1, H1, I1, q1⟩ => ?_)
    exact h2 pins s1 σ1 H1 _ _ Q I1 rr q1

def gTup (K : PySem.W.Frag) (n : Nat) (t : TGs) : TG := fun v σ H Q => ∃ a xs, v = .ref a ∧ SqT K H a xs ∧ xs.length = n ∧ t xs σ H Q
theorem pg_tup {es : List Expr} {k : Nat} {t : TGs} {n : Nat} (hc : X.calm = true) (h : PGs X es t)
    (hn : (assignEach es X.env).length = n := by rfl) (hst : (assignEach es X.env).findIdx? (·.1) = none := by rfl) : PG X (.Tuple es k pos) (gTup X.K n t) := by
  intro pins s σ H v u Q I r hw
  obtain ⟨a, xs, e1, hq, hl, hw⟩ := hw
  subst e1
  cases r
  obtain ⟨its, rv, ht, hz⟩ := I.tuple hq
  refine assign_Tuple_tuple (I.ok.hd hc) ht (by simp [hn, ← hl, rv.length]) hst fun h' hx => ?_
  have I1 : Inv X pins σ H { s with heap := h' } := I.kept (t' := s.toks) fun b o e => hx b o (Nat.ne_of_lt (Heap.lt_size e)) e
  exact h pins _ σ H xs _ Q I1 (by simpa using rv) hw

def gSub (to ti : TE) (t : TSet) : TG := fun v σ H Q => to σ H fun o H1 => ti σ H1 fun i H2 => t o i v H2 fun H3 => Q σ H3
def tAsg (te : TE) (g : TG) : TS := fun D σ H => te σ H fun x H1 => g x σ H1 D.nx
theorem ps_set {i : Nat} {x : Str} {e : Expr} {te : TE} {pos' : Pos} (hN : X.N.Nodup) (hi : X.N[i]? = some x) (hx : Loc X.env.scope x) (he : PE X e te) (hs : swapsWith e (some (.Name x pos')) pos.line X.env = pure false := by rfl) (hf : X.fn x = true ∨ X.env.scope.names.lookup x = some .local := by first | exact .inl rfl | exact .inr rfl | assumption) :
    PS X (.Assign [.Name x pos'] e pos) (tAsg te (gName i)) := by
  intro pins s σ H D I h
  refine wpAny_Assign_Name (thn (he pins s σ H _ I h) fun v s1 ⟨y, H1, I1, r1, q1⟩ => ?_) hs
  exact store_ok I1 hN hi hx r1 (fun s2 I2 => ⟨_, H1, I2, q1⟩) hf

def tPar (i j : Nat) (ta : TA) : TS := fun D σ H => ta σ H fun vs H1 => ∃ v w, vs = [v, w] ∧ D.nx ((σ.set i (some v)).set j (some w)) H1
def tAug (i : Nat) (te : TE) (ti : TIp) : TS := fun D σ H => ∃ x, σ[i]? = some (some x) ∧ te σ H fun y H1 => ti x y H1 fun z H2 => D.nx (σ.set i (some z)) H2
def tAugS (to ti te : TE) (tget : V → V → Hp → VK → Prop) (tip : TIp) (tset : TSet) : TS := fun D σ H => to σ H fun o H1 => ti σ H1 fun i H2 => tget o i H2 fun x H3 => te σ H3 fun y H4 => tip x y H4 fun z H5 => tset o i z H5 fun H6 => D.nx σ H6

def PGet (X : Cx) (t : V → V → Hp → VK → Prop) : Prop :=
  ∀ (pins : List (Addr × Obj)) (s : Shared) (σ : St) (H : Hp) (o i : V) (ov iv : Value) (Q : VK), Inv X pins σ H s → RelV o ov → RelV i iv → t o i H Q →
    wpAny (model X.prog X.w) X.A (getItem ov iv) (EP X pins σ Q) X.xe s
def ipI (f : Int → Int → Int) : TIp := fun x y H Q => ∃ i j, x = .int i ∧ y = .int j ∧ Q (.int (f i j)) H
end


section
variable {X : Cx} {pos : Pos}

def tWhile (c : TT) (tb : TS) : TS := fun D σ H => ∃ W : Nat → St → Hp → Prop, (∃ m, W m σ H) ∧ ∀ m σ H, W m σ H →
  c σ H fun b H1 => if b = true then ∃ N : St → Hp → Prop, (∀ σ' H', N σ' H' → ∃ m', m' < m ∧ W m' σ' H') ∧ tb { D with nx := N, ct := N, bk := D.nx } σ H1 else D.nx σ H1
theorem ps_while {c : Expr} {body : List Stmt} {tc : TT} {tb : TS} (hp : PassesOwn (model X.prog X.w) X.A X.env X.xe) (hc : PT X c tc) (hb : PSs X body tb) : PS X (.While c body [] pos) (tWhile tc tb) := by
  intro pins s σ H D I h
  obtain ⟨W, ⟨m0, w0⟩, turn⟩ := h
  refine wpAny_While (codeAny_whileLoop (fun n s' => ∃ σ' H', Inv X pins σ' H' s' ∧ W n σ' H') ?_ m0 ⟨σ, H, I, w0⟩)
  rintro n s1 ⟨σ1, H1, I1, w1⟩
  refine wpAny_passesOwn hp (thn (hc pins s1 σ1 H1 _ I1 (turn n σ1 H1 w1)) fun b s2 ⟨H2, I2, q2⟩ => ?_)
  cases b with
  | true =>
    obtain ⟨N, hN, q2⟩ := q2
    rw [if_pos rfl]
    refine wpAny_passesOwn hp (thn (hb pins s2 σ1 H2 _ I2 q2) fun f s3 q3 => ?_)
    cases f with
    | next =>
      obtain ⟨σ3, H3, I3, n3⟩ := q3
      obtain ⟨m', hm, w3⟩ := hN σ3 H3 n3
      exact ⟨m', hm, σ3, H3, I3, w3⟩
    | cont =>
      obtain ⟨σ3, H3, I3, n3⟩ := q3
      obtain ⟨m', hm, w3⟩ := hN σ3 H3 n3
      exact ⟨m', hm, σ3, H3, I3, w3⟩
    | brk => exact q3
    | ret v => exact q3
  | false =>
    rw [if_neg Bool.false_ne_true]
    exact wpAny_execs_nil ⟨σ1, H2, I2, q2⟩
end



structure It where
  go : Nat → Hp → Prop
  yld : Nat → Hp → V → Hp → Prop
  stop : Nat → Hp → Prop

def FpOk (X : Cx) (pins : List (Addr × Obj)) (H : Hp) (b : Addr) : Prop :=
  H b = none ∧ b ≠ X.env.locals ∧ b ∉ X.fs ∧ (b ∈ X.ex ∨ X.s₀.heap.objs.size ≤ b) ∧ (∀ x c, X.env.cells.lookup x = some c → c ≠ b) ∧ ∀ p ∈ X.pn ++ pins, p.1 ≠ b
theorem Inv.fpOk {X : Cx} {pins : List (Addr × Obj)} {σ : St} {H H' : Hp} {s : Shared} {b : Addr} (I : Inv X pins σ H s) (hb : s.heap.objs.size ≤ b) (hn : H' b = none) : FpOk X pins H' b := by
  refine ⟨hn, Nat.ne_of_gt (Nat.lt_of_lt_of_le I.lt hb), I.nofs hb, .inr (Nat.le_trans I.sz hb), fun x c e z => ?_, fun p hp z => ?_⟩
  · obtain ⟨v, q⟩ := I.cell x c e
    exact absurd (Nat.lt_of_lt_of_le q.lt (by rw [z]; exact hb)) (Nat.lt_irrefl _)
  · exact absurd (Nat.lt_of_lt_of_le (Heap.lt_size (I.pin p hp).1) (by rw [z]; exact hb)) (Nat.lt_irrefl _)
structure Turn (P : Program) (w : World) (K : PySem.W.Frag) (tg : Expr) (J : It) (fp : List Addr) (it : Addr) (tn : Nat → Heap → Prop) : Prop where
  mem : it ∈ fp
  obj : ∀ i h, tn i h → ∀ b ∈ fp, ∃ o, h.get? b = some o ∧ ∀ v, o.data ≠ .cell v
  keep : ∀ i h h', tn i h → (∀ b ∈ fp, ∀ o, h.get? b = some o → h'.get? b = some o) → tn i h'
  item : ∀ (X : Cx), X.prog = P → X.w = w → X.K = K → X.calm = true → ∀ (i : Nat) (pins : List (Addr × Obj)) (s : Shared) (σ : St) (H : Hp) (E : Value → Shared → Prop), Inv X pins σ H s → (∀ b ∈ fp, FpOk X pins H b) → tn i s.heap → J.go i H →
    wpAny (model P w) X.A (pyNext (.ref it)) (fun r s1 => ∃ u, r = some u ∧
      wpAny (model P w) X.A (letOwnedTupleGo tg (.ref it) u) (fun _ s2 => ∃ x H', Inv X pins σ H' s2 ∧ RelV x u ∧ J.yld i H x H' ∧ tn (i + 1) s2.heap ∧ ∀ b ∈ fp, H' b = none) E s1) E s
  done : ∀ (X : Cx), X.prog = P → X.w = w → X.K = K → X.calm = true → ∀ (i : Nat) (pins : List (Addr × Obj)) (s : Shared) (σ : St) (H : Hp) (E : Value → Shared → Prop), Inv X pins σ H s → (∀ b ∈ fp, FpOk X pins H b) → tn i s.heap → J.stop i H →
    wpAny (model P w) X.A (pyNext (.ref it)) (fun r s1 => r = none ∧ Inv X pins σ H s1) E s
  self : ∀ (A : Around) (i : Nat) (s : Shared) (Q : Value → Shared → Prop) (E : Value → Shared → Prop), tn i s.heap → Q (.ref it) s → wpAny (model P w) A (pyIter (.ref it)) Q E s
abbrev TI := St → Hp → (It → Hp → Prop) → Prop

def PIE (X : Cx) (pins : List (Addr × Obj)) (σ : St) (tg : Expr) (R : It → Hp → Prop) (itv : Value) (s2 : Shared) : Prop :=
  ∃ (it : Addr) (fp : List Addr) (tn : Nat → Heap → Prop) (J : It) (H' : Hp), itv = .ref it ∧ Inv X pins σ H' s2 ∧ Turn X.prog X.w X.K tg J fp it tn ∧ tn 0 s2.heap ∧ (∀ b ∈ fp, FpOk X pins H' b) ∧ R J H'
def PI (X : Cx) (tg iter : Expr) (wi : TI) : Prop :=
  ∀ (pins : List (Addr × Obj)) (s : Shared) (σ : St) (H : Hp) (R : It → Hp → Prop), Inv X pins σ H s → wi σ H R →
    wpAny (model X.prog X.w) X.A (eval iter X.env) (fun v s1 => wpAny (model X.prog X.w) X.A (pyIter v) (PIE X pins σ tg R) X.xe s1) X.xe s


theorem go_of {M : Model} {A : Around} {E : Value → Shared → Prop} {s : Shared} {tg : Expr} {it : Addr} {u : Value} {o : Obj} {n : String} {vs : Array Value} {Q : Unit → Shared → Prop} (ho : s.heap.get? it = some o) (hc : o.cls = .type n) (hd : o.data = .fields vs)
    (hn : ["enumerate", "zip", "dict_itemiterator", "dict_reverseitemiterator", "odict_iterator", "itertools.zip_longest", "itertools.pairwise"].contains n = false) (hQ : Q () s) : wpAny M A (letOwnedTupleGo tg (.ref it) u) Q E s := by
  unfold letOwnedTupleGo
  cases tg <;> first
    | exact wpAny_pure hQ
    | (cases u <;> first
        | exact wpAny_pure hQ
        | (refine wpAny_bind (wpAny_load ho ?_)
           rw [hc, hd]
           show wpAny M A (if (["enumerate", "zip", "dict_itemiterator", "dict_reverseitemiterator", "odict_iterator", "itertools.zip_longest", "itertools.pairwise"].contains n && vs[0]? == some (rawInt _)) = true then _ else _) Q E s
           rw [if_neg (by intro h; rw [hn, Bool.false_and] at h; cases h)]
           exact wpAny_pure hQ))


def Itl (K : PySem.W.Frag) (a : Addr) : It :=
  ⟨fun i H => ∃ xs x, SqL K H a xs ∧ xs[i]? = some x, fun i H x H' => H' = H ∧ ∀ xs, SqL K H a xs → xs[i]? = some x, fun i H => ∃ xs, SqL K H a xs ∧ xs.length ≤ i⟩
def Itt (K : PySem.W.Frag) (a : Addr) : It :=
  ⟨fun i H => ∃ xs x, SqT K H a xs ∧ xs[i]? = some x, fun i H x H' => H' = H ∧ ∀ xs, SqT K H a xs → xs[i]? = some x, fun i H => ∃ xs, SqT K H a xs ∧ xs.length ≤ i⟩

def Itr (lo : Int) (n : Nat) : It := ⟨fun i _ => i < n, fun i H x H' => H' = H ∧ x = .int (lo + i), fun i _ => n ≤ i⟩
theorem turn_list {P : Program} {w : World} {K : PySem.W.Frag} {tg : Expr} (a it : Addr) : Turn P w K tg (Itl K a) [it] it (fun i h => h.IsListIter it a i) where
  mem := by simp
  obj := fun i h st b hb => by
    have e : b = it := by simpa using hb
    subst e
    obtain ⟨o, e, c, d⟩ := st
    exact ⟨o, e, fun v z => by rw [d] at z; cases z⟩
  keep := fun i h h' st k => st.at fun o e => k it (by simp) o e
  item := by
    intro X hP hw hK hc i pins s σ H E I hf st hg
    subst hP hw hK
    obtain ⟨xs, x, hq, hx⟩ := hg
    obtain ⟨its, rv, p, hz⟩ := I.list hq
    obtain ⟨u, hu, ru⟩ := rv.get hx
    obtain ⟨f0, f1, f2, f3, f4, f5⟩ := hf it (by simp)
    refine wpAny_pyNext_list_item st p.isList (x := u) (by simpa using hu) fun h' st' sb => ?_
    have I1 : Inv X pins σ H { s with heap := h' } := I.turned (t' := s.toks) (fun b o hb e => (sb.2 b hb).trans e) f0 f1 f3 f4 f5
    obtain ⟨o, e, c, d⟩ := id st'
    exact ⟨u, rfl, go_of (s := { s with heap := h' }) e c d (by decide) ⟨x, H, I1, ru, ⟨rfl, fun ys hy => by rw [I.list_inj hy hq]; exact hx⟩, st', fun b hb => (hf b hb).1⟩⟩
  done := by
    intro X hP hw hK hc i pins s σ H E I hf st hg
    subst hP hw hK
    obtain ⟨xs, hq, hx⟩ := hg
    obtain ⟨its, rv, p, hz⟩ := I.list hq
    obtain ⟨f0, f1, f2, f3, f4, f5⟩ := hf it (by simp)
    have hl := rv.length
    exact wpAny_pyNext_list_end (I.ok.hd hc) st p.isList (by simp; omega) fun h' eb => ⟨rfl, I.turned (t' := s.toks) (fun b o hb e => eb b o hb e) f0 f1 f3 f4 f5⟩
  self := fun _ _ _ _ _ st h => wpAny_pyIter_listiter st h
theorem turn_tuple {P : Program} {w : World} {K : PySem.W.Frag} {tg : Expr} (a it : Addr) : Turn P w K tg (Itt K a) [it] it (fun i h => h.IsTupleIter it a i) where
  mem := by simp
  obj := fun i h st b hb => by
    have e : b = it := by simpa using hb
    subst e
    obtain ⟨o, e, c, d⟩ := st
    exact ⟨o, e, fun v z => by rw [d] at z; cases z⟩
  keep := fun i h h' st k => st.at fun o e => k it (by simp) o e
  item := by
    intro X hP hw hK hc i pins s σ H E I hf st hg
    subst hP hw hK
    obtain ⟨xs, x, hq, hx⟩ := hg
    obtain ⟨its, rv, p, hz⟩ := I.tuple hq
    obtain ⟨u, hu, ru⟩ := rv.get hx
    obtain ⟨f0, f1, f2, f3, f4, f5⟩ := hf it (by simp)
    refine wpAny_pyNext_tuple_item st (show s.heap.IsTuple a its.toArray from p) (x := u) (by simpa using hu) fun h' st' sb => ?_
    have I1 : Inv X pins σ H { s with heap := h' } := I.turned (t' := s.toks) (fun b o hb e => (sb.2 b hb).trans e) f0 f1 f3 f4 f5
    obtain ⟨o, e, c, d⟩ := id st'
    exact ⟨u, rfl, go_of (s := { s with heap := h' }) e c d (by decide) ⟨x, H, I1, ru, ⟨rfl, fun ys hy => by rw [I.tuple_inj hy hq]; exact hx⟩, st', fun b hb => (hf b hb).1⟩⟩
  done := by
    intro X hP hw hK hc i pins s σ H E I hf st hg
    subst hP hw hK
    obtain ⟨xs, hq, hx⟩ := hg
    obtain ⟨its, rv, p, hz⟩ := I.tuple hq
    obtain ⟨f0, f1, f2, f3, f4, f5⟩ := hf it (by simp)
    have hl := rv.length
    exact wpAny_pyNext_tuple_end (I.ok.hd hc) st (show s.heap.IsTuple a its.toArray from p) (by simp; omega) fun h' eb => ⟨rfl, I.turned (t' := s.toks) (fun b o hb e => eb b o hb e) f0 f1 f3 f4 f5⟩
  self := fun _ _ _ _ _ st h => wpAny_pyIter_tupleiter st h
theorem turn_range {P : Program} {w : World} {K : PySem.W.Frag} {tg : Expr} (it : Addr) (lo : Int) (n : Nat) : Turn P w K tg (Itr lo n) [it] it (fun i h => IsRangeIter h it (lo + (i : Nat) * 1) ((n : Int) - (i : Nat)) 1) where
  mem := by simp
  obj := fun i h st b hb => by
    have e : b = it := by simpa using hb
    subst e
    exact ⟨_, st, fun v z => by
      have z' : Data.fields _ = Data.cell v := z
      cases z'⟩
  keep := fun i h h' st k => k it (by simp) _ st
  item := by
    intro X hP hw hK hc i pins s σ H E I hf st hg
    subst hP hw hK
    obtain ⟨f0, f1, f2, f3, f4, f5⟩ := hf it (by simp)
    have W := Walks.range (prog := X.prog) (w := X.w) (I.ok.hd hc) it lo 1 n
    refine W.item i s _ _ hg st fun v h' tk hv st' kk => ?_
    obtain ⟨t, rfl⟩ := hv
    have I1 : Inv X pins σ H { s with heap := h', toks := tk } := I.turned (fun b o hb e => kk b o (by simpa using hb) e) f0 f1 f3 f4 f5
    refine ⟨_, rfl, go_of (s := { s with heap := h', toks := tk }) (n := "range_iterator") st' rfl rfl (by decide) ⟨.int (lo + i), H, I1, ⟨t, ?_⟩, ⟨rfl, rfl⟩, st', fun b hb => (hf b hb).1⟩⟩
    rw [Int.mul_one]
  done := by
    intro X hP hw hK hc i pins s σ H E I hf st hg
    subst hP hw hK
    obtain ⟨f0, f1, f2, f3, f4, f5⟩ := hf it (by simp)
    exact wpAny_pyNext_range_end (I.ok.hd hc) st (by have : n ≤ i := hg; omega) fun h' eb => ⟨rfl, I.turned (t' := s.toks) (fun b o hb e => eb b o hb e) f0 f1 f3 f4 f5⟩
  self := fun _ _ _ _ _ st h => wpAny_pyIter_rangeiter st h
end L2

namespace L2
open PySem PySem.Spec PyProof.Rows
section
variable {X : Cx} {tg : Expr}
def iList (K : PySem.W.Frag) (tl : TE) : TI := fun σ H R => tl σ H fun x H1 => ∃ a, x = .ref a ∧ (∃ xs, SqL K H1 a xs) ∧ R (Itl K a) H1
def iTup (K : PySem.W.Frag) (tl : TE) : TI := fun σ H R => tl σ H fun x H1 => ∃ a, x = .ref a ∧ (∃ xs, SqT K H1 a xs) ∧ R (Itt K a) H1
theorem pi_list {l : Expr} {tl : TE} (hl : PE X l tl) : PI X tg l (iList X.K tl) := by
  intro pins s σ H R I h
  refine thn (hl pins s σ H _ I h) fun v s1 ⟨x, H1, I1, r1, q1⟩ => ?_
  obtain ⟨a, e, ⟨xs, hq⟩, q⟩ := q1
  subst e
  cases r1
  obtain ⟨its, rv, p, hz⟩ := I1.list hq
  refine wpAny_pyIter_list p.isList ?_
  refine ⟨s1.heap.objs.size, [s1.heap.objs.size], _, _, H1, rfl, I1.kept (t' := s1.toks) fun b o e => Heap.get?_push_of_some _ e, turn_list a _, ⟨_, Heap.get?_push_size _ rfl, rfl, rfl⟩, fun b hb => ?_, q⟩
  have e : b = s1.heap.objs.size := by simpa using hb
  subst e
  exact I1.fpOk (Nat.le_refl _) (I1.hok.fresh (Nat.le_refl _))
theorem pi_tup {l : Expr} {tl : TE} (hl : PE X l tl) : PI X tg l (iTup X.K tl) := by
  intro pins s σ H R I h
  refine thn (hl pins s σ H _ I h) fun v s1 ⟨x, H1, I1, r1, q1⟩ => ?_
  obtain ⟨a, e, ⟨xs, hq⟩, q⟩ := q1
  subst e
  cases r1
  obtain ⟨its, rv, p, hz⟩ := I1.tuple hq
  refine wpAny_pyIter_tuple (show s1.heap.IsTuple a its.toArray from p) ?_
  refine ⟨s1.heap.objs.size, [s1.heap.objs.size], _, _, H1, rfl, I1.kept (t' := s1.toks) fun b o e => Heap.get?_push_of_some _ e, turn_tuple a _, ⟨_, Heap.get?_push_size _ rfl, rfl, rfl⟩, fun b hb => ?_, q⟩
  have e : b = s1.heap.objs.size := by simpa using hb
  subst e
  exact I1.fpOk (Nat.le_refl _) (I1.hok.fresh (Nat.le_refl _))

theorem range_it {pins : List (Addr × Obj)} {σ : St} {H : Hp} {s : Shared} {R : It → Hp → Prop} {E : Value → Shared → Prop} {lo hi : Int} {t u v : Tok} {tk : Nat} (I : Inv X pins σ H s) (h1 : -(2 ^ 62) ≤ lo) (h2 : lo < 2 ^ 62) (h3 : -(2 ^ 62) ≤ hi) (h4 : hi < 2 ^ 62)
    (q : R (Itr lo (hi - lo).toNat) H) : wpAny (model X.prog X.w) X.A (pyIter (.ref s.heap.objs.size)) (PIE X pins σ tg R) E { s with heap := s.heap.push { cls := .type "range", data := .fields #[.int lo t, .int hi u, .int 1 v] }, toks := tk } := by
  refine wpAny_pyIter_range (IsRange.new ..) (small_one h1 h2 h3 h4) ?_
  have I1 : Inv X pins σ H { s with heap := s.heap.push { cls := .type "range", data := .fields #[.int lo t, .int hi u, .int 1 v] }, toks := tk } := I.kept fun b o e => Heap.get?_push_of_some _ e
  refine ⟨(s.heap.push { cls := .type "range", data := .fields #[.int lo t, .int hi u, .int 1 v] }).objs.size, [(s.heap.push { cls := .type "range", data := .fields #[.int lo t, .int hi u, .int 1 v] }).objs.size], _, _, H, rfl,
    I1.kept (t' := tk) fun b o e => Heap.get?_push_of_some _ e, turn_range _ lo (hi - lo).toNat, ?_, fun b hb => ?_, q⟩
  · have e1 : lo + ((0 : Nat) : Int) * 1 = lo := by simp
    have e2 : (((hi - lo).toNat : Nat) : Int) - ((0 : Nat) : Int) = Builtin.Range.rangeSize lo hi 1 := by rw [rangeSize_one]; split <;> omega
    show IsRangeIter _ _ (lo + ((0 : Nat) : Int) * 1) ((((hi - lo).toNat : Nat) : Int) - ((0 : Nat) : Int)) 1
    rw [e1, e2]
    exact Heap.get?_push_size _ rfl
  · have e : b = (s.heap.push { cls := .type "range", data := .fields #[.int lo t, .int hi u, .int 1 v] }).objs.size := by simpa using hb
    subst e
    exact I1.fpOk (Nat.le_refl _) (I1.hok.fresh (Nat.le_refl _))
def iRng1 (ta : TA) : TI := fun σ H R => ta σ H fun vs H1 => ∃ j : Int, vs = [.int j] ∧ -(2 ^ 62) ≤ j ∧ j < 2 ^ 62 ∧ R (Itr 0 j.toNat) H1
def iRng2 (ta : TA) : TI := fun σ H R => ta σ H fun vs H1 => ∃ i j : Int, vs = [.int i, .int j] ∧ (-(2 ^ 62) ≤ i ∧ i < 2 ^ 62 ∧ -(2 ^ 62) ≤ j ∧ j < 2 ^ 62) ∧ R (Itr i (j - i).toNat) H1
theorem pi_range1 {a : Expr} {ta : TA} {p pos : Pos} (hg : Gl X "range") (hm : X.mg "range" = none) (ha : PA X [a] ta) (hs : starEach [a] X.env = [(false, eval a X.env)] := by rfl) : PI X tg (.Call (.Name "range" p) [a] [] pos) (iRng1 ta) := by
  intro pins s σ H R I h
  refine Call_ (ld_blt I hg hm boot_range (PyProof.Rows.callWith_type1 (thn (ha pos pins s σ H _ I h) fun us s1 ⟨vs, H1, I1, r1, q1⟩ => ?_) hs rfl))
  obtain ⟨j, e, q1, q2, q⟩ := q1
  subst e
  cases r1 with
  | cons r rr =>
    cases rr
    obtain ⟨t, rfl⟩ := r
    exact call_range_1 (range_it I1 (by omega) (by omega) q1 q2 (by simpa using q))
def tFor (wi : TI) (g : TG) (tb : TS) : TS := fun D σ H => wi σ H fun J H1 => ∃ W : Nat → Nat → St → Hp → Prop, (∃ m, W 0 m σ H1) ∧ ∀ i m σ H, W i m σ H →
  (J.stop i H ∧ D.nx σ H) ∨ (J.go i H ∧ ∃ N : St → Hp → Prop, (∀ σ' H', N σ' H' → ∃ m', m' < m ∧ W (i + 1) m' σ' H') ∧ ∀ x H', J.yld i H x H' → g x σ H' fun σ2 H2 => tb { D with nx := N, ct := N, bk := D.nx } σ2 H2)

def pinsAt (fp : List Addr) (h : Heap) : List (Addr × Obj) := fp.filterMap fun b => (h.get? b).map fun o => (b, o)
theorem mem_pinsAt {fp : List Addr} {h : Heap} {b : Addr} {o : Obj} (hb : b ∈ fp) (e : h.get? b = some o) : (b, o) ∈ pinsAt fp h := List.mem_filterMap.mpr ⟨b, hb, by rw [e]; rfl⟩
theorem of_pinsAt {fp : List Addr} {h : Heap} {p : Addr × Obj} (hp : p ∈ pinsAt fp h) : p.1 ∈ fp ∧ h.get? p.1 = some p.2 := by
  obtain ⟨b, hb, e⟩ := List.mem_filterMap.mp hp
  cases q : h.get? b with
  | none => rw [q] at e; cases e
  | some o =>
    rw [q] at e
    have e' : (b, o) = p := Option.some.inj e
    subst e'
    exact ⟨hb, q⟩
theorem Inv.pinned {pins : List (Addr × Obj)} {σ : St} {H : Hp} {s : Shared} {fp : List Addr} (I : Inv X pins σ H s) (hf : ∀ b ∈ fp, FpOk X pins H b) (ho : ∀ b ∈ fp, ∃ o, s.heap.get? b = some o ∧ ∀ v, o.data ≠ .cell v) : Inv X (pins ++ pinsAt fp s.heap) σ H s :=
  I.pins_of fun p hp => (List.mem_append.mp hp).elim (fun z => I.pin p (List.mem_append_right _ z)) fun z => by
    obtain ⟨hb, e⟩ := of_pinsAt z
    obtain ⟨f0, f1, f2, _⟩ := hf p.1 hb
    obtain ⟨o, e', d⟩ := ho p.1 hb
    rw [e] at e'; cases e'
    exact ⟨e, f0, f1, f2, d⟩
theorem Inv.unpinned {pins pl : List (Addr × Obj)} {σ : St} {H : Hp} {s : Shared} (I : Inv X (pins ++ pl) σ H s) : Inv X pins σ H s := I.pins_of fun p hp => I.pin p (List.mem_append_right _ (List.mem_append_left _ hp))
theorem ps_for {iter : Expr} {body : List Stmt} {wi : TI} {g : TG} {tb : TS} {pos : Pos} (hp : PassesOwn (model X.prog X.w) X.A X.env X.xe) (hc : X.calm = true) (hi : PI X tg iter wi) (hg : PG X tg g) (hb : PSs X body tb)
    (hs : ∀ x, foldedSetIterable iter X.env x = pure x := by intro _; rfl) : PS X (.For tg iter body [] pos) (tFor wi g tb) := by
  intro pins s σ H D I h
  refine wpAny_For (thn (hi pins s σ H _ I h) fun v s1 h1 => thn h1 fun itv s2 h2 => ?_) hs
  obtain ⟨it, fp, tn, J, H2, e, I2, T, st2, f2, W, ⟨m0, w0⟩, turn⟩ := h2
  subst e
  have stat : ∀ {H' : Hp}, (∀ b ∈ fp, H' b = none) → ∀ b ∈ fp, FpOk X pins H' b := fun hn b hb => ⟨hn b hb, (f2 b hb).2⟩
  refine codeAny_forLoop_any (fun n s' => ∃ i σ' H', Inv X pins σ' H' s' ∧ tn i s'.heap ∧ (∀ b ∈ fp, H' b = none) ∧ W i n σ' H') ?_ m0 ⟨0, σ, H2, I2, st2, fun b hb => (f2 b hb).1, w0⟩
  rintro n s3 ⟨i, σ3, H3, I3, st3, fr3, w3⟩
  rcases turn i n σ3 H3 w3 with ⟨stop, qn⟩ | ⟨go, N, hN, step⟩
  · refine wpAny_passesOwn hp (thn (T.done X rfl rfl rfl hc i pins s3 σ3 H3 X.xe I3 (stat fr3) st3 stop) fun r s4 ⟨hr, I4⟩ => ?_)
    subst hr
    exact wpAny_execs_nil ⟨σ3, H3, I4, qn⟩
  · refine wpAny_passesOwn hp (thn (T.item X rfl rfl rfl hc i pins s3 σ3 H3 X.xe I3 (stat fr3) st3 go) fun r s4 ⟨u, hr, h4⟩ => ?_)
    subst hr
    refine wpAny_passesOwn hp (thn h4 fun _ s5 ⟨x, H5, I5, r5, y5, st5, fr5⟩ => ?_)
    have I5' := I5.pinned (stat fr5) (T.obj _ _ st5)
    refine wpAny_passesOwn hp (thn (hg _ s5 σ3 H5 x u _ I5' r5 (step x H5 y5)) fun _ s6 ⟨σ6, H6, I6, q6⟩ => ?_)
    refine wpAny_passesOwn hp (thn (hb _ s6 σ6 H6 _ I6 q6) fun f s7 q7 => ?_)
    have again : ∀ {σ7 : St} {H7 : Hp}, Inv X (pins ++ pinsAt fp s5.heap) σ7 H7 s7 → N σ7 H7 → ∃ m, m < n ∧ ∃ i σ' H', Inv X pins σ' H' s7 ∧ tn i s7.heap ∧ (∀ b ∈ fp, H' b = none) ∧ W i m σ' H' := fun {σ7 H7} I7 n7 => by
      obtain ⟨m', hm, w7⟩ := hN σ7 H7 n7
      refine ⟨m', hm, i + 1, σ7, H7, I7.unpinned, T.keep _ _ _ st5 fun b hb o e => (I7.pin (b, o) (List.mem_append_right _ (List.mem_append_right _ (mem_pinsAt hb e)))).1, fun b hb => ?_, w7⟩
      obtain ⟨o, e, d⟩ := T.obj _ _ st5 b hb
      exact (I7.pin (b, o) (List.mem_append_right _ (List.mem_append_right _ (mem_pinsAt hb e)))).2.1
    cases f with
    | next => obtain ⟨σ7, H7, I7, n7⟩ := q7; exact again I7 n7
    | cont => obtain ⟨σ7, H7, I7, n7⟩ := q7; exact again I7 n7
    | brk => obtain ⟨σ7, H7, I7, q7⟩ := q7; exact ⟨σ7, H7, I7.unpinned, q7⟩
    | ret v => obtain ⟨x7, σ7, H7, I7, r7, q7⟩ := q7; exact ⟨x7, σ7, H7, I7.unpinned, r7, q7⟩
end



theorem for_list {K : PySem.W.Frag} {a : Addr} {xs : List V} {g : TG} {tb : TS} {D : Ends} {σ : St} {H : Hp} (Pv : Nat → St → Hp → Prop) (h0 : Pv 0 σ H) (hl : ∀ i σ H, i ≤ xs.length → Pv i σ H → SqL K H a xs)
    (hs : ∀ i x σ H, xs[i]? = some x → Pv i σ H → g x σ H fun σ2 H2 => tb { D with nx := Pv (i + 1), ct := Pv (i + 1), bk := D.nx } σ2 H2) (hd : ∀ σ H, Pv xs.length σ H → D.nx σ H) :
    ∃ W : Nat → Nat → St → Hp → Prop, (∃ m, W 0 m σ H) ∧ ∀ i m σ H, W i m σ H →
      ((Itl K a).stop i H ∧ D.nx σ H) ∨ ((Itl K a).go i H ∧ ∃ N : St → Hp → Prop, (∀ σ' H', N σ' H' → ∃ m', m' < m ∧ W (i + 1) m' σ' H') ∧ ∀ x H', (Itl K a).yld i H x H' → g x σ H' fun σ2 H2 => tb { D with nx := N, ct := N, bk := D.nx } σ2 H2) := by
  refine ⟨fun i m σ H => m = xs.length - i ∧ i ≤ xs.length ∧ Pv i σ H, ⟨xs.length, by simp, Nat.zero_le _, h0⟩, ?_⟩
  rintro i m σ H ⟨rfl, hi, p⟩
  have q := hl i σ H hi p
  by_cases hlt : i < xs.length
  · refine .inr ⟨⟨xs, xs[i], q, by simp [hlt]⟩, Pv (i + 1), fun σ' H' p' => ⟨xs.length - (i + 1), by omega, rfl, hlt, p'⟩, fun x H' y => ?_⟩
    obtain ⟨e, y⟩ := y
    subst e
    exact hs i x σ _ (y xs q) p
  · have e : i = xs.length := by omega
    subst e
    exact .inl ⟨⟨xs, q, Nat.le_refl _⟩, hd σ H p⟩
theorem for_tup {K : PySem.W.Frag} {a : Addr} {xs : List V} {g : TG} {tb : TS} {D : Ends} {σ : St} {H : Hp} (Pv : Nat → St → Hp → Prop) (h0 : Pv 0 σ H) (hl : ∀ i σ H, i ≤ xs.length → Pv i σ H → SqT K H a xs)
    (hs : ∀ i x σ H, xs[i]? = some x → Pv i σ H → g x σ H fun σ2 H2 => tb { D with nx := Pv (i + 1), ct := Pv (i + 1), bk := D.nx } σ2 H2) (hd : ∀ σ H, Pv xs.length σ H → D.nx σ H) :
    ∃ W : Nat → Nat → St → Hp → Prop, (∃ m, W 0 m σ H) ∧ ∀ i m σ H, W i m σ H →
      ((Itt K a).stop i H ∧ D.nx σ H) ∨ ((Itt K a).go i H ∧ ∃ N : St → Hp → Prop, (∀ σ' H', N σ' H' → ∃ m', m' < m ∧ W (i + 1) m' σ' H') ∧ ∀ x H', (Itt K a).yld i H x H' → g x σ H' fun σ2 H2 => tb { D with nx := N, ct := N, bk := D.nx } σ2 H2) := by
  refine ⟨fun i m σ H => m = xs.length - i ∧ i ≤ xs.length ∧ Pv i σ H, ⟨xs.length, by simp, Nat.zero_le _, h0⟩, ?_⟩
  rintro i m σ H ⟨rfl, hi, p⟩
  have q := hl i σ H hi p
  by_cases hlt : i < xs.length
  · refine .inr ⟨⟨xs, xs[i], q, by simp [hlt]⟩, Pv (i + 1), fun σ' H' p' => ⟨xs.length - (i + 1), by omega, rfl, hlt, p'⟩, fun x H' y => ?_⟩
    obtain ⟨e, y⟩ := y
    subst e
    exact hs i x σ _ (y xs q) p
  · have e : i = xs.length := by omega
    subst e
    exact .inl ⟨⟨xs, q, Nat.le_refl _⟩, hd σ H p⟩
theorem for_range {lo : Int} {n : Nat} {g : TG} {tb : TS} {D : Ends} {σ : St} {H : Hp} (Pv : Nat → St → Hp → Prop) (h0 : Pv 0 σ H)
    (hs : ∀ i σ H, i < n → Pv i σ H → g (.int (lo + i)) σ H fun σ2 H2 => tb { D with nx := Pv (i + 1), ct := Pv (i + 1), bk := D.nx } σ2 H2) (hd : ∀ σ H, Pv n σ H → D.nx σ H) :
    ∃ W : Nat → Nat → St → Hp → Prop, (∃ m, W 0 m σ H) ∧ ∀ i m σ H, W i m σ H →
      ((Itr lo n).stop i H ∧ D.nx σ H) ∨ ((Itr lo n).go i H ∧ ∃ N : St → Hp → Prop, (∀ σ' H', N σ' H' → ∃ m', m' < m ∧ W (i + 1) m' σ' H') ∧ ∀ x H', (Itr lo n).yld i H x H' → g x σ H' fun σ2 H2 => tb { D with nx := N, ct := N, bk := D.nx } σ2 H2) := by
  refine ⟨fun i m σ H => m = n - i ∧ i ≤ n ∧ Pv i σ H, ⟨n, by simp, Nat.zero_le _, h0⟩, ?_⟩
  rintro i m σ H ⟨rfl, hi, p⟩
  by_cases hlt : i < n
  · refine .inr ⟨hlt, Pv (i + 1), fun σ' H' p' => ⟨n - (i + 1), by omega, rfl, hlt, p'⟩, fun x H' y => ?_⟩
    obtain ⟨e, y⟩ := y
    subst e y
    exact hs i σ _ hlt p
  · have e : i = n := by omega
    subst e
    exact .inl ⟨Nat.le_refl _, hd σ H p⟩

end L2

namespace L2
open PySem PySem.Spec PyProof.Rows

abbrev R2 := V → V → Hp → VK → Prop

def OpR (X : Cx) (f : Value → Value → Sem Value) (r : R2) : Prop :=
  ∀ (pins : List (Addr × Obj)) (s : Shared) (σ : St) (H : Hp) (x y : V) (v u : Value) (Q : VK), Inv X pins σ H s → RelV x v → RelV y u → r x y H Q →
    wpAny (model X.prog X.w) X.A (f v u) (EP X pins σ Q) X.xe s

def UnR (X : Cx) (f : Value → Sem Value) (r : V → Hp → VK → Prop) : Prop :=
  ∀ (pins : List (Addr × Obj)) (s : Shared) (σ : St) (H : Hp) (x : V) (v : Value) (Q : VK), Inv X pins σ H s → RelV x v → r x H Q →
    wpAny (model X.prog X.w) X.A (f v) (EP X pins σ Q) X.xe s

def CallR (X : Cx) (f : Value) (r : List V → Hp → VK → Prop) : Prop :=
  ∀ (pins : List (Addr × Obj)) (s : Shared) (σ : St) (H : Hp) (xs : List V) (us : List Value) (Q : VK), Inv X pins σ H s → Vals xs us → r xs H Q →
    wpAny (model X.prog X.w) X.A (call f us) (EP X pins σ Q) X.xe s

def TruR (X : Cx) (r : V → Hp → (Bool → Hp → Prop) → Prop) : Prop :=
  ∀ (pins : List (Addr × Obj)) (s : Shared) (σ : St) (H : Hp) (x : V) (v : Value) (Q : Bool → Hp → Prop), Inv X pins σ H s → RelV x v → r x H Q →
    wpAny (model X.prog X.w) X.A (truthy v) (TP X pins σ Q) X.xe s

def tOp (r : R2) (ta tb : TE) : TE := fun σ H Q => ta σ H fun x H1 => tb σ H1 fun y H2 => r x y H2 Q
def tUn (r : V → Hp → VK → Prop) (ta : TE) : TE := fun σ H Q => ta σ H fun x H1 => r x H1 Q

def rI (C : Int → Int → Prop) (g : Int → Int → V) : R2 := fun x y H Q => ∃ i j, x = .int i ∧ y = .int j ∧ C i j ∧ Q (g i j) H
def rI0 (g : Int → Int → V) : R2 := fun x y H Q => ∃ i j, x = .int i ∧ y = .int j ∧ Q (g i j) H
def rU (g : Int → V) : V → Hp → VK → Prop := fun x H Q => ∃ i, x = .int i ∧ Q (g i) H

section
variable {X : Cx} {a b c : Expr} {ta tb tc : TE} {pos : Pos}

theorem binT (ha : PE X a ta) (hb : PE X b tb) {pins : List (Addr × Obj)} {s : Shared} {σ : St} {H : Hp} {R : V → V → Hp → Prop} (I : Inv X pins σ H s)
    (h : ta σ H fun x H1 => tb σ H1 fun y H2 => R x y H2) {Q : Value → Shared → Prop} {f : Value → Value → Sem Value}
    (hf : ∀ v u s2 x y H2, Inv X pins σ H2 s2 → RelV x v → RelV y u → R x y H2 → wpAny (model X.prog X.w) X.A (f v u) Q X.xe s2) :
    wpAny (model X.prog X.w) X.A (eval a X.env) (fun v s₁ => wpAny (model X.prog X.w) X.A (eval b X.env) (fun u s₂ => wpAny (model X.prog X.w) X.A (f v u) Q X.xe s₂) X.xe s₁) X.xe s := by
  refine thn (ha pins s σ H _ I h) fun v s1 ⟨x, H1, I1, r1, q1⟩ => ?_
  refine thn (hb pins s1 σ H1 _ I1 q1) fun u s2 ⟨y, H2, I2, r2, q2⟩ => ?_
  exact hf v u s2 x y H2 I2 r1 r2 q2

theorem pe_op {op : Operator} {r : R2} (ho : OpR X (binaryOp op) r) (ha : PE X a ta) (hb : PE X b tb) : PE X (.BinOp a op b pos) (tOp r ta tb) := by
  intro pins s σ H Q I h
  exact wpAny_BinOp (binT ha hb I h fun v u s2 x y H2 I2 rx ry q => ho pins s2 σ H2 x y v u Q I2 rx ry q)
theorem pe_un {op : UnaryOp} {r : V → Hp → VK → Prop} (ho : UnR X (unaryOp op) r) (ha : PE X a ta) : PE X (.UnaryOp op a pos) (tUn r ta) := by
  intro pins s σ H Q I h
  exact UnaryOp_ (thn (ha pins s σ H _ I h) fun v s1 ⟨x, H1, I1, r1, q1⟩ => ho pins s1 σ H1 x v Q I1 r1 q1)

theorem opI {f : Value → Value → Sem Value} {C : Int → Int → Prop} {g : Int → Int → Int}
    (rule : ∀ (i j : Int) (t u : Tok) (s : Shared) (Q : Value → Shared → Prop) (E : Value → Shared → Prop), C i j → Q (.int (g i j) s.toks) { s with toks := s.toks + 1 } → wpAny (model X.prog X.w) X.A (f (.int i t) (.int j u)) Q E s) :
    OpR X f (rI C fun i j => .int (g i j)) := by
  intro pins s σ H x y v u Q I rx ry h
  obtain ⟨i, j, rfl, rfl, hc, q⟩ := h
  obtain ⟨t, rfl⟩ := rx
  obtain ⟨t', rfl⟩ := ry
  exact rule i j t t' s _ _ hc ⟨.int (g i j), H, I.tok _, ⟨_, rfl⟩, q⟩
theorem opI0 {f : Value → Value → Sem Value} {g : Int → Int → Int}
    (rule : ∀ (i j : Int) (t u : Tok) (s : Shared) (Q : Value → Shared → Prop) (E : Value → Shared → Prop), Q (.int (g i j) s.toks) { s with toks := s.toks + 1 } → wpAny (model X.prog X.w) X.A (f (.int i t) (.int j u)) Q E s) :
    OpR X f (rI0 fun i j => .int (g i j)) := by
  intro pins s σ H x y v u Q I rx ry h
  obtain ⟨i, j, rfl, rfl, q⟩ := h
  obtain ⟨t, rfl⟩ := rx
  obtain ⟨t', rfl⟩ := ry
  exact rule i j t t' s _ _ ⟨.int (g i j), H, I.tok _, ⟨_, rfl⟩, q⟩
theorem opB0 {f : Value → Value → Sem Value} {g : Int → Int → Bool}
    (rule : ∀ (i j : Int) (t u : Tok) (s : Shared) (Q : Value → Shared → Prop) (E : Value → Shared → Prop), Q (.bool (g i j)) s → wpAny (model X.prog X.w) X.A (f (.int i t) (.int j u)) Q E s) :
    OpR X f (rI0 fun i j => .bl (g i j)) := by
  intro pins s σ H x y v u Q I rx ry h
  obtain ⟨i, j, rfl, rfl, q⟩ := h
  obtain ⟨t, rfl⟩ := rx
  obtain ⟨t', rfl⟩ := ry
  exact rule i j t t' s _ _ ⟨.bl (g i j), H, I, rfl, q⟩

def CDiv (i j : Int) : Prop := 0 < j ∧ j < 1073741824
def CDivN (i j : Int) : Prop := j ≠ 0 ∧ j.natAbs < 1073741824
def CPow (i j : Int) : Prop := 0 ≤ j ∧ j ≤ 1000000 ∧ i.natAbs < 2 ^ 64
def CMul (i j : Int) : Prop := (-(2 ^ 64) < i ∧ i < 2 ^ 64) ∨ (-(2 ^ 64) < j ∧ j < 2 ^ 64)
theorem CMul.ok {i j : Int} (h : CMul i j) : IntMulOk i j := by
  rcases h with ⟨h1, h2⟩ | ⟨h1, h2⟩
  · exact .of_left (intBits_le_64 h1 h2)
  · exact .of_right (intBits_le_64 h1 h2)
theorem op_add : OpR X (binaryOp .Add) (rI0 fun i j => .int (i + j)) := opI0 fun _ _ _ _ _ _ _ q => add_int q
theorem op_sub : OpR X (binaryOp .Sub) (rI0 fun i j => .int (i - j)) := opI0 fun _ _ _ _ _ _ _ q => sub_int q
theorem op_mul : OpR X (binaryOp .Mult) (rI CMul fun i j => .int (i * j)) := opI fun _ _ _ _ _ _ _ hc q => mul_int q hc.ok

theorem op_fdiv : OpR X (binaryOp .FloorDiv) (rI CDiv fun i j => .int (i / j)) := opI fun i j _ _ _ _ _ hc q => by
  have h1 : (0 : Int) < j := hc.1
  have h2 : j < 1073741824 := hc.2
  exact floordiv_int (by omega) (by rw [Int.fdiv_eq_ediv_of_nonneg i (by omega)]; exact q) (.inl (PyProof.noPylong_small (by omega)))
theorem op_mod : OpR X (binaryOp .Mod) (rI (fun _ j => 0 < j) fun i j => .int (i % j)) := opI fun i j _ _ _ _ _ hc q => by
  have h1 : (0 : Int) < j := hc
  exact mod_int' (by omega) (by rw [Int.fmod_eq_emod_of_nonneg i (by omega)]; exact q)
theorem unI {f : Value → Sem Value} {g : Int → Int}
    (rule : ∀ (i : Int) (t : Tok) (s : Shared) (Q : Value → Shared → Prop) (E : Value → Shared → Prop), Q (.int (g i) s.toks) { s with toks := s.toks + 1 } → wpAny (model X.prog X.w) X.A (f (.int i t)) Q E s) :
    UnR X f (rU fun i => .int (g i)) := by
  intro pins s σ H x v Q I rx h
  obtain ⟨i, rfl, q⟩ := h
  obtain ⟨t, rfl⟩ := rx
  exact rule i t s _ _ ⟨.int (g i), H, I.tok _, ⟨_, rfl⟩, q⟩
theorem un_neg : UnR X (unaryOp .USub) (rU fun i => .int (-i)) := unI fun _ _ _ _ _ q => neg_int q
end



def scal : V → V → Bool
  | .non, .non => true | .non, .int _ => true | .int _, .non => true | .non, .bl _ => true | .bl _, .non => true | .non, .str _ => true | .str _, .non => true
  | .int _, .int _ => true | .bl _, .bl _ => true | .str _, .str _ => true | .byt _, .byt _ => true
  | .int _, .str _ => true | .str _, .int _ => true | .bl _, .str _ => true | .str _, .bl _ => true
  | _, _ => false
def rEq : R2 := fun x y H Q => scal x y = true ∧ Q (.bl (decide (x = y))) H
def rNe : R2 := fun x y H Q => scal x y = true ∧ Q (.bl (!decide (x = y))) H

theorem dec_int {i j : Int} : decide (V.int i = V.int j) = (i == j) := by
  rw [Bool.eq_iff_iff]
  simp
theorem dec_bl {i j : Bool} : decide (V.bl i = V.bl j) = (i == j) := by
  rw [Bool.eq_iff_iff]
  simp
theorem dec_str {i j : Str} : decide (V.str i = V.str j) = (i == j) := by
  rw [Bool.eq_iff_iff]
  simp
theorem dec_byt {i j : Array UInt8} : decide (V.byt i = V.byt j) = (i.toList == j.toList) := by
  rw [Bool.eq_iff_iff]
  cases i
  cases j
  simp

section
variable {X : Cx} {a b c : Expr} {ta tb tc : TE} {pos : Pos}
theorem fin_bl {pins : List (Addr × Obj)} {σ : St} {H : Hp} {s : Shared} {Q : VK} {k k' : Bool} (I : Inv X pins σ H s) (q : Q (.bl k) H) (e : k = k') : EP X pins σ Q (.bool k') s := by
  subst e
  exact ⟨.bl k, H, I, rfl, q⟩
theorem op_eq : OpR X (compareOp .Eq) rEq := by
  intro pins s σ H x y v u Q I rx ry h
  obtain ⟨hs, q⟩ := h
  cases x with
  | non =>
    cases rx
    cases y with
    | non => cases ry; exact PySem.EqNone.eq_none_none (fin_bl I q (by simp))
    | bl j => cases ry; exact PySem.EqNone.eq_none_bool (fin_bl I q (by simp))
    | int j => obtain ⟨t', rfl⟩ := ry; exact PySem.EqNone.eq_none_int (fin_bl I q (by simp))
    | str j => obtain ⟨t', rfl⟩ := ry; exact PySem.EqNone.eq_none_str (fin_bl I q (by simp))
    | _ => exact absurd (show false = true from hs) Bool.false_ne_true
  | bl i =>
    cases rx
    cases y with
    | non => cases ry; exact PySem.EqNone.eq_bool_none (fin_bl I q (by simp))
    | bl j => cases ry; exact eq_bool (fin_bl I q dec_bl)
    | str j => obtain ⟨t', rfl⟩ := ry; exact PySem.EqMixed.eq_bool_str (fin_bl I q (by simp))
    | _ => exact absurd (show false = true from hs) Bool.false_ne_true
  | int i =>
    obtain ⟨t, rfl⟩ := rx
    cases y with
    | non => cases ry; exact PySem.EqNone.eq_int_none (fin_bl I q (by simp))
    | int j => obtain ⟨t', rfl⟩ := ry; exact eq_int (fin_bl I q dec_int)
    | str j => obtain ⟨t', rfl⟩ := ry; exact PySem.EqMixed.eq_int_str (fin_bl I q (by simp))
    | _ => exact absurd (show false = true from hs) Bool.false_ne_true
  | str i =>
    obtain ⟨t, rfl⟩ := rx
    cases y with
    | non => cases ry; exact PySem.EqNone.eq_str_none (fin_bl I q (by simp))
    | bl j => cases ry; exact PySem.EqMixed.eq_str_bool (fin_bl I q (by simp))
    | int j => obtain ⟨t', rfl⟩ := ry; exact PySem.EqMixed.eq_str_int (fin_bl I q (by simp))
    | str j => obtain ⟨t', rfl⟩ := ry; exact eq_str (fin_bl I q dec_str)
    | _ => exact absurd (show false = true from hs) Bool.false_ne_true
  | byt i =>
    obtain ⟨t, rfl⟩ := rx
    cases y with
    | byt j => obtain ⟨t', rfl⟩ := ry; exact PySem.W.eq_bytes (fin_bl I q dec_byt)
    | _ => exact absurd (show false = true from hs) Bool.false_ne_true
  | _ => cases y <;> exact absurd (show false = true from hs) Bool.false_ne_true
theorem op_ne : OpR X (compareOp .NotEq) rNe := by
  intro pins s σ H x y v u Q I rx ry h
  obtain ⟨hs, q⟩ := h
  cases x with
  | non =>
    cases rx
    cases y with
    | non => cases ry; exact PySem.EqNone.ne_none_none (fin_bl I q (by simp))
    | bl j => cases ry; exact PySem.EqNone.ne_none_bool (fin_bl I q (by simp))
    | int j => obtain ⟨t', rfl⟩ := ry; exact PySem.EqNone.ne_none_int (fin_bl I q (by simp))
    | str j => obtain ⟨t', rfl⟩ := ry; exact PySem.EqNone.ne_none_str (fin_bl I q (by simp))
    | _ => exact absurd (show false = true from hs) Bool.false_ne_true
  | bl i =>
    cases rx
    cases y with
    | non => cases ry; exact PySem.EqNone.ne_bool_none (fin_bl I q (by simp))
    | bl j => cases ry; exact ne_bool (fin_bl I q (congrArg not dec_bl))
    | str j => obtain ⟨t', rfl⟩ := ry; exact PySem.EqMixed.ne_bool_str (fin_bl I q (by simp))
    | _ => exact absurd (show false = true from hs) Bool.false_ne_true
  | int i =>
    obtain ⟨t, rfl⟩ := rx
    cases y with
    | non => cases ry; exact PySem.EqNone.ne_int_none (fin_bl I q (by simp))
    | int j => obtain ⟨t', rfl⟩ := ry; exact ne_int (fin_bl I q (congrArg not dec_int))
    | str j => obtain ⟨t', rfl⟩ := ry; exact PySem.EqMixed.ne_int_str (fin_bl I q (by simp))
    | _ => exact absurd (show false = true from hs) Bool.false_ne_true
  | str i =>
    obtain ⟨t, rfl⟩ := rx
    cases y with
    | non => cases ry; exact PySem.EqNone.ne_str_none (fin_bl I q (by simp))
    | bl j => cases ry; exact PySem.EqMixed.ne_str_bool (fin_bl I q (by simp))
    | int j => obtain ⟨t', rfl⟩ := ry; exact PySem.EqMixed.ne_str_int (fin_bl I q (by simp))
    | str j => obtain ⟨t', rfl⟩ := ry; exact ne_str (fin_bl I q (congrArg not dec_str))
    | _ => exact absurd (show false = true from hs) Bool.false_ne_true
  | byt i =>
    obtain ⟨t, rfl⟩ := rx
    cases y with
    | byt j => obtain ⟨t', rfl⟩ := ry; exact PySem.W.ne_bytes (fin_bl I q (congrArg not dec_byt))
    | _ => exact absurd (show false = true from hs) Bool.false_ne_true
  | _ => cases y <;> exact absurd (show false = true from hs) Bool.false_ne_true

theorem op_lt : OpR X (compareOp .Lt) (rI0 fun i j => .bl (decide (i < j))) := opB0 fun _ _ _ _ _ _ _ q => lt_int q
theorem op_le : OpR X (compareOp .LtE) (rI0 fun i j => .bl (decide (i ≤ j))) := opB0 fun _ _ _ _ _ _ _ q => le_int q
theorem op_gt : OpR X (compareOp .Gt) (rI0 fun i j => .bl (decide (j < i))) := opB0 fun _ _ _ _ _ _ _ q => gt_int q
theorem op_notN : OpR X (compareOp .IsNot) (fun x y H Q => y = .non ∧ Q (.bl (!decide (x = .non))) H) := by
  intro pins s σ H x y v u Q I rx ry h
  obtain ⟨rfl, q⟩ := h
  cases ry
  refine isnot_none_gen (fin_bl I q ?_)
  cases x <;> first
    | (cases rx; rfl)
    | (obtain ⟨t, rfl⟩ := rx; rfl)

def isObj : HO → Bool
  | .lst _ => true
  | .ins _ _ _ => true
  | _ => false
theorem nomark (b : Expr) {op : CmpOp} (h : op ≠ .In := by decide) (h2 : op ≠ .NotIn := by decide) : behindInMarks op b = false := by
  have e1 : (op == CmpOp.In) = false := by cases op <;> first | rfl | exact absurd rfl h
  have e2 : (op == CmpOp.NotIn) = false := by cases op <;> first | rfl | exact absurd rfl h2
  cases b <;> simp [behindInMarks, e1, e2]

theorem pe_cmpR {op : CmpOp} {r : R2} (ho : OpR X (compareOp op) r) (ha : PE X a ta) (hb : PE X b tb) (hm : behindInMarks op b = false) : PE X (.Compare a [op] [b] pos) (tOp r ta tb) := by
  intro pins s σ H Q I h
  exact wpAny_Compare1 (binT ha hb I h fun v u s2 x y H2 I2 rx ry q => ho pins s2 σ H2 x y v u Q I2 rx ry q) hm

def tTest (t : TE) : TT := fun σ H Q => t σ H fun x H' => ∃ k, x = .bl k ∧ Q k H'
theorem pt_cmpR {op : CmpOp} {r : R2} (ho : OpR X (compareOp op) r) (ha : PE X a ta) (hb : PE X b tb) (hm : behindInMarks op b = false) : PT X (.Compare a [op] [b] pos) (tTest (tOp r ta tb)) := by
  intro pins s σ H Q I h
  refine wpAny_isTrue_Compare1 (thn (ha pins s σ H _ I h) fun v s1 ⟨x, H1, I1, r1, q1⟩ => thn (hb pins s1 σ H1 _ I1 q1) fun u s2 ⟨y, H2, I2, r2, q2⟩ =>
    thn (ho pins s2 σ H2 x y v u _ I2 r1 r2 q2) fun c s3 ⟨z, H3, I3, r3, k, e, q3⟩ => ?_) hm
  subst e
  cases r3
  exact wpAny_truthy_bool ⟨H3, I3, q3⟩

def tChain (r r' : R2) (ta tb tc : TE) : TE := fun σ H Q => ta σ H fun x H1 => tb σ H1 fun y H2 => r x y H2 fun z H3 => ∃ k, z = .bl k ∧
  (if k = true then tc σ H3 fun w' H4 => r' y w' H4 Q else Q (.bl false) H3)
theorem pe_chain {op op' : CmpOp} {r r' : R2} (ho : OpR X (compareOp op) r) (ho' : OpR X (compareOp op') r') (ha : PE X a ta) (hb : PE X b tb) (hc : PE X c tc)
    (hm : lastMarks [op, op'] [b, c] = false := by with_unfolding_all rfl) : PE X (.Compare a [op, op'] [b, c] pos) (tChain r r' ta tb tc) := by
  intro pins s σ H Q I h
  refine Compare_chain (thn (ha pins s σ H _ I h) fun v s1 ⟨x, H1, I1, r1, q1⟩ => chain_link (thn (hb pins s1 σ H1 _ I1 q1) fun u s2 ⟨y, H2, I2, r2, q2⟩ =>
    thn (ho pins s2 σ H2 x y v u _ I2 r1 r2 q2) fun d s3 ⟨z, H3, I3, r3, k, e, q3⟩ => ?_)) hm
  subst e
  cases r3
  refine wpAny_truthy_bool ?_
  cases k with
  | false => exact ite_ff ⟨.bl false, H3, I3, rfl, q3⟩
  | true => exact ite_tt (chain_last (thn (hc pins s3 σ H3 _ I3 q3) fun w' s4 ⟨z', H4, I4, r4, q4⟩ => ho' pins s4 σ H4 y z' u w' Q I4 r2 r4 q4))
def TruV (K : PySem.W.Frag) (x : V) (H : Hp) (k : Bool) : Prop :=
  match x with
  | .non => k = false
  | .bl b => k = b
  | .int i => k = (i != 0)
  | .str y => y.length ≤ sizeLine ∧ k = ((y.length : Int) != 0)
  | .byt y => y.size ≤ sizeLine ∧ k = ((y.size : Int) != 0)
  | .ref p => (∃ xs, SqL K H p xs ∧ k = !xs.isEmpty) ∨ (∃ xs, SqT K H p xs ∧ k = !xs.isEmpty) ∨ ∃ kvs, H p = some (.dK kvs) ∧ k = !kvs.isEmpty
  | _ => False
theorem line63 : (sizeLine : Nat) < 2 ^ 63 := by rw [sizeLine_eq]; decide
theorem op_add_str : OpR X (binaryOp .Add) (fun x y H Q => ∃ i j, x = .str i ∧ y = .str j ∧ i.length + j.length ≤ sizeLine ∧ Q (.str (i ++ j)) H) := by
  intro pins s σ H x y v u Q I rx ry h
  obtain ⟨i, j, rfl, rfl, hz, q⟩ := h
  obtain ⟨t, rfl⟩ := rx
  obtain ⟨t', rfl⟩ := ry
  exact add_str (fun t' tk => ⟨.str (i ++ j), H, I.tok _, ⟨_, rfl⟩, q⟩) hz
def PlainIxT (b : Expr) : Prop := ∀ o i, subscripted b false o i = operate [o, i] (getItem o i)

theorem vals1 {x : V} {us : List Value} (r : Vals [x] us) : ∃ u, us = [u] ∧ RelV x u := by
  cases r with
  | cons r1 r2 => cases r2; exact ⟨_, rfl, r1⟩
theorem vals2 {x y : V} {us : List Value} (r : Vals [x, y] us) : ∃ u w', us = [u, w'] ∧ RelV x u ∧ RelV y w' := by
  cases r with
  | cons r1 r2 =>
    cases r2 with
    | cons r3 r4 => cases r4; exact ⟨_, _, rfl, r1, r3⟩
theorem call_max2 (hc : X.calm = true) : CallR X (.builtin "max") (fun xs H Q => ∃ i j, xs = [.int i, .int j] ∧ Q (.int (if j > i then j else i)) H) := by
  intro pins s σ H xs us Q I r h
  obtain ⟨i, j, rfl, q⟩ := h
  obtain ⟨u, w', rfl, ⟨t, rfl⟩, ⟨t', rfl⟩⟩ := vals2 r
  refine max_two_ints (I.ok.hd hc) fun h' tk k => ⟨_, H, I.kept k, ?_, q⟩
  by_cases hj : j > i
  · rw [if_pos hj, if_pos hj]; exact ⟨_, rfl⟩
  · rw [if_neg hj, if_neg hj]; exact ⟨_, rfl⟩
def LenV (K : PySem.W.Frag) (x : V) (H : Hp) (n : Nat) : Prop :=
  match x with
  | .str y => y.length ≤ sizeLine ∧ n = y.length
  | .byt y => y.size ≤ sizeLine ∧ n = y.size
  | .ref p => (∃ xs, SqL K H p xs ∧ n = xs.length) ∨ ∃ xs, SqT K H p xs ∧ n = xs.length
  | _ => False
end
end L2

namespace L2
open PySem PySem.Spec PyProof.Rows


structure ObjM (h : Heap) (x dx C : Addr) (mA : Str → Option Value) : Prop where
  obj : h.get? x = some (PySem.W.instObj C dx)
  ns : h.Ns1 dx mA
  ne : dx ≠ x

theorem lookIn_ns {h : Heap} {dx : Addr} {mA : Str → Option Value} (n : h.Ns1 dx mA) : ∃ od, h.get? dx = some od ∧ ∀ name, PySem.W.lookIn name od = some (mA name) := by
  obtain ⟨o, es, ep, ho, hd, hk, _, hm⟩ := n
  refine ⟨o, ho, fun name => ?_⟩
  have e := hm name
  unfold nsFind findBy at e
  rw [← Array.find?_toList] at e
  unfold PySem.W.lookIn
  rw [hd]
  dsimp only
  split
  · rename_i y q
    rw [q] at e
    exact congrArg some e
  · rename_i q
    rw [q] at e
    have a : es.toList.any (·.refKey) = false := by
      rw [List.any_eq_false]
      intro y hy
      obtain ⟨z, t, hkey⟩ := hk y (Array.mem_toList_iff.mp hy)
      simp [DictEntry.refKey, hkey]
    have a' : ¬ es.toList.any (·.refKey) = true := by rw [a]; exact Bool.false_ne_true
    rw [if_neg a']
    exact congrArg some e

theorem ObjM.look {h : Heap} {x dx C : Addr} {mA : Str → Option Value} (I : ObjM h x dx C mA) : ∃ od, PySem.W.InstAt h x (PySem.W.instObj C dx) C (some od) ∧ ∀ name, PySem.W.lookIn name od = some (mA name) :=
  let ⟨od, ho, hl⟩ := lookIn_ns I.ns
  ⟨od, ⟨I.obj, rfl, rfl, ho⟩, hl⟩

section
variable {prog : Program} {w : World} {A : Around} {E : Value → Shared → Prop} {s : Shared} {K : PySem.W.Frag} {x dx C f : Addr} {mA : Str → Option Value} {name : Str} {v : Value}

end


def putF (f : Str) (v : V) : List (Str × V) → List (Str × V)
  | [] => [(f, v)]
  | (g, x) :: r => if g = f then (g, v) :: r else (g, x) :: putF f v r
theorem RelO.some_of {v : V} {o : Option Value} (r : RelO (some v) o) : ∃ u, o = some u ∧ RelV v u := by
  cases o with
  | none => exact (show False from r).elim
  | some u => exact ⟨u, rfl, r⟩
section
variable {P : Program} {w : World} {H H' : Hp} {h h' : Heap} {a C dx : Addr} {fs fs' : List (Str × V)}
end


structure Cls (K : PySem.W.Frag) (C : Addr) : Prop where
  pg : PySem.W.plainGet K C Str.empty = true
  hd : PySem.W.hasDictIn K C = true
  po : PySem.W.plainOver K C = true
  sa : PySem.W.findIn K (.ref C) "__setattr__" = some (some (.builtin "object.__setattr__"))
theorem Cls.get {K : PySem.W.Frag} {C : Addr} (c : Cls K C) (f : Str) : PySem.W.plainGet K C f = true := c.pg

def NoAttr (K : PySem.W.Frag) (C : Addr) (f : Str) : Prop := PySem.W.findIn K (.ref C) f = some none
structure Con (K : PySem.W.Frag) (C : Addr) (f : Str) (v : V) (u : Value) : Prop where
  at_ : PySem.W.findIn K (.ref C) f = some (some u)
  rel : RelV v u
  get : PySem.W.specialIn K u "__get__" = some none
  cp : PySem.W.copiedNames.contains f = false

structure Meth (K : PySem.W.Frag) (C : Addr) (m : Str) (f : Addr) : Prop where
  at_ : PySem.W.findIn K (.ref C) m = some (some (.ref f))
  fn : PySem.W.isFn K (.ref f) = true
  kp : PySem.W.keepIn K (.ref f) = true

section
variable {X : Cx} {pins : List (Addr × Obj)} {σ : St} {H : Hp} {s : Shared} {a C dx : Addr} {fs : List (Str × V)} {f : Str} {v : V} {A : Around} {E : Value → Shared → Prop}

end



def tFld (K : PySem.W.Frag) (ta : TE) (f : Str) : TE := fun σ H Q => ta σ H fun x H1 => ∃ a C dx fs v, x = .ref a ∧ H1 a = some (.ins C dx fs) ∧ Cls K C ∧ NoAttr K C f ∧ fs.lookup f = some v ∧ Q v H1

def tCon (K : PySem.W.Frag) (ta : TE) (f : Str) : TE := fun σ H Q => ta σ H fun x H1 => ∃ a C dx fs v u, x = .ref a ∧ H1 a = some (.ins C dx fs) ∧ Cls K C ∧ Con K C f v u ∧ fs.lookup f = none ∧ Q v H1

def sFld (K : PySem.W.Frag) (ta tv : TE) (f : Str) : TS := fun D σ H => tv σ H fun y H1 => ta σ H1 fun x H2 => ∃ a C dx fs, x = .ref a ∧ H2 a = some (.ins C dx fs) ∧ Cls K C ∧ NoAttr K C f ∧ fs.length < 1000 ∧
  D.nx σ (upd H2 a (.ins C dx (putF f y fs)))

def InOp (X : Cx) (op : Operator) (rd : V → V → Hp → VK → Prop) : Prop :=
  ∀ (pins : List (Addr × Obj)) (s : Shared) (σ : St) (H : Hp) (x y : V) (u v : Value) (Q : VK), Inv X pins σ H s → RelV x u → RelV y v → rd x y H Q → wpAny (model X.prog X.w) X.A (inplaceOp op u v) (EP X pins σ Q) X.xe s

def sFldAug (K : PySem.W.Frag) (ta tv : TE) (rd : V → V → Hp → VK → Prop) (f : Str) : TS := fun D σ H => ta σ H fun x H1 => ∃ a C dx fs v, x = .ref a ∧ H1 a = some (.ins C dx fs) ∧ Cls K C ∧ NoAttr K C f ∧ fs.lookup f = some v ∧
  tv σ H1 fun y H2 => rd v y H2 fun z H3 => ∃ dx' fs', H3 a = some (.ins C dx' fs') ∧ fs'.length < 1000 ∧ D.nx σ (upd H3 a (.ins C dx' (putF f z fs')))

section
variable {X : Cx} {o e value : Expr} {f : Str} {pos pos' tpos : Pos} {ta tv : TE}
def rAdd : V → V → Hp → VK → Prop := fun x y H Q => ∃ i j, x = .int i ∧ y = .int j ∧ Q (.int (i + j)) H
def rSub : V → V → Hp → VK → Prop := fun x y H Q => ∃ i j, x = .int i ∧ y = .int j ∧ Q (.int (i - j)) H
end


section
variable {X : Cx} {pins : List (Addr × Obj)} {σ : St} {H : Hp} {s : Shared} {A : Around} {E : Value → Shared → Prop} {Q : Value → Shared → Prop} {c : Value} {b : Bool}

inductive TyOf (K : PySem.W.Frag) (H : Hp) : V → Value → Prop where
  | non : TyOf K H .non (.type "NoneType")
  | bl (x : Bool) : TyOf K H (.bl x) (.type "bool")
  | int (i : Int) : TyOf K H (.int i) (.type "int")
  | str (x : Str) : TyOf K H (.str x) (.type "str")
  | flt (x : UInt64) : TyOf K H (.flt x) (.type "float")
  | lst {a : Addr} {xs : List V} (e : H a = some (.lst xs)) : TyOf K H (.ref a) (.type "list")
  | frz {a : Addr} {o : Obj} {xs : List V} (e : H a = some (.frz o (.lst xs))) : TyOf K H (.ref a) (.type "list")
  | tup {a : Addr} {xs : List V} (e : H a = some (.tup xs)) : TyOf K H (.ref a) (.type "tuple")
  | dK {a : Addr} {kvs : List (Key × V)} (e : H a = some (.dK kvs)) : TyOf K H (.ref a) (.type "dict")
  | dT {a : Addr} {kvs : List (List Key × V)} (e : H a = some (.dT kvs)) : TyOf K H (.ref a) (.type "dict")
  | ins {a C dx : Addr} {fs : List (Str × V)} (e : H a = some (.ins C dx fs)) (cl : Cls K C) (ha : PySem.W.findIn K (.ref C) "__class__" = some (some (.builtin "object.__class__")))
      (hn : PySem.W.specialIn K (.builtin "object.__class__") "__get__" = some (some (.builtin "getset_descriptor.__get__"))) (htk : PySem.W.takesIn K (.builtin "object.__class__") = some true)
      (hm : PySem.W.mroIn K C (.type "object") = some true) : TyOf K H (.ref a) (.ref C)

end
end L2

namespace L2
open PySem PySem.Spec PyProof.Rows


structure Room (k : Nat) (A : Around) : Prop where
  hd : A.handled = none
  dp : A.depth + 3 * k + 5 < recursionLimit
  un : A.units + 16 * k + 200 < cLine
  gd : A.guards = some []
theorem Room.mono {j k : Nat} {A : Around} (r : Room k A) (h : j ≤ k) : Room j A := ⟨r.hd, by have := r.dp; omega, by have := r.un; omega, r.gd⟩
theorem Room.deeper {k : Nat} {A : Around} (r : Room (k + 1) A) (env : Env) : Room k (A.deeper env) :=
  ⟨r.hd, by have := r.dp; show A.depth + 1 + 3 * k + 5 < _; omega, by have := r.un; show A.units + 3 + 16 * k + 200 < _; omega, r.gd⟩
theorem Room.in1 {k : Nat} {A : Around} (r : Room (k + 1) A) : Room k A.in1 :=
  ⟨r.hd, by have := r.dp; show A.depth + 3 * k + 5 < _; omega, by have := r.un; show A.units + 1 + 16 * k + 200 < _; omega, r.gd⟩
theorem Room.depth {k : Nat} {A : Around} (r : Room k A) : A.depth < recursionLimit := by have := r.dp; omega
theorem Room.units {k : Nat} {A : Around} (r : Room k A) : A.units + 64 < cLine := by have := r.un; omega
def tNil : TA := fun _ H Q => Q [] H
def tCons (ta : TE) (tr : TA) : TA := fun σ H Q => ta σ H fun x H1 => tr σ H1 fun xs H2 => Q (x :: xs) H2
section
variable {X : Cx} {e : Expr} {es : List Expr} {te : TE} {t : TA} {pos : Pos}
theorem pa_nil : PA X [] tNil := fun _ _ _ _ H Q I h => Calls.spliced_nil ⟨[], H, I, .nil, h⟩
theorem pa_cons (ha : PE X e te) (hr : PA X es t) (hs : starEach (e :: es) X.env = (false, eval e X.env) :: starEach es X.env := by rfl) : PA X (e :: es) (tCons te t) := by
  intro pos pins s σ H Q I h
  rw [hs]
  show wpAny _ _ (spliced ((false, eval e X.env) :: backTo pos (starEach es X.env))) _ _ s
  refine Calls.spliced_cons (thn (ha pins s σ H _ I h) fun u s1 ⟨x, H1, I1, r1, q1⟩ => ?_)
  exact thn (hr pos pins s1 σ H1 _ I1 q1) fun us s2 ⟨xs, H2, I2, r2, q2⟩ => ⟨x :: xs, H2, I2, .cons r1 r2, q2⟩


def tTup (t : TA) : TE := fun σ H Q => t σ H fun xs H1 => xs.length ≤ sizeLine ∧ ∀ p, H1 p = none → Q (.ref p) (upd H1 p (.tup xs))
def tLst (t : TA) : TE := fun σ H Q => t σ H fun xs H1 => xs.length ≤ sizeLine ∧ ∀ p, H1 p = none → Q (.ref p) (upd H1 p (.lst xs))
theorem pe_tup {x1} (h : PA X es t) : PE X (.Tuple es x1 pos) (tTup t) := by
  intro pins s σ H Q I hq
  refine wpAny_Tuple_spliced (thn (h pos pins s σ H _ I hq) fun us s1 ⟨xs, H1, I1, r, z, q⟩ => ⟨by rw [← r.length]; exact z, ?_⟩)
  have hf : H1 s1.heap.objs.size = none := I1.hok.fresh (Nat.le_refl _)
  refine ⟨.ref s1.heap.objs.size, upd H1 s1.heap.objs.size (.tup xs), I1.laid (t' := s1.toks) (fun b u e => Heap.get?_push_of_some _ e) (Nat.le_refl _) ?_, rfl, q _ hf⟩
  exact ⟨z, us, r, ⟨_, Heap.get?_push_size _ rfl, rfl, rfl, _, rfl⟩⟩
theorem pe_lst (h : PA X es t) : PE X (.List es pos) (tLst t) := by
  intro pins s σ H Q I hq
  refine wpAny_List_spliced (thn (h pos pins s σ H _ I hq) fun us s1 ⟨xs, H1, I1, r, z, q⟩ => ⟨by rw [← r.length]; exact z, ?_⟩)
  have hf : H1 s1.heap.objs.size = none := I1.hok.fresh (Nat.le_refl _)
  refine ⟨.ref s1.heap.objs.size, upd H1 s1.heap.objs.size (.lst xs), I1.laid (t' := s1.toks) (fun b u e => Heap.get?_push_of_some _ e) (Nat.le_refl _) ?_, rfl, q _ hf⟩
  exact ⟨z, us, 0, r, Heap.get?_push_size _ rfl⟩
end



abbrev Sp := List V → Hp → VK → XK → Prop

abbrev CXT := List Env → Hp → Shared → XK → Value → Shared → Prop


structure Env0 (P : Program) (w : World) (K : PySem.W.Frag) (mg : Str → Option Value) (base : Heap) (A : Around) (outer : List Env) (s : Shared) (H : Hp) : Prop where
  frames : A.frames = some outer
  mod : Mod K mg base
  bs : ∀ b o, base.get? b = some o → s.heap.get? b = some o ∧ H b = none
  bsz : base.objs.size ≤ s.heap.objs.size
  funs : s.heap.FunFrames base outer
  frf : ∀ b ∈ frs outer, H b = none
  hok : HOk P w H s.heap
  bare : AllBare s.gens

def CE (outer : List Env) (P : Program) (w : World) (H : Hp) (s : Shared) (Q : VK) (u : Value) (s' : Shared) : Prop :=
  ∃ v H', s'.os = s.os ∧ AllBare s'.gens ∧ Un (frs outer) [] H H' s.heap s'.heap ∧ HOk P w H' s'.heap ∧ RelV v u ∧ Q v H'
def CR (CX : CXT) (outer : List Env) (P : Program) (w : World) (H : Hp) (s : Shared) (Q : VK) (E : XK) (r : Result) (s' : Shared) : Prop :=
  match r with
  | .ok (.ret u) => CE outer P w H s Q u s'
  | .ok _ => False
  | .error e => CX outer H s E e s'
structure FnOk (P : Program) (w : World) (K : PySem.W.Frag) (mg : Str → Option Value) (base : Heap) (CX : CXT) (k : Nat) (f : Addr) (fd : FuncData) (ps : List Str) (sp : Sp) : Prop where
  len : ∀ vs H Q E, sp vs H Q E → vs.length = ps.length
  run : ∀ (A : Around) (outer : List Env) (s : Shared) (H : Hp) (args : Args) (us : List Value) (vs : List V) (Q : VK) (E : XK), Room k A → Env0 P w K mg base A outer s H → BindsTo s fd args (ps.zip us) → Vals vs us → sp vs H Q E →
    codeAny (model P w) A (.call (.ref f) args) (CR CX outer P w H s Q E) s
theorem FnOk.mono {P : Program} {w : World} {K : PySem.W.Frag} {mg : Str → Option Value} {base : Heap} {CX : CXT} {j k : Nat} {f : Addr} {fd : FuncData} {ps : List Str} {sp : Sp} (F : FnOk P w K mg base CX j f fd ps sp) (h : j ≤ k) :
    FnOk P w K mg base CX k f fd ps sp := ⟨F.len, fun A outer s H args us vs Q E hr => F.run A outer s H args us vs Q E (hr.mono h)⟩

theorem Env0.in1 {P : Program} {w : World} {K : PySem.W.Frag} {mg : Str → Option Value} {base : Heap} {A : Around} {outer : List Env} {s : Shared} {H : Hp} (e : Env0 P w K mg base A outer s H) :
    Env0 P w K mg base A.in1 outer s H := ⟨e.frames, e.mod, e.bs, e.bsz, e.funs, e.frf, e.hok, e.bare⟩

section
variable {X : Cx} {pins : List (Addr × Obj)} {σ : St} {H : Hp} {s s' : Shared}

theorem Inv.env0 (I : Inv X pins σ H s) : Env0 X.prog X.w X.K X.mg X.base X.A X.stack s H :=
  ⟨I.ok.frames, I.ok.mod, I.bs, Nat.le_trans I.ok.bsz I.sz, I.stack, I.stkFree, I.hok, I.bare⟩

theorem Inv.after {Q : VK} {u : Value} (I : Inv X pins σ H s) (h : CE X.stack X.prog X.w H s Q u s') : EP X pins σ Q u s' := by
  obtain ⟨v, H', os, bare, un, hok, r, q⟩ := h
  obtain ⟨hh, g, d, t, os'⟩ := s'
  obtain rfl : os' = s.os := os
  exact ⟨v, H', I.call (h' := hh) (g' := g) (d' := d) (t' := t) (ch := []) un hok bare (fun b z => absurd z (by simp)), r, q⟩
end



def tCall (sp : Sp) (dvs : List V) (E : XK) (t : TA) : TE := fun σ H Q => t σ H fun vs H1 => sp (vs ++ dvs) H1 Q E

def tMeth (C : Addr) (m : Str) (sp : Sp) (dvs : List V) (E : XK) (ta : TE) (t : TA) : TE := fun σ H Q => ta σ H fun x H1 => ∃ a dx fs, x = .ref a ∧ H1 a = some (.ins C dx fs) ∧ fs.lookup m = none ∧
  t σ H1 fun vs H2 => sp (x :: (vs ++ dvs)) H2 Q E

def tMake (C : Addr) (sp : Sp) (dvs : List V) (E : XK) (t : TA) : TE := fun σ H Q => t σ H fun vs H1 => ∀ x dx, H1 x = none → H1 dx = none → dx ≠ x →
  sp (.ref x :: (vs ++ dvs)) (upd (upd H1 dx (.own x)) x (.ins C dx [])) (fun v H2 => v = .non ∧ Q (.ref x) H2) E


def Binds (K : PySem.W.Frag) (fd : FuncData) (ps : List Str) (ds : List Value) : Prop :=
  ∀ (s : Shared) (us : List Value), K.In s.heap → (us ++ ds).length = ps.length → BindsTo s fd ⟨us, []⟩ (ps.zip (us ++ ds))

theorem Binds.all {K : PySem.W.Frag} {fd : FuncData} {ps : List Str} (h : ∀ us : List Value, us.length = ps.length → bindArgs fd ⟨us, []⟩ = pure (ps.zip us)) : Binds K fd ps [] := fun s us _ hl => by
  rw [List.append_nil] at hl ⊢
  exact .of_eq (h us hl)


def Passes (CX : CXT) (X : Cx) (E : XK) : Prop := ∀ (pins : List (Addr × Obj)) (σ : St) (H : Hp) (s : Shared) (e : Value) (s' : Shared), Inv X pins σ H s → CX X.stack H s E e s' → X.xe e s'

section
variable {X : Cx} {CX : CXT} {k : Nat} {f C : Addr} {fd : FuncData} {ps : List Str} {sp : Sp} {dvs : List V} {ds : List Value} {E : XK} {x m : Str} {p pos apos : Pos} {e o : Expr} {es : List Expr} {ta : TE} {t : TA}


theorem run_fn {pins : List (Addr × Obj)} {σ : St} {H : Hp} {s : Shared} {Q : VK} {us : List Value} {vs : List V} (F : FnOk X.prog X.w X.K X.mg X.base CX k f fd ps sp) (hr : Room k X.A) (hb : Binds X.K fd ps ds) (hd : Vals dvs ds) (hx : Passes CX X E)
    (I : Inv X pins σ H s) (r : Vals vs us) (h : sp (vs ++ dvs) H Q E) : wpAny (model X.prog X.w) X.A (call (.ref f) us) (EP X pins σ Q) X.xe s := by
  have r2 : Vals (vs ++ dvs) (us ++ ds) := r.append hd
  have hl : (us ++ ds).length = ps.length := by rw [← r2.length]; exact F.len _ _ _ _ h
  refine wpAny_call (codeAny_mono (F.run X.A X.stack s H ⟨us, []⟩ (us ++ ds) (vs ++ dvs) Q E hr I.env0 (hb s us I.kIn hl) r2 h) fun r s' hq => ?_)
  cases r with
  | error e => exact hx pins σ H s e s' I hq
  | ok fl =>
    cases fl with
    | ret u => exact I.after hq
    | next => exact False.elim hq
    | brk => exact False.elim hq
    | cont => exact False.elim hq

theorem pe_call (F : FnOk X.prog X.w X.K X.mg X.base CX k f fd ps sp) (hr : Room k X.A) (hg : Gl X x) (hm : X.mg x = some (.ref f)) (hk : PySem.W.keepIn X.K (.ref f) = true) (hb : Binds X.K fd ps ds) (hd : Vals dvs ds) (hx : Passes CX X E)
    (ha : PA X (e :: es) t) (hdb : (x == ("__debug__" : Str)) = false := by decide) (he : starEach (e :: es) X.env = (false, eval e X.env) :: starEach es X.env := by rfl) (hpl : (backTo pos (starEach es X.env)).any (·.1) = false := by rfl) :
    PE X (.Call (.Name x p) (e :: es) [] pos) (tCall sp dvs E t) := by
  intro pins s σ H Q I h
  refine wpAny_Call_Name_kw (ld_glob I hg hm ?_ hdb)
  refine PySem.W.callWith_K (h₀ := X.base) I.ok.mod.kin hk (thn (ha pos pins s σ H _ I h) fun us s1 ⟨vs, H1, I1, r, q⟩ => ⟨I1.kIn, ?_⟩) he hpl
  exact run_fn F hr hb hd hx I1 r q
structure Mk (K : PySem.W.Frag) (C f : Addr) : Prop where
  makes : PySem.W.makesIn K C = true
  init : PySem.W.findIn K (.ref C) "__init__" = some (some (.ref f))
  fn : PySem.W.isFn K (.ref f) = true
  kp : PySem.W.keepIn K (.ref C) = true

end



def PK (X : Cx) (kws : List Keyword) (t : TA) : Prop :=
  ∀ (pos : Pos) (pins : List (Addr × Obj)) (s : Shared) (σ : St) (H : Hp) (Q : List V → Hp → Prop), Inv X pins σ H s → t σ H Q → wpAny (model X.prog X.w) X.A (evalAll ((backToKw pos (keywordEach kws X.env)).map (·.2))) (AP X pins σ Q) X.xe s
section
variable {X : Cx} {CX : CXT} {k : Nat} {f C : Addr} {fd : FuncData} {ps ks : List Str} {sp : Sp} {E : XK} {x m : Str} {p pos apos kpos : Pos} {e o : Expr} {es : List Expr} {kws : List Keyword} {te ta : TE} {t tk : TA} {nm : Option Str}
structure KBinds (K : PySem.W.Frag) (fd : FuncData) (ps ks : List Str) (g : List Value → List Value → List Value) (gV : List V → List V → List V) : Prop where
  to : ∀ (s : Shared) (us ws : List Value), K.In s.heap → (g us ws).length = ps.length → BindsTo s fd ⟨us, ks.zip ws⟩ (ps.zip (g us ws))
  rel : ∀ {vs : List V} {us : List Value} {zs : List V} {ws : List Value}, Vals vs us → Vals zs ws → Vals (gV vs zs) (g us ws)
def tCallK (sp : Sp) (gV : List V → List V → List V) (E : XK) (t tk : TA) : TE := fun σ H Q => t σ H fun vs H1 => tk σ H1 fun zs H2 => sp (gV vs zs) H2 Q E
variable {g : List Value → List Value → List Value} {gV : List V → List V → List V}
end



structure FnScope (N P : List Str) (sc : Scope) : Prop where
  kind : sc.kind = .function
  co : sc.isCoroutine = false
  gen : sc.isGenerator = false
  nd : N.Nodup
  pre : N.take P.length = P
  par : ∀ x ∈ P, sc.names.lookup x = some .local ∨ sc.names.lookup x = some .cell
  nofree : ∀ y ∈ sc.names, y.2 ≠ .free

theorem bindL_out {kindOf : Str → Option NameKind} {x : Str} : ∀ {binds : List (Str × Value)} {m : Str → Option Value}, (∀ v, (x, v) ∉ binds) → bindL kindOf binds m x = m x
  | [], _, _ => rfl
  | (n, v) :: r, m, h => by
    unfold bindL
    rw [bindL_out fun w hw => h w (List.mem_cons_of_mem _ hw)]
    split
    · have : x ≠ n := by rintro rfl; exact h v List.mem_cons_self
      simp [this]
    · rfl
theorem bindC_out {kindOf : Str → Option NameKind} {x : Str} : ∀ {binds : List (Str × Value)} {m : Str → Option Value}, (∀ v, (x, v) ∉ binds) → bindC kindOf binds m x = m x
  | [], _, _ => rfl
  | (n, v) :: r, m, h => by
    unfold bindC
    rw [bindC_out fun w hw => h w (List.mem_cons_of_mem _ hw)]
    split
    · rfl
    · have : x ≠ n := by rintro rfl; exact h v List.mem_cons_self
      simp [this]
theorem bindL_get {kindOf : Str → Option NameKind} {x : Str} {v : Value} : ∀ {P : List Str} {vs : List Value} {i : Nat} {m : Str → Option Value}, P.Nodup → P[i]? = some x → vs[i]? = some v → kindOf x = some .local →
    bindL kindOf (P.zip vs) m x = some v
  | [], _, _, _, _, h, _, _ => by simp at h
  | _ :: _, [], _, _, _, _, h, _ => by simp at h
  | p :: P, w :: vs, 0, m, nd, h1, h2, hk => by
    simp at h1 h2; subst h1; subst h2
    show bindL kindOf ((p, w) :: P.zip vs) m p = _
    unfold bindL
    rw [bindL_out fun v hv => (List.nodup_cons.mp nd).1 (List.of_mem_zip hv).1, if_pos hk]
    simp
  | p :: P, w :: vs, i + 1, m, nd, h1, h2, hk => by
    show bindL kindOf ((p, w) :: P.zip vs) m x = _
    unfold bindL
    exact bindL_get (i := i) (List.nodup_cons.mp nd).2 (by simpa using h1) (by simpa using h2) hk
theorem bindC_get {kindOf : Str → Option NameKind} {x : Str} {v : Value} : ∀ {P : List Str} {vs : List Value} {i : Nat} {m : Str → Option Value}, P.Nodup → P[i]? = some x → vs[i]? = some v → kindOf x ≠ some .local →
    bindC kindOf (P.zip vs) m x = some v
  | [], _, _, _, _, h, _, _ => by simp at h
  | _ :: _, [], _, _, _, _, h, _ => by simp at h
  | p :: P, w :: vs, 0, m, nd, h1, h2, hk => by
    simp at h1 h2; subst h1; subst h2
    show bindC kindOf ((p, w) :: P.zip vs) m p = _
    unfold bindC
    rw [bindC_out fun v hv => (List.nodup_cons.mp nd).1 (List.of_mem_zip hv).1, if_neg hk]
    simp
  | p :: P, w :: vs, i + 1, m, nd, h1, h2, hk => by
    show bindC kindOf ((p, w) :: P.zip vs) m x = _
    unfold bindC
    exact bindC_get (i := i) (List.nodup_cons.mp nd).2 (by simpa using h1) (by simpa using h2) hk


def start (N : List Str) (vs : List V) : St := vs.map some ++ List.replicate (N.length - vs.length) none


def cxOf (CX : CXT) (P : Program) (w : World) (K : PySem.W.Frag) (mg : Str → Option Value) (base : Heap) (N : List Str) (qual : Str) (scope : Scope) (f : Addr) (cd : Value) (A : Around) (outer : List Env) (s : Shared) (H : Hp) (E : XK) : Cx where
  prog := P
  w := w
  K := K
  mg := mg
  base := base
  A := A.deeper (envOfC qual scope s.heap.objs.size f cd)
  N := N
  s₀ := s
  H₀ := H
  env := envOfC qual scope s.heap.objs.size f cd
  outer := outer
  stack := envOfC qual scope s.heap.objs.size f cd :: outer
  ex := []
  calm := true
  fn := fun _ => true
  pn := []
  xe := fun e s' => wpAny (model P w) (A.deeper (envOfC qual scope s.heap.objs.size f cd)) (leaving (envOfC qual scope s.heap.objs.size f cd) e) (fun _ s'' => CX outer H s E e s'') (fun e' s'' => CX outer H s E e' s'') s'

theorem cell_has {sc : Scope} {n : Nat} {x : Str} (h : sc.names.lookup x = some .cell) : ∃ c, (cellsFrom n sc.names []).lookup x = some c := by
  have q := PySem.W.cellsFrom_some sc.names n [] (.inl h)
  exact Option.isSome_iff_exists.mp q

theorem inv_start {CX : CXT} {P : Program} {w : World} {K : PySem.W.Frag} {mg : Str → Option Value} {base : Heap} {N ps : List Str} {qual : Str} {scope : Scope} {f : Addr} {cd : Value} {A : Around} {outer : List Env} {s s1 : Shared} {H : Hp} {E : XK} {us : List Value} {vs : List V}
    (S : FnScope N ps scope) (hd : A.handled = none) (e0 : Env0 P w K mg base A outer s H) (hl : vs.length = ps.length) (r : Vals vs us)
    (x : InCallC s s.heap.objs.size (bindL (envOfC qual scope s.heap.objs.size f cd).kindOf (ps.zip us) fun _ => none) (cellsFrom (s.heap.objs.size + 1) scope.names []) (bindC (envOfC qual scope s.heap.objs.size f cd).kindOf (ps.zip us) fun _ => none) s1) :
    Inv (cxOf CX P w K mg base N qual scope f cd A outer s H E) [] (start N vs) H s1 := by
  have hpl : ps.length ≤ N.length := by have := congrArg List.length S.pre; rw [List.length_take] at this; omega
  obtain ⟨h1, tk, rfl, hk⟩ := x.done
  have noA : ∀ b : Addr, b ∉ (cxOf CX P w K mg base N qual scope f cd A outer s H E).ex := fun b z => absurd (show b ∈ ([] : List Addr) from z) (by simp)
  refine ⟨⟨e0.mod, S.kind, rfl, rfl, Nat.le_refl _, fun y z c h1 h2 => ?_, fun y hy => ?_, fun y c _ h => ?_, fun _ => hd, Around.frames_deeper e0.frames, .inr ⟨rfl, rfl⟩, fun b z => absurd z (noA b), e0.bs, e0.bsz, fun b _ _ => noA b, fun b z => absurd z (noA b), e0.funs, e0.frf⟩,
    rfl, e0.bare, Un.kept hk, ⟨_, x.toInCall.ns, fun i y v h1 h2 h3 => ?_⟩, fun y c h => ⟨_, x.cell y c h⟩, e0.hok.fresh (Nat.le_refl _), fun y c h => ?_, fun p hp => absurd (show p ∈ ([] : List (Addr × Obj)) from hp) (by simp), e0.hok.kept hk, ?_⟩
  · exact name_of_addr x.apart (PySem.mem_of_lookup h1) (PySem.mem_of_lookup h2)
  · have hy : scope.names.lookup y = some .cell ∨ scope.names.lookup y = some .free := hy
    rcases hy with hy | hy
    · exact cell_has hy
    · exact absurd rfl (S.nofree _ (PySem.mem_of_lookup hy))
  · exact Nat.le_of_lt (x.above y c (PySem.mem_of_lookup h))
  · have hi : i < vs.length := by
      unfold start at h2
      by_cases hi : i < vs.length
      · exact hi
      · rw [List.getElem?_append_right (by simpa using hi)] at h2
        rw [List.getElem?_replicate] at h2
        split at h2 <;> cases h2
    have ha : vs[i]? = some v := by
      unfold start at h2
      rw [List.getElem?_append_left (by simpa using hi), List.getElem?_map] at h2
      cases e : vs[i]? with
      | none => rw [e] at h2; cases h2
      | some a => rw [e] at h2; cases h2; rfl
    obtain ⟨u, hu, rv⟩ := r.get ha
    have hp : ps[i]? = some y := by
      rw [← S.pre, List.getElem?_take_of_lt (by omega)]; exact h1
    have ndP : ps.Nodup := by rw [← S.pre]; exact S.nd.sublist (List.take_sublist _ _)
    refine ⟨u, rv, ?_⟩
    rcases S.par y (List.mem_of_getElem? hp) with k | k
    · exact .inl ⟨k, bindL_get ndP hp hu k⟩
    · obtain ⟨c, e⟩ := cell_has (n := s.heap.objs.size + 1) k
      refine .inr ⟨.inl k, c, e, ?_⟩
      have q := x.cell y c e
      rw [bindC_get ndP hp hu (by show scope.names.lookup y ≠ _; rw [k]; decide)] at q
      exact q
  · exact e0.hok.fresh (Nat.le_of_lt (x.above y c (PySem.mem_of_lookup h)))
  · unfold start
    show _ = N.length
    rw [List.length_append, List.length_map, List.length_replicate]
    omega


theorem fn_of {CX : CXT} {P : Program} {w : World} {K : PySem.W.Frag} {mg : Str → Option Value} {base : Heap} {k : Nat} {f : Addr} {name qual : Str} {params : Arguments} {body : List Stmt} {scope : Scope} {dV kV doc pm cdv ct oc : Value} {an od : Option Addr}
    {osl : Array (Option Value)} {N ps : List Str} {sp : Sp} (lk : K.lookup f = some ⟨oc, od, .func (PySem.W.fnOf name qual params body scope dV kV doc pm an cdv ct), osl⟩) (hcd : PySem.W.codeIn K cdv qual = true) (S : FnScope N ps scope)
    (len : ∀ vs H Q E, sp vs H Q E → vs.length = ps.length)
    (hbody : ∀ (A : Around) (outer : List Env) (s : Shared) (H : Hp) (vs : List V) (Q : VK) (E : XK), Room k (A.deeper (envOfC qual scope s.heap.objs.size f cdv)) → sp vs H Q E →
      ∃ t, PSs (cxOf CX P w K mg base N qual scope f cdv A outer s H E) body t ∧ t { nx := fun _ H' => Q .non H', rt := Q } (start N vs) H) :
    FnOk P w K mg base CX (k + 1) f (PySem.W.fnOf name qual params body scope dV kV doc pm an cdv ct) ps sp := by
  refine ⟨len, fun A outer s H args us vs Q E hr e0 hb r hsp => ?_⟩
  have hl := len _ _ _ _ hsp
  have KX : K.In s.heap := e0.mod.kin.keeps fun b o e => (e0.bs b o e).1
  have lim : s.heap.NoLimit := e0.mod.nolimit.keeps fun b o e => (e0.bs b o e).1
  have hkind : ∀ y ∈ ps.zip us, scope.names.lookup y.1 = some .local ∨ (scope.names.lookup y.1 = some .cell ∧ ((cellsFrom (s.heap.objs.size + 1) scope.names []).lookup y.1).isSome = true) := fun ⟨n, v⟩ hy => by
    rcases S.par n (List.of_mem_zip hy).1 with q | q
    · exact .inl q
    · exact .inr ⟨q, PySem.W.cellsFrom_some _ _ _ (.inl q)⟩
  refine codeAny_call_function hr.depth (KX _ _ lk) rfl S.co S.gen rfl (PySem.W.codeRec_of KX hcd) (hb _ _ _ _ ?_)
  refine wpAny_newFunctionEnv_cells S.kind hkind fun env he s1 x => ?_
  subst he
  refine ⟨lim.keeps x.toInCall.keep, codeAny_func ?_⟩
  obtain ⟨t, ht, hq⟩ := hbody A outer s H vs Q E (hr.deeper _) hsp
  have I : Inv (cxOf CX P w K mg base N qual scope f cdv A outer s H E) [] (start N vs) H s1 := inv_start S hr.hd e0 hl r x
  refine wpAny_mono (ht [] s1 (start N vs) H _ I hq) (fun fl s' hs => ?_) fun e s' hs => hs
  have fin : ∀ {σ' : St} {H' : Hp} {v : V} {u : Value}, Inv (cxOf CX P w K mg base N qual scope f cdv A outer s H E) [] σ' H' s' → RelV v u → Q v H' → CE outer P w H s Q u s' :=
    fun {σ' H' v u} J rv q => ⟨v, H', J.os, J.bare, J.base, J.hok, rv, q⟩
  cases fl with
  | ret u =>
    obtain ⟨v, σ', H', J, rv, q⟩ := hs
    exact fin J rv q
  | next =>
    obtain ⟨σ', H', J, q⟩ := hs
    exact fin (v := V.non) (u := Value.none) J rfl q
  | brk =>
    obtain ⟨_, _, _, q⟩ := hs
    exact False.elim q
  | cont =>
    obtain ⟨_, _, _, q⟩ := hs
    exact False.elim q
end L2

namespace L2
open PySem PySem.Spec PyProof.Rows
section
variable {X : Cx} {x : Str} {p pos : Pos} {e : Expr} {es : List Expr} {t : TA} {id T : String} {r : List V → Hp → VK → Prop}

def tCB (r : List V → Hp → VK → Prop) (t : TA) : TE := fun σ H Q => t σ H fun vs H1 => r vs H1 Q

theorem pe_callB (hc : CallR X (.builtin id) r) (hg : Gl X x) (hm : X.mg x = none) (hv : bootBuiltins x = some (.builtin id)) (ha : PA X (e :: es) t) (hn : x ≠ "__name__" := by decide) (hdb : (x == ("__debug__" : Str)) = false := by decide)
    (he : starEach (e :: es) X.env = (false, eval e X.env) :: starEach es X.env := by rfl) (hpl : (backTo pos (starEach es X.env)).any (·.1) = false := by rfl) : PE X (.Call (.Name x p) (e :: es) [] pos) (tCB r t) := by
  intro pins s σ H Q I h
  refine wpAny_Call_Name_kw (ld_blt I hg hm hv ?_ hn hdb)
  exact PyProof.Rows.callWith_builtin1 (thn (ha pos pins s σ H _ I h) fun us s1 ⟨vs, H1, I1, r1, q1⟩ => hc pins s1 σ H1 vs us Q I1 r1 q1) he hpl

theorem pe_callTy (hc : CallR X (.type T) r) (hg : Gl X x) (hm : X.mg x = none) (hv : bootBuiltins x = some (.type T)) (ha : PA X (e :: es) t) (hn : x ≠ "__name__" := by decide) (hdb : (x == ("__debug__" : Str)) = false := by decide)
    (he : starEach (e :: es) X.env = (false, eval e X.env) :: starEach es X.env := by rfl) (hpl : (backTo pos (starEach es X.env)).any (·.1) = false := by rfl) : PE X (.Call (.Name x p) (e :: es) [] pos) (tCB r t) := by
  intro pins s σ H Q I h
  refine wpAny_Call_Name_kw (ld_blt I hg hm hv ?_ hn hdb)
  exact PyProof.Rows.callWith_type1 (thn (ha pos pins s σ H _ I h) fun us s1 ⟨vs, H1, I1, r1, q1⟩ => hc pins s1 σ H1 vs us Q I1 r1 q1) he hpl

end
end L2

namespace HT
open PySem PyProof.Rows


def lexLt : List Int → List Int → Bool
  | [], [] => false
  | [], _ :: _ => true
  | _ :: _, [] => false
  | x :: xs, y :: ys => if x = y then lexLt xs ys else decide (x < y)
section
open PySem.SeqAt
open PySem.AutoSeq1 (wpAny_loadPart')
open PySem.MeetsSeq PySem.MeetsSeq2 PySem.MeetsSeq3

end

section
variable {prog : Program} {w : World} {A : Around} {E : Value → Shared → Prop} {s : Shared}

theorem cat_tup {t b : Addr} {vs ws : List Value} {Q : Value → Shared → Prop} (ht : IsTup s.heap t vs.toArray) (hb : IsTup s.heap b ws.toArray) (hv : vs ≠ [])
    (h1 : ws = [] → Q (.ref t) s) (h2 : ws ≠ [] → Q (.ref s.heap.objs.size) { s with heap := s.heap.push { cls := .type "tuple", data := .seq (vs ++ ws).toArray } })
    (hsz : vs.length + ws.length ≤ sizeLine) : wpAny (model prog w) A (binaryOp .Add (.ref t) (.ref b)) Q E s := by
  obtain ⟨⟨cls, dd, data, sl⟩, ho, hc, n, hd⟩ := id ht
  obtain ⟨⟨cls2, dd2, data2, sl2⟩, ho2, hc2, n2, hd2⟩ := id hb
  simp only at hc hd hc2 hd2
  subst hc hd hc2 hd2
  have e : vs.toArray ++ ws.toArray = (vs ++ ws).toArray := by simp
  by_cases hw : ws = []
  · exact concat_meets ⟨_, ho, rfl⟩ ⟨_, ho2, rfl⟩ noFill_tuple_add seq_tuple_add PySem.F.slot_tuple_add PySem.F.entry_tuple_add (PySem.F.args_tuple_add_2 _ _)
      (tuple_addW1 t b vs.toArray ws.toArray n n2 dd dd2 sl sl2 (by simpa using hv) (by simp [hw])) ⟨ho, ho2, h1 hw⟩
  · refine concat_meets ⟨_, ho, rfl⟩ ⟨_, ho2, rfl⟩ noFill_tuple_add seq_tuple_add PySem.F.slot_tuple_add PySem.F.entry_tuple_add (PySem.F.args_tuple_add_2 _ _)
      (tuple_addW2 t b vs.toArray ws.toArray n n2 dd dd2 sl sl2 (by simpa using hv) (by simpa using hw) (by rw [List.size_toArray, List.size_toArray]; exact hsz)) ⟨ho, ho2, ?_⟩
    rw [e]
    exact h2 hw



def sIx (n d : Nat) : Option Int → Nat
  | none => d
  | some v => if v < 0 then (v + (n : Int)).toNat else min v.toNat n
theorem sIx_none (n d : Nat) : sIx n d none = d := rfl
theorem sIx_nat (n d k : Nat) : sIx n d (some (k : Int)) = min k n := by
  show (if (k : Int) < 0 then ((k : Int) + (n : Int)).toNat else min (k : Int).toNat n) = min k n
  rw [if_neg (by omega), Int.toNat_natCast]
theorem sIx_le (n d : Nat) (hd : d ≤ n) (o : Option Int) : sIx n d o ≤ n := by
  cases o with
  | none => exact hd
  | some v =>
    show (if v < 0 then (v + (n : Int)).toNat else min v.toNat n) ≤ n
    by_cases hv : v < 0
    · rw [if_pos hv]; omega
    · rw [if_neg hv]; exact Nat.min_le_right _ _
theorem clip_eq (v : Int) (n d : Nat) : (if v < 0 then max (v + (n : Int)) 0 else min v (n : Int)) = ((sIx n d (some v) : Nat) : Int) := by
  show (if v < 0 then max (v + (n : Int)) 0 else min v (n : Int)) = (((if v < 0 then (v + (n : Int)).toNat else min v.toNat n) : Nat) : Int)
  by_cases hv : v < 0
  · simp only [if_pos hv]; omega
  · simp only [if_neg hv]; omega
theorem adjust_gen (lo hi : Option Int) (n : Nat) : Builtin.Slice.sliceAdjust lo hi 1 (n : Int) = (((sIx n 0 lo : Nat) : Int), ((sIx n n hi : Nat) : Int)) := by
  have h1 : ¬ ((1 : Int) < 0) := by omega
  unfold Builtin.Slice.sliceAdjust
  simp only [h1, if_false]
  refine Prod.ext ?_ ?_
  · cases lo with
    | none => rfl
    | some v => exact clip_eq v n 0
  · cases hi with
    | none => rfl
    | some v => exact clip_eq v n n
theorem places_gen (i j : Nat) : Builtin.Slice.slicePlaces (i : Int) (j : Int) 1 = j - i := by
  unfold Builtin.Slice.slicePlaces
  have h1 : (1 : Int) > 0 := by omega
  simp only [h1, if_true, Int.ediv_one]
  split <;> omega
theorem slicePart_ {v : Value} {o : Option Int} {Q : Option Int → Shared → Prop} (p : IsPart v o) (h : Q o s) : wpAny (model prog w) A (Builtin.Slice.slicePartIndex v) Q E s := by
  cases p with
  | none => exact slicePart_none h
  | int i t => exact slicePart_int h
theorem sliceApplied_gen {sl : Addr} {vl vu : Value} {lo hi : Option Int} {n : Nat} {Q : Int × Int × Nat → Shared → Prop} (hs : s.heap.IsSliceOf sl vl vu .none) (pl : IsPart vl lo) (pu : IsPart vu hi)
    (h : Q (((sIx n 0 lo : Nat) : Int), 1, sIx n n hi - sIx n 0 lo) s) : wpAny (model prog w) A (Builtin.Slice.sliceApplied (.ref sl) (pure (n : Int))) Q E s := by
  obtain ⟨os, hos, hcs, hds⟩ := id hs
  unfold Builtin.Slice.sliceApplied Builtin.Slice.sliceFields
  refine wpAny_bind (wpAny_bind (wpAny_field hos hds (x := vl) rfl (wpAny_bind (wpAny_field hos hds (x := vu) rfl (wpAny_bind (wpAny_field hos hds (x := .none) rfl (wpAny_pure ?_)))))))
  refine wpAny_bind (slicePart_none ?_)
  show wpAny _ _ (if ((1 : Int) == 0) = true then _ else _) _ _ s
  rw [if_neg (by decide)]
  refine wpAny_bind (slicePart_ pl (wpAny_bind (slicePart_ pu (wpAny_bind (wpAny_pure ?_)))))
  show wpAny _ _ (match Builtin.Slice.sliceAdjust lo hi 1 (n : Int) with | (lo, hi) => pure (lo, (1 : Int), Builtin.Slice.slicePlaces lo hi 1)) _ _ s
  rw [adjust_gen lo hi n]
  show wpAny _ _ (pure (((sIx n 0 lo : Nat) : Int), (1 : Int), Builtin.Slice.slicePlaces ((sIx n 0 lo : Nat) : Int) ((sIx n n hi : Nat) : Int) 1)) _ _ s
  rw [places_gen]
  exact wpAny_pure h
theorem pick_gen (xs : Array Value) (i k : Nat) : ((List.range k).filterMap fun (m : Nat) => xs[((i : Int) + (m : Int) * 1).toNat]?).toArray = ((xs.toList.drop i).take k).toArray := by
  have e : (fun (m : Nat) => xs[((i : Int) + (m : Int) * 1).toNat]?) = fun m => xs[i + m]? := by
    funext m
    have : ((i : Int) + (m : Int) * 1).toNat = i + m := by omega
    rw [this]
  rw [e]
  have := pick_run xs i k
  rw [List.filterMap_map] at this
  have e2 : ((fun x => xs[x]?) ∘ fun x => i + x) = fun m => xs[i + m]? := rfl
  rw [e2] at this
  rw [this]

theorem getItem_tuple_cut {t sl : Addr} {items : Array Value} {vl vu : Value} {lo hi : Option Int} {Q : Value → Shared → Prop} (ht : IsTup s.heap t items) (hs : s.heap.IsSliceOf sl vl vu .none) (pl : IsPart vl lo) (pu : IsPart vu hi)
    (hw : ¬ (sIx items.size 0 lo = 0 ∧ sIx items.size items.size hi = items.size))
    (h : Q (.ref s.heap.objs.size) { s with heap := s.heap.push { cls := .type "tuple", data := .seq ((items.toList.drop (sIx items.size 0 lo)).take (sIx items.size items.size hi - sIx items.size 0 lo)).toArray } })
    (hsz : items.size ≤ sizeLine) : wpAny (model prog w) A (getItem (.ref t) (.ref sl)) Q E s := by
  have htake : sizeOk (.seq ((items.toList.drop (sIx items.size 0 lo)).take (sIx items.size items.size hi - sIx items.size 0 lo)).toArray) := by
    show ((items.toList.drop (sIx items.size 0 lo)).take (sIx items.size items.size hi - sIx items.size 0 lo)).toArray.size ≤ sizeLine
    rw [List.size_toArray, List.length_take, List.length_drop, Array.length_toList]
    omega
  have hj : sIx items.size items.size hi ≤ items.size := sIx_le _ _ (Nat.le_refl _) hi
  obtain ⟨os, hos, hcs, hds⟩ := id hs
  have hTs : s.TypeIs (.ref sl) "slice" := ⟨os, hos, hcs⟩
  unfold getItem
  try with_reducible refine wpAny_holding ?_
  first | refine wpAny_bind (wpAny_pure ?_) | skip
  refine wpAny_bind (wpAny_sequenceKey ht.typeIs (by decide) ?_)
  refine wpAny_bind (wpAny_callSpecial?_slot (name := Str.ofString "__getitem__") ht.typeIs PyProof.Rows.slot_tuple_getitem
    (wpAny_call_entry PyProof.Rows.slot_tuple_getitem ht.typeIs entry_tuple_getitem ?_ (args_tuple_getitem _ _)))
  show wpAny _ _ (Builtin.Tuple.tupleItemsOf (.ref t) >>= _) _ _ s
  refine wpAny_bind (tupleItemsOf_ ht ?_)
  refine wpAny_bind (wpAny_typeOf hTs ?_)
  rw [if_pos (by decide)]
  refine wpAny_bind (sliceApplied_gen hs pl pu ?_)
  have hno : ¬ ((((sIx items.size 0 lo : Nat) : Int) == 0 && (1 : Int) == 1 && (sIx items.size items.size hi - sIx items.size 0 lo) == items.size) = true) := by
    intro q
    rw [Bool.and_eq_true, Bool.and_eq_true] at q
    have q1 : ((sIx items.size 0 lo : Nat) : Int) = 0 := eq_of_beq q.1.1
    have q2 : sIx items.size items.size hi - sIx items.size 0 lo = items.size := eq_of_beq q.2
    exact hw ⟨by omega, by omega⟩
  show wpAny _ _ (if (((sIx items.size 0 lo : Nat) : Int) == 0 && (1 : Int) == 1 && (sIx items.size items.size hi - sIx items.size 0 lo) == items.size) = true then _ else _) _ _ s
  rw [if_neg hno, pick_gen]
  first
    | exact wpAny_bind (m := Builtin.Tuple.tupleExact _) (wpAny_newObj_type (wpAny_pure ⟨_, rfl, wpAny_pure h⟩) htake)
    | exact wpAny_bind (m := Builtin.Tuple.tupleExact _) (wpAny_newObj_type (wpAny_bind (wpAny_pure (wpAny_pure ⟨_, rfl, wpAny_pure h⟩))) htake)
    | exact wpAny_bind (wpAny_bind (m := Builtin.Tuple.tupleExact _) (wpAny_newObj_type (wpAny_pure (wpAny_pure ⟨_, rfl, wpAny_pure h⟩)) htake))
    | exact wpAny_bind (wpAny_bind (m := Builtin.Tuple.tupleExact _) (wpAny_newObj_type (wpAny_pure ⟨_, rfl, wpAny_pure h⟩) htake))
end
end HT

namespace L2
open PySem PySem.Spec PyProof.Rows


abbrev TO := St → Hp → (Option Int → Hp → Prop) → Prop

def PO (X : Cx) (e : Option Expr) (t : TO) : Prop :=
  ∀ (pins : List (Addr × Obj)) (s : Shared) (σ : St) (H : Hp) (Q : Option Int → Hp → Prop), Inv X pins σ H s → t σ H Q →
    wpAny (model X.prog X.w) X.A (evalPart e X.env) (fun u s' => ∃ o H', Inv X pins σ H' s' ∧ IsPart u o ∧ Q o H') X.xe s
def tNoPart : TO := fun _ H Q => Q none H
def tPart (t : TE) : TO := fun σ H Q => t σ H fun x H1 => ∃ i, x = .int i ∧ Q (some i) H1

section
variable {X : Cx} {e : Expr} {te : TE} {lo hi : Option Expr} {tl th : TO} {pos p2 : Pos}

theorem po_none : PO X none tNoPart := by
  intro pins s σ H Q I h
  rw [evalPart_none]
  exact wpAny_pure ⟨none, H, I, .none, h⟩
theorem po_some (h : PE X e te) : PO X (some e) (tPart te) := by
  intro pins s σ H Q I hw
  rw [evalPart_some]
  refine thn (h pins s σ H _ I hw) fun u s1 ⟨x, H1, I1, r1, q1⟩ => ?_
  obtain ⟨i, rfl, q⟩ := q1
  obtain ⟨t, rfl⟩ := r1
  exact ⟨some i, H1, I1, .int i t, q⟩


def SlR (X : Cx) (r : V → Option Int → Option Int → Hp → VK → Prop) : Prop :=
  ∀ (pins : List (Addr × Obj)) (s : Shared) (σ : St) (H : Hp) (x : V) (v vl vu : Value) (lo hi : Option Int) (sl : Addr) (Q : VK), Inv X pins σ H s → RelV x v → s.heap.IsSliceOf sl vl vu .none → IsPart vl lo → IsPart vu hi → r x lo hi H Q →
    ∃ T id, typeLookup (.type T) "__getitem__" = pure (some (.builtin id)) ∧ s.TypeIs v T ∧ wpAny (model X.prog X.w) X.A (getItem v (.ref sl)) (EP X pins σ Q) X.xe s
def tSl (r : V → Option Int → Option Int → Hp → VK → Prop) (te : TE) (tl th : TO) : TE := fun σ H Q => te σ H fun x H1 => tl σ H1 fun l H2 => th σ H2 fun u H3 => r x l u H3 Q

theorem pe_slice {r : V → Option Int → Option Int → Hp → VK → Prop} (hr : SlR X r) (he : PE X e te) (hl : PO X lo tl) (hu : PO X hi th) : PE X (.Subscript e (.Slice lo hi none p2) pos) (tSl r te tl th) := by
  intro pins s σ H Q I h
  refine Subscript_ (thn (he pins s σ H _ I h) fun v s1 ⟨x, H1, I1, r1, q1⟩ => ?_)
  refine wpAny_Slice (thn (hl pins s1 σ H1 _ I1 q1) fun vl s2 ⟨l, H2, I2, pl, q2⟩ => thn (hu pins s2 σ H2 _ I2 q2) fun vu s3 ⟨u, H3, I3, pu, q3⟩ => ?_)
  rw [evalPart_none]
  refine wpAny_pure ?_
  have I4 : Inv X pins σ H3 { s3 with heap := s3.heap.push { cls := .type "slice", data := .fields #[vl, vu, .none] } } := I3.kept (t' := s3.toks) fun b ob q => Heap.get?_push_of_some _ q
  obtain ⟨T, id, hT, ht, hg⟩ := hr pins { s3 with heap := s3.heap.push { cls := .type "slice", data := .fields #[vl, vu, .none] } } σ H3 x v vl vu l u s3.heap.objs.size Q I4 r1 (Heap.IsSliceOf.new ..) pl pu q3
  show wpAny (model X.prog X.w) X.A (subscriptTail e (.Slice lo hi none p2) v (.ref s3.heap.objs.size)) (EP X pins σ Q) X.xe { s3 with heap := s3.heap.push { cls := .type "slice", data := .fields #[vl, vu, .none] } }
  exact tail_any (ops := [.ref s3.heap.objs.size, v]) ht hT hg (by with_unfolding_all rfl)


def cutV (xs : List V) (lo hi : Option Int) : List V := (xs.drop (HT.sIx xs.length 0 lo)).take (HT.sIx xs.length xs.length hi - HT.sIx xs.length 0 lo)
theorem cutV_length (xs : List V) (lo hi : Option Int) : (cutV xs lo hi).length ≤ xs.length := by
  unfold cutV
  rw [List.length_take, List.length_drop]
  omega

def rSlT (K : PySem.W.Frag) : V → Option Int → Option Int → Hp → VK → Prop := fun x lo hi H Q => ∃ a xs, x = .ref a ∧ SqT K H a xs ∧
  ¬ (HT.sIx xs.length 0 lo = 0 ∧ HT.sIx xs.length xs.length hi = xs.length) ∧ ∀ p, H p = none → Q (.ref p) (upd H p (.tup (cutV xs lo hi)))
theorem sl_tup : SlR X (rSlT X.K) := by
  intro pins s σ H x v vl vu lo hi sl Q I rx hs pl pu h
  obtain ⟨a, xs, rfl, hx, hw, q⟩ := h
  cases rx
  obtain ⟨its, r, ht, hz⟩ := I.tuple hx
  have hlen : its.toArray.size = xs.length := by rw [List.size_toArray]; exact r.length.symm
  refine ⟨"tuple", _, PyProof.Rows.slot_tuple_getitem.lookup, ht.typeIs, ?_⟩
  refine HT.getItem_tuple_cut ht hs pl pu (by rw [hlen]; exact hw) ?_ (by rw [hlen]; exact hz)
  rw [hlen]
  refine ⟨.ref s.heap.objs.size, _, I.laid (t' := s.toks) (o := .tup (cutV xs lo hi)) (fun b ob q => Heap.get?_push_of_some _ q) (Nat.le_refl _) ?_, rfl, q _ (I.hok.fresh (Nat.le_refl _))⟩
  exact ⟨Nat.le_trans (cutV_length xs lo hi) hz, _, (r.drop (HT.sIx xs.length 0 lo)).take (HT.sIx xs.length xs.length hi - HT.sIx xs.length 0 lo), IsTupN.new _ _⟩


def rLtT (K : PySem.W.Frag) : R2 := fun x y H Q => ∃ a b ns ms, x = .ref a ∧ y = .ref b ∧ SqT K H a (ns.map V.int) ∧ SqT K H b (ms.map V.int) ∧ Q (.bl (HT.lexLt ns ms)) H
def rCatT (K : PySem.W.Frag) : R2 := fun x y H Q => ∃ a b xs ys, x = .ref a ∧ y = .ref b ∧ SqT K H a xs ∧ SqT K H b ys ∧ xs ≠ [] ∧ xs.length + ys.length ≤ sizeLine ∧
  (ys = [] → Q (.ref a) H) ∧ (ys ≠ [] → ∀ p, H p = none → Q (.ref p) (upd H p (.tup (xs ++ ys))))
theorem Vals.nil_iff {xs : List V} {us : List Value} (r : Vals xs us) : us = [] ↔ xs = [] := by
  cases r with
  | nil => simp
  | cons _ _ => simp
theorem op_catT : OpR X (binaryOp .Add) (rCatT X.K) := by
  intro pins s σ H x y v u Q I rx ry h
  obtain ⟨a, b, xs, ys, rfl, rfl, ha, hb, hx, hz, q1, q2⟩ := h
  cases rx
  cases ry
  obtain ⟨its, r1, p1, _⟩ := I.tuple ha
  obtain ⟨its2, r2, p2, _⟩ := I.tuple hb
  refine HT.cat_tup p1 p2 (fun z => hx (r1.nil_iff.mp z)) (fun z => ⟨.ref a, H, I, rfl, q1 (r2.nil_iff.mp z)⟩) (fun z => ?_) (by rw [← r1.length, ← r2.length]; exact hz)
  refine ⟨.ref s.heap.objs.size, _, I.laid (t' := s.toks) (o := .tup (xs ++ ys)) (fun b ob q => Heap.get?_push_of_some _ q) (Nat.le_refl _) ?_, rfl, q2 (fun w => z (r2.nil_iff.mpr w)) _ (I.hok.fresh (Nat.le_refl _))⟩
  exact ⟨by rw [List.length_append]; exact hz, _, r1.append r2, IsTupN.new _ _⟩

end
end L2

namespace L2
open PySem PySem.Spec PyProof.Rows



def ixN (n : Nat) (i : Int) : Option Nat := if 0 ≤ i then (if i < n then some i.toNat else none) else if -(n : Int) ≤ i then some (i + n).toNat else none
def atI {α : Type} (xs : List α) (i : Int) : Option α := (ixN xs.length i).bind fun j => xs[j]?
theorem ixN_seq {n : Nat} {i : Int} {j : Nat} (h : ixN n i = some j) : seqIndex? i n = some j ∧ j < n ∧ -(n : Int) ≤ i ∧ i < n := by
  unfold ixN at h
  by_cases h0 : 0 ≤ i
  · rw [if_pos h0] at h
    by_cases h1 : i < n
    · rw [if_pos h1] at h
      have e : i.toNat = j := Option.some.inj h
      exact ⟨by rw [seqIndex_of h0 h1, e], by omega, by omega, h1⟩
    · rw [if_neg h1] at h; cases h
  · rw [if_neg h0] at h
    by_cases h1 : -(n : Int) ≤ i
    · rw [if_pos h1] at h
      have e : (i + n).toNat = j := Option.some.inj h
      exact ⟨by rw [seqIndex_neg (by omega) h1, e], by omega, h1, by omega⟩
    · rw [if_neg h1] at h; cases h
theorem atI_get {α : Type} {xs : List α} {i : Int} {v : α} (h : atI xs i = some v) : ∃ j, seqIndex? i xs.length = some j ∧ xs[j]? = some v ∧ j < xs.length ∧ -(xs.length : Int) ≤ i ∧ i < xs.length := by
  unfold atI at h
  cases e : ixN xs.length i with
  | none => rw [e] at h; cases h
  | some j =>
    rw [e] at h
    obtain ⟨h1, h2, h3, h4⟩ := ixN_seq e
    exact ⟨j, h1, h, h2, h3, h4⟩
theorem atI_nat {α : Type} {xs : List α} {j : Nat} {v : α} (h : xs[j]? = some v) : atI xs (j : Int) = some v := by
  have hj : j < xs.length := (List.getElem?_eq_some_iff.mp h).1
  have e : ixN xs.length (j : Int) = some j := by
    unfold ixN
    rw [if_pos (by omega), if_pos (by omega)]; simp
  unfold atI; rw [e]; exact h
def PlainIx (b : Expr) : Prop := ∀ o i, subscripted b false o i = operate [o, i] (getItem o i)

def IxR (X : Cx) (r : R2) : Prop :=
  ∀ (value slice : Expr) (pins : List (Addr × Obj)) (s : Shared) (σ : St) (H : Hp) (x y : V) (v u : Value) (Q : VK), Inv X pins σ H s → RelV x v → RelV y u → r x y H Q →
    subscripted slice false v u = operate [v, u] (getItem v u) → wpAny (model X.prog X.w) X.A (subscriptTail value slice v u) (EP X pins σ Q) X.xe s

def MtR (X : Cx) (id : String) (r : V → List V → Hp → VK → Prop) : Prop :=
  ∀ (pins : List (Addr × Obj)) (s : Shared) (σ : St) (H : Hp) (x : V) (xs : List V) (v : Value) (us : List Value) (Q : VK), Inv X pins σ H s → RelV x v → Vals xs us → r x xs H Q →
    wpAny (model X.prog X.w) X.A (call (.builtin id) (v :: us)) (EP X pins σ Q) X.xe s
section
variable {X : Cx} {a b : Expr} {ta tb : TE} {pos : Pos}
theorem pe_ix {r : R2} (hr : IxR X r) (ha : PE X a ta) (hb : PE X b tb) (hs : PlainIx b) : PE X (.Subscript a b pos) (tOp r ta tb) := by
  intro pins s σ H Q I h
  exact Subscript_ (binT ha hb I h fun v u s2 x y H2 I2 rx ry q => hr a b pins s2 σ H2 x y v u Q I2 rx ry q (hs _ _))

def rIxL (K : PySem.W.Frag) : R2 := fun x y H Q => ∃ p xs i v, x = .ref p ∧ y = .int i ∧ SqL K H p xs ∧ atI xs i = some v ∧ Q v H
def rIxT (K : PySem.W.Frag) : R2 := fun x y H Q => ∃ p xs i v, x = .ref p ∧ y = .int i ∧ SqT K H p xs ∧ atI xs i = some v ∧ Q v H
def rIxS : R2 := fun x y H Q => ∃ z i c, x = .str z ∧ y = .int i ∧ z.length ≤ sizeLine ∧ atI z.cps.toList i = some c ∧ Q (.str ⟨#[c]⟩) H
theorem ix_list : IxR X (rIxL X.K) := by
  intro value slice pins s σ H x y v u Q I rx ry h hs
  obtain ⟨p, xs, i, z, rfl, rfl, hq, he, q⟩ := h
  cases rx
  obtain ⟨t, rfl⟩ := ry
  obtain ⟨its, r, pl, hz⟩ := I.list hq
  obtain ⟨j, h1, h2, h3, h4, h5⟩ := atI_get he
  obtain ⟨w, ew, rw'⟩ := r.get h2
  have hl := r.length
  have hn := line63
  have fin : EP X pins σ Q w s := ⟨z, H, I, rw', q⟩
  by_cases h0 : 0 ≤ i
  · have hj : i.toNat = j := by
      rw [seqIndex_of h0 h5] at h1
      exact Option.some.inj h1
    exact item_listR pl.isList h0 (by omega) (by rw [hj]; simpa using ew) fin hs
  · have hj : (i + (its.toArray.size : Int)).toNat = j := by
      rw [seqIndex_neg (by omega) h4] at h1
      rw [List.size_toArray, ← hl]
      exact Option.some.inj h1
    exact subscriptTail_builtinR (x := w) pl.isList.typeIs slot_list_getitem.lookup
      (wpAny_getItem_list_neg (Q := fun r s' => r = w ∧ EP X pins σ Q r s') pl.isList (by omega) (by rw [List.size_toArray] <;> omega) (by omega) (by rw [hj]; simpa using ew) ⟨rfl, fin⟩) hs
theorem ix_tup : IxR X (rIxT X.K) := by
  intro value slice pins s σ H x y v u Q I rx ry h hs
  obtain ⟨p, xs, i, z, rfl, rfl, hq, he, q⟩ := h
  cases rx
  obtain ⟨t, rfl⟩ := ry
  obtain ⟨its, r, pl, hz⟩ := I.tuple hq
  obtain ⟨j, h1, h2, h3, h4, h5⟩ := atI_get he
  obtain ⟨w, ew, rw'⟩ := r.get h2
  have hl := r.length
  have hn := line63
  have fin : EP X pins σ Q w s := ⟨z, H, I, rw', q⟩
  exact subscriptTail_builtinR (x := w) pl.typeIs slot_tuple_getitem.lookup
    (getItem_tuple (j := j) (Q := fun r s' => r = w ∧ EP X pins σ Q r s') pl (by omega) (by omega) (by rw [List.size_toArray, ← hl]; exact h1) (by simpa using ew) ⟨rfl, fin⟩) hs
theorem ix_str : IxR X rIxS := by
  intro value slice pins s σ H x y v u Q I rx ry h hs
  obtain ⟨z, i, c, rfl, rfl, hz, he, q⟩ := h
  obtain ⟨t, rfl⟩ := rx
  obtain ⟨t', rfl⟩ := ry
  obtain ⟨j, h1, h2, h3, h4, h5⟩ := atI_get he
  have hl : z.cps.toList.length = z.length := by simp [Str.length]
  rw [hl] at h1 h4 h5
  have hn := line63
  exact tail_any (typeIs_str s z t) slot_str_getitem.lookup (getItem_str (c := c) (by
    have e1 : decide (i < -(2 ^ 63 : Int)) = false := decide_eq_false (by omega)
    have e2 : decide (i ≥ 2 ^ 63) = false := decide_eq_false (by omega)
    rw [e1, e2, Bool.or_false]) (by rw [h1]; simpa using h2) ⟨.str ⟨#[c]⟩, H, I.tok _, ⟨_, rfl⟩, q⟩) hs

def rIx (K : PySem.W.Frag) : R2 := fun x y H Q => rIxL K x y H Q ∨ rIxT K x y H Q ∨ rIxS x y H Q
theorem Inv.lst {pins : List (Addr × Obj)} {σ : St} {H : Hp} {s : Shared} {p : Addr} {xs : List V} (I : Inv X pins σ H s) (h : H p = some (.lst xs)) :
    ∃ (its : List Value) (n : Nat), Vals xs its ∧ s.heap.get? p = some { cls := .type "list", data := .seq its.toArray n } ∧ xs.length ≤ sizeLine := by
  obtain ⟨z, its, n, r, e⟩ := I.hok p _ h
  exact ⟨its, n, r, e, z⟩

def rSetL : V → V → V → Hp → (Hp → Prop) → Prop := fun o i v H Q => ∃ p xs k j, o = .ref p ∧ i = .int k ∧ H p = some (.lst xs) ∧ ixN xs.length k = some j ∧ Q (upd H p (.lst (xs.set j v)))
theorem slice_bounds (lo hi : Option Int) (n : Nat) : (sliceBounds lo hi none n).1 = ((HT.sIx n 0 lo : Nat) : Int) ∧ (sliceBounds lo hi none n).2.1 = ((HT.sIx n n hi : Nat) : Int) ∧ (sliceBounds lo hi none n).2.2 = 1 := by
  refine ⟨?_, ?_, rfl⟩
  · cases lo with
    | none => simp [sliceBounds, HT.sIx]
    | some i =>
      simp only [sliceBounds, HT.sIx, Option.getD_none, show (1 : Int) > 0 by decide, if_true]
      by_cases h : i < 0
      · simp only [h, if_true] <;> omega
      · simp only [h, if_false] <;> omega
  · cases hi with
    | none => simp [sliceBounds, HT.sIx]
    | some i =>
      simp only [sliceBounds, HT.sIx, Option.getD_none, show (1 : Int) > 0 by decide, if_true]
      by_cases h : i < 0
      · simp only [h, if_true] <;> omega
      · simp only [h, if_false] <;> omega
theorem slicePick_cut (its : List Value) (lo hi : Option Int) : slicePick its.toArray lo hi none = ((its.drop (HT.sIx its.length 0 lo)).take (HT.sIx its.length its.length hi - HT.sIx its.length 0 lo)).toArray := by
  obtain ⟨h1, h2, h3⟩ := slice_bounds lo hi its.toArray.size
  unfold slicePick
  rw [h1, h2, h3]
  simp only [sliceRange_one, pick_run, List.size_toArray] <;> rfl

def rSlL (K : PySem.W.Frag) : V → Option Int → Option Int → Hp → VK → Prop := fun x lo hi H Q => ∃ a xs, x = .ref a ∧ SqL K H a xs ∧ ∀ p, H p = none → Q (.ref p) (upd H p (.lst (cutV xs lo hi)))
theorem sl_list : SlR X (rSlL X.K) := by
  intro pins s σ H x v vl vu lo hi sl Q I rx hs pl pu h
  obtain ⟨a, xs, rfl, hx, q⟩ := h
  cases rx
  obtain ⟨its, r, ht, hz⟩ := I.list hx
  have hlen := r.length
  refine ⟨"list", _, slot_list_getitem.lookup, ht.isList.typeIs, ?_⟩
  refine wpAny_getItem_list_slice ht.isList hs pl pu .none (by simp) ?_ (by rw [List.size_toArray] <;> omega)
  rw [slicePick_cut, ← hlen]
  refine ⟨.ref s.heap.objs.size, _, I.laid (t' := s.toks) (o := .lst (cutV xs lo hi)) (fun b ob q => Heap.get?_push_of_some _ q) (Nat.le_refl _) ?_, rfl, q _ (I.hok.fresh (Nat.le_refl _))⟩
  exact ⟨Nat.le_trans (cutV_length xs lo hi) hz, _, 0, (r.drop (HT.sIx xs.length 0 lo)).take (HT.sIx xs.length xs.length hi - HT.sIx xs.length 0 lo), Heap.get?_push_size _ rfl⟩


def flatV : V → Bool
  | .non => true
  | .bl _ => true
  | .int _ => true
  | .str _ => true
  | _ => false

def eqV : V → V → Bool
  | .non, .non => true
  | .bl a, .bl b => a == b
  | .bl a, .int b => (if a then 1 else 0) == b
  | .int a, .bl b => a == (if b then 1 else 0)
  | .int a, .int b => a == b
  | .str a, .str b => a == b
  | _, _ => false
def eqU (x : V) (u : Value) : Bool := match u with
  | .none => eqV .non x
  | .bool b => eqV (.bl b) x
  | .int i _ => eqV (.int i) x
  | .str z _ => eqV (.str z) x
  | _ => false
def inV (x : V) (xs : List V) : Bool := xs.any fun y => eqV y x

def rIn (K : PySem.W.Frag) (neg : Bool) : R2 := fun x y H Q => ∃ p xs, y = .ref p ∧ (SqL K H p xs ∨ SqT K H p xs) ∧ flatV x = true ∧ xs.all flatV = true ∧ Q (.bl (if neg then !inV x xs else inV x xs)) H
theorem call_len_seq : CallR X (.builtin "len") (fun xs H Q => ∃ p ys, xs = [.ref p] ∧ (SqL X.K H p ys ∨ SqT X.K H p ys) ∧ Q (.int ys.length) H) := by
  intro pins s σ H xs us Q I r h
  obtain ⟨p, ys, rfl, hq, q⟩ := h
  obtain ⟨u, rfl, rx⟩ := vals1 r
  cases rx
  have hn := line63
  rcases hq with hq | hq
  · obtain ⟨its, r', pl, hz⟩ := I.list hq
    have hlen := r'.length
    exact Calls.call_len_list pl.isList (by simp only [List.size_toArray] <;> omega) ⟨.int ys.length, H, I.tok _, ⟨s.toks + 1, by rw [List.size_toArray, hlen]⟩, q⟩
  · obtain ⟨its, r', pl, hz⟩ := I.tuple hq
    have hlen := r'.length
    exact len_tuple pl (by simp only [List.size_toArray] <;> omega) ⟨.int ys.length, H, I.tok _, ⟨s.toks + 1, by rw [List.size_toArray, hlen]⟩, q⟩
theorem call_len_str : CallR X (.builtin "len") (fun xs H Q => ∃ z, xs = [.str z] ∧ z.length ≤ sizeLine ∧ Q (.int z.length) H) := by
  intro pins s σ H xs us Q I r h
  obtain ⟨z, rfl, hz, q⟩ := h
  obtain ⟨u, rfl, t, rfl⟩ := vals1 r
  have hn := line63
  exact len_str (by omega) ⟨.int z.length, H, I.tok _, ⟨_, rfl⟩, q⟩
theorem call_list_of : CallR X (.type "list") (fun xs H Q => ∃ p ys, xs = [.ref p] ∧ (SqL X.K H p ys ∨ SqT X.K H p ys) ∧ ∀ l, H l = none → Q (.ref l) (upd H l (.lst ys))) := by
  intro pins s σ H xs us Q I r h
  obtain ⟨p, ys, rfl, hq, q⟩ := h
  obtain ⟨u, rfl, rx⟩ := vals1 r
  cases rx
  have fin : ∀ (its : List Value), Vals ys its → ys.length ≤ sizeLine → ∀ (h' : Heap) (c' : Nat), (∀ b o', s.heap.get? b = some o' → h'.get? b = some o') →
      h'.get? s.heap.objs.size = some { cls := .type "list", dict := none, data := .seq its.toArray c', slots := #[] } → EP X pins σ Q (.ref s.heap.objs.size) { s with heap := h' } := fun its r' hz h' c' kp e =>
    ⟨.ref s.heap.objs.size, _, I.laid (t' := s.toks) kp (Nat.le_refl _) (show ObjOk X.prog X.w _ h' _ (.lst ys) from ⟨hz, its, c', r', e⟩), rfl, q _ (I.hok.fresh (Nat.le_refl _))⟩
  rcases hq with hq | hq
  · obtain ⟨its, r', pl, hz⟩ := I.list hq
    have hlen := r'.length
    obtain ⟨o, ho, hc, n, hd⟩ := pl.isList
    exact call_list_seq p (.inl rfl) ho hc hd (fun h' c' kp e => fin its r' hz h' c' kp e) (by simp only [List.size_toArray] <;> omega)
  · obtain ⟨its, r', pl, hz⟩ := I.tuple hq
    have hlen := r'.length
    obtain ⟨o, ho, hc, n, hd⟩ := pl
    exact call_list_seq p (.inr rfl) ho hc hd (fun h' c' kp e => fin its r' hz h' c' kp e) (by simp only [List.size_toArray] <;> omega)
theorem call_tuple_of : CallR X (.type "tuple") (fun xs H Q => ∃ p ys, xs = [.ref p] ∧ ((SqL X.K H p ys ∧ ∀ l, H l = none → Q (.ref l) (upd H l (.tup ys))) ∨ (SqT X.K H p ys ∧ Q (.ref p) H))) := by
  intro pins s σ H xs us Q I r h
  obtain ⟨p, ys, rfl, h⟩ := h
  obtain ⟨u, rfl, rx⟩ := vals1 r
  cases rx
  rcases h with ⟨hq, q⟩ | ⟨hq, q⟩
  · obtain ⟨its, r', pl, hz⟩ := I.list hq
    have hlen := r'.length
    refine call_tuple_list pl.isList (fun h' kp => ?_) (by simp only [List.size_toArray] <;> omega)
    have I1 : Inv X pins σ H { s with heap := h' } := I.kept (t' := s.toks) kp
    have I2 : Inv X pins σ (upd H h'.objs.size (.tup ys)) { s with heap := h'.push { cls := .type "tuple", data := .seq its.toArray } } :=
      I1.laid (t' := s.toks) (fun b o e => Heap.get?_push_of_some _ e) (Nat.le_refl _) (show ObjOk X.prog X.w _ _ _ (.tup ys) from ⟨hz, its, r', IsTupN.new _ _⟩)
    exact ⟨.ref h'.objs.size, _, I2, rfl, q _ (I1.hok.fresh (Nat.le_refl _))⟩
  · obtain ⟨its, r', pl, hz⟩ := I.tuple hq
    exact call_tuple_same pl ⟨.ref p, H, I, rfl, q⟩



def tyV (K : PySem.W.Frag) (T : String) (x : V) (H : Hp) : Prop := match x with
  | .str _ => T = "str"
  | .int _ => T = "int"
  | .ref p => (T = "list" ∧ ∃ xs, SqL K H p xs) ∨ (T = "tuple" ∧ ∃ o, K.lookup p = some o ∧ o.cls = .type "tuple" ∧ o.dict = none) ∨
      (T = "dict" ∧ ((∃ kvs, H p = some (.dK kvs)) ∨ ∃ kvs, H p = some (.dT kvs))) ∨ (T = "set" ∧ ∃ S n, H p = some (.set S n))
  | _ => False
theorem tyV_is {pins : List (Addr × Obj)} {σ : St} {H : Hp} {s : Shared} {T : String} {x : V} {v : Value} (I : Inv X pins σ H s) (r : RelV x v) (ty : tyV X.K T x H) :
    s.TypeIs v T ∧ ∀ a, v = .ref a → ∃ ob, s.heap.get? a = some ob ∧ ob.dict = none := by
  cases x with
  | str z =>
    obtain ⟨t, rfl⟩ := r
    cases (show T = "str" from ty)
    exact ⟨typeIs_str s z t, fun _ e => nomatch e⟩
  | int i =>
    obtain ⟨t, rfl⟩ := r
    cases (show T = "int" from ty)
    exact ⟨typeIs_int s i t, fun _ e => nomatch e⟩
  | ref p =>
    cases r
    rcases ty with ⟨rfl, xs, hq⟩ | ⟨rfl, o, hk, hc, hd⟩ | ⟨rfl, hk⟩ | ⟨rfl, S, n, hk⟩
    · obtain ⟨its, _, pl, _⟩ := I.list hq
      refine ⟨pl.isList.typeIs, fun a e => ?_⟩
      cases e
      obtain ⟨o, n, e, c, hd, _⟩ := pl
      exact ⟨o, e, hd⟩
    · refine ⟨⟨o, I.kIn p o hk, hc⟩, fun a e => ?_⟩
      cases e
      exact ⟨o, I.kIn _ o hk, hd⟩
    · have z : ∃ o, s.heap.get? p = some o ∧ o.ExactDict := by
        rcases hk with ⟨kvs, hk⟩ | ⟨kvs, hk⟩
        · obtain ⟨_, _, _, _, o, _, _, e, ex, _⟩ := I.hok p _ hk
          exact ⟨o, e, ex⟩
        · obtain ⟨_, _, _, _, o, _, _, e, ex, _⟩ := I.hok p _ hk
          exact ⟨o, e, ex⟩
      obtain ⟨o, e, ex⟩ := z
      refine ⟨⟨o, e, ex.1⟩, fun a e2 => ?_⟩
      cases e2
      exact ⟨o, e, ex.2.1⟩
    · obtain ⟨o, _, _, _, e, ex, _⟩ := I.hok p _ hk
      refine ⟨⟨o, e, ex.1⟩, fun a e2 => ?_⟩
      cases e2
      exact ⟨o, e, ex.2.1⟩
  | _ => exact False.elim ty
def tBM0 (K : PySem.W.Frag) (T : String) (r : V → List V → Hp → VK → Prop) (to : TE) : TE := fun σ H Q => to σ H fun x H1 => tyV K T x H1 ∧ r x [] H1 Q
def tBM (K : PySem.W.Frag) (T : String) (r : V → List V → Hp → VK → Prop) (to : TE) (t : TA) : TE := fun σ H Q => to σ H fun x H1 => tyV K T x H1 ∧ t σ H1 fun xs H2 => r x xs H2 Q
variable {o e : Expr} {es : List Expr} {to : TE} {t : TA} {name : Str} {apos cpos : Pos} {T id : String} {r : V → List V → Hp → VK → Prop}
theorem pe_bm (pa : PlainAttrs T) (slot : Slot T name id) (hty : typeOf (.builtin id) = pure (.type "method_descriptor")) (hm : MtR X id r) (ho : PE X o to) (ha : PA X (e :: es) t)
    (hbase : attributeBase o name X.env (eval o X.env) = eval o X.env := by rfl)
    (hfew : ((backTo cpos (starEach (e :: es) X.env)).all (fun x => !x.1) && (backToKw cpos (keywordEach [] X.env)).all (fun x => x.1.isSome)
      && decide ((e :: es).length + ([] : List Keyword).length + (if ([] : List Keyword).isEmpty then 0 else 1) < 30)) = true := by rfl)
    (hline : (apos.endLine == cpos.line) = true := by rfl) (hs : starEach (e :: es) X.env = (false, eval e X.env) :: starEach es X.env := by rfl) (hplain : (backTo cpos (starEach es X.env)).any (·.1) = false := by rfl) :
    PE X (.Call (.Attribute o name apos) (e :: es) [] cpos) (tBM X.K T r to t) := by
  intro pins s σ H Q I h
  refine wpAny_Call_method_late hbase hfew hline rfl (thn (ho pins s σ H _ I h) fun v s1 ⟨x, H1, I1, r1, ty, q1⟩ => ?_)
  obtain ⟨h1, h2⟩ := tyV_is I1 r1 ty
  refine ⟨T, id, pa, slot, hty, h1, h2, ?_⟩
  have hA := ha cpos pins s1 σ H1 _ I1 q1
  rw [hs] at hA ⊢
  refine Calls.callWith_builtin (by show (false || (backTo cpos (starEach es X.env)).any (·.1)) = false; rw [hplain] <;> rfl) (Calls.evalArgs_plain ?_)
  exact thn hA fun us s2 ⟨vs, H2, I2, r2, q2⟩ => hm pins s2 σ H2 x vs v us Q I2 r1 r2 q2

end
end L2

namespace L2
open PySem PySem.Spec PyProof.Rows

def MtM (X : Cx) (id : String) (r : V → List V → Hp → VK → Prop) : Prop :=
  ∀ (pins : List (Addr × Obj)) (s : Shared) (σ : St) (H : Hp) (x : V) (xs : List V) (v : Value) (us : List Value) (Q : VK), Inv X pins σ H s → RelV x v → Vals xs us → r x xs H Q →
    wpAny (model X.prog X.w) X.A (call (.builtin id) (v :: us)) (EP X pins σ Q) X.xe s


theorem Vals.one : ∀ {x : V} {us : List Value}, Vals [x] us → ∃ u, us = [u] ∧ RelV x u
  | _, _, .cons r .nil => ⟨_, rfl, r⟩
theorem Vals.zero : ∀ {us : List Value}, Vals [] us → us = []
  | _, .nil => rfl
theorem Vals.dropLast {xs : List V} {us : List Value} (h : Vals xs us) : Vals xs.dropLast us.dropLast := by
  induction h with
  | nil => exact .nil
  | cons r t ih =>
    cases t with
    | nil => exact .nil
    | cons q t' => exact .cons r ih
theorem Vals.eraseIdx : ∀ {xs : List V} {us : List Value} (i : Nat), Vals xs us → Vals (xs.eraseIdx i) (us.eraseIdx i)
  | _, _, _, .nil => .nil
  | _, _, 0, .cons _ t => t
  | _, _, i + 1, .cons r t => .cons r (Vals.eraseIdx i t)
theorem Vals.reverse {xs : List V} {us : List Value} (h : Vals xs us) : Vals xs.reverse us.reverse := by
  induction h with
  | nil => exact .nil
  | cons r t ih => rw [List.reverse_cons, List.reverse_cons]; exact Vals.append ih (.cons r .nil)
section
variable {X : Cx} {pins : List (Addr × Obj)} {σ : St} {H : Hp} {s : Shared} {l b : Addr} {xs ys zs : List V}


theorem Inv.lset {its its' : List Value} {n : Nat} {f : Array Value → Array Value} {t' : Nat} (I : Inv X pins σ H s) (hH : H l = some (.lst xs))
    (e : s.heap.get? l = some { cls := .type "list", data := .seq its.toArray n }) (hf : f its.toArray = its'.toArray) (hv : Vals ys its') (hz : ys.length ≤ sizeLine) :
    Inv X pins σ (upd H l (.lst ys)) { s with heap := s.heap.update l (Obj.mapSeq f), toks := t' } := by
  have q := PySem.IsL.update e f
  rw [hf] at q
  refine I.write (x := l) (e := l) (by rw [hH]; exact trivial) (.inl rfl) (fun b' u hb hu => (Heap.get?_update_other s.heap (Obj.mapSeq f) (Ne.symm hb)).trans hu) ⟨_, q⟩ ?_
  exact ⟨hz, its', _, hv, q⟩
theorem Inv.lnew {its : List Value} {t' : Nat} (I : Inv X pins σ H s) (hv : Vals ys its) (hz : ys.length ≤ sizeLine) :
    Inv X pins σ (upd H s.heap.objs.size (.lst ys)) { s with heap := s.heap.push { cls := .type "list", data := .seq its.toArray }, toks := t' } :=
  I.laid (fun _ _ q => Heap.get?_push_of_some _ q) (Nat.le_refl _) ⟨hz, its, 0, hv, Heap.get?_push_size _ rfl⟩
theorem Inv.fresh (I : Inv X pins σ H s) : H s.heap.objs.size = none := I.hok.fresh (Nat.le_refl _)
theorem Inv.lstM (I : Inv X pins σ H s) (hH : H l = some (.lst xs)) : xs.length ≤ sizeLine ∧ ∃ (its : List Value) (n : Nat), Vals xs its ∧ xs.length = its.length ∧ s.heap.get? l = some { cls := .type "list", data := .seq its.toArray n } := by
  obtain ⟨z, its, n, r, e⟩ := I.hok l _ hH
  exact ⟨z, its, n, r, r.length, e⟩

end

section
variable {X : Cx}


def rAppend : V → List V → Hp → VK → Prop := fun x vs H Q => ∃ l xs y, x = .ref l ∧ vs = [y] ∧ H l = some (.lst xs) ∧ xs.length < sizeLine ∧ Q .non (upd H l (.lst (xs ++ [y])))
theorem mt_append : MtM X "list.append" rAppend := by
  intro pins s σ H x vs v us Q I rx rv h
  obtain ⟨l, xs, y, rfl, rfl, hH, hz, q⟩ := h
  cases rx
  obtain ⟨u, rfl, ru⟩ := rv.one
  obtain ⟨z, its, n, r, hl, e⟩ := I.lstM hH
  refine call_meets F.slot_list_append ⟨_, e, rfl⟩ F.entry_list_append (F.args_list_append_2 _ _) (PySem.list_append l its.toArray n u (by rw [List.size_toArray]; omega)) ⟨e, ?_⟩
  refine ⟨.non, _, I.lset (its' := its ++ [u]) hH e (by simp) (r.append (.cons ru .nil)) ?_, rfl, q⟩
  rw [List.length_append, List.length_singleton]
  omega

def rExtend : V → List V → Hp → VK → Prop := fun x vs H Q => ∃ l b xs zs, x = .ref l ∧ vs = [.ref b] ∧ H l = some (.lst xs) ∧ H b = some (.lst zs) ∧ xs.length + zs.length ≤ sizeLine ∧ Q .non (upd H l (.lst (xs ++ zs)))
def rPop : V → List V → Hp → VK → Prop := fun x vs H Q => ∃ l xs y, x = .ref l ∧ vs = [] ∧ H l = some (.lst xs) ∧ xs[xs.length - 1]? = some y ∧ Q y (upd H l (.lst xs.dropLast))
def rPopAt : V → List V → Hp → VK → Prop := fun x vs H Q => ∃ l xs i k y, x = .ref l ∧ vs = [.int i] ∧ H l = some (.lst xs) ∧ -(2 ^ 63) ≤ i ∧ i < 2 ^ 63 ∧ seqIndex? i xs.length = some k ∧ xs[k]? = some y ∧ Q y (upd H l (.lst (xs.eraseIdx k)))
def rReverse : V → List V → Hp → VK → Prop := fun x vs H Q => ∃ l xs, x = .ref l ∧ vs = [] ∧ H l = some (.lst xs) ∧ Q .non (upd H l (.lst xs.reverse))
def rClear : V → List V → Hp → VK → Prop := fun x vs H Q => ∃ l xs, x = .ref l ∧ vs = [] ∧ H l = some (.lst xs) ∧ Q .non (upd H l (.lst []))
def rCat : R2 := fun x y H Q => ∃ l b xs zs, x = .ref l ∧ y = .ref b ∧ H l = some (.lst xs) ∧ H b = some (.lst zs) ∧ xs.length + zs.length ≤ sizeLine ∧ ∀ p, H p = none → Q (.ref p) (upd H p (.lst (xs ++ zs)))
def rRep : R2 := fun x y H Q => ∃ l k xs, x = .ref l ∧ y = .int k ∧ H l = some (.lst xs) ∧ -(2 ^ 63) ≤ k ∧ k < 2 ^ 63 ∧ xs.length * k.toNat ≤ sizeLine ∧
  ∀ p, H p = none → Q (.ref p) (upd H p (.lst (List.replicate k.toNat xs).flatten))
end


section
variable {prog : Program} {w : World} {A : Around} {E : Value → Shared → Prop} {s : Shared}
end

section
variable {X : Cx}

end
end L2

namespace Att
open PySem PySem.W PySem.Calls PyProof.Rows


theorem ints_of_wellAll {P : Params} {h : Heap} : ∀ (ns : List Int) (vs : List Value), WellAll P h vs (ns.map WData.int) → IntsAre vs ns := by
  intro ns
  induction ns with
  | nil =>
    intro vs w
    rw [List.map_nil] at w
    cases w
    exact .nil
  | cons n ns ih =>
    intro vs w
    rw [List.map_cons] at w
    cases w with
    | cons a b =>
      cases a
      exact .cons _ _ (ih _ b)

theorem script_of {l : OpenLaw} {n : Nat} (hn : l.most = some n) {P : Params} {h : Heap} {args : List WData} {vals : List Value}
    (hpre : l.row.toRowW.claim.pre args = true) (hwl : WellAll P h vals args) :
    ∃ a vs ns, vals = [Value.ref a] ∧ args = [WData.list (ns.map WData.int)] ∧ h.get? a = some { cls := .type "list", data := .seq vs.toArray } ∧ IntsAre vs ns ∧ ns.length ≤ n := by
  have hsh : WShape.hasAll [] args [.list .int] = true := (pre_splitW hpre).1
  have hc : l.pre.holds [] { args := args } = true := (pre_splitW hpre).2
  obtain ⟨d, r, rfl, h1, h2⟩ := hasAllW_cons hsh
  obtain rfl := hasAllW_nil h2
  obtain ⟨xs, rfl, h3⟩ := hasW_list h1
  obtain ⟨ns, rfl⟩ := items_int h3
  have hlen : ns.length ≤ n := by
    unfold OpenLaw.pre at hc
    have h4 : (WTm.not (.lt (.lit (.int (n : Int))) (.len (.arg 0)))).holds [] { args := [.list (ns.map .int)] } = true := by
      have h4 := (holds_andW hc).1
      rw [hn] at h4
      exact h4
    have h5 := condW_of h4 (w_not (w_lt w_lit (w_len_list (w_arg rfl))))
    rw [List.length_map] at h5
    refine Nat.le_of_not_lt fun q => ?_
    have q' : (n : Int) < ((ns.length : Nat) : Int) := by omega
    first
      | (rw [decide_eq_true q'] at h5; exact absurd h5 (by decide))
      | (simp at h5; omega)
  cases hwl with
  | cons w1 w2 =>
    cases w2
    cases w1 with
    | list ho hall => exact ⟨_, _, ns, rfl, rfl, ho, ints_of_wellAll ns _ hall, hlen⟩

theorem post_true (l : OpenLaw) (args : List WData) : l.row.toRowW.claim.post args (.bool true) args = true :=
  postW_of (r := l.row.toRowW) (X := (true == true))
    (show WShape.has [] (.bool true) .bool = true by first | rfl | decide | simp [WShape.has, WShape.arms, WShape.armsAll])
    (show (WTm.eq .res (.lit (.bool true))).value [] { args := args, res := some (.bool true), after := args } = some (.bool (true == true)) from w_eq_bool (w_res rfl) w_lit) rfl


theorem attach_call {l : OpenLaw} {n : Nat} {q : Program} {loose : List Str} {XP : (Str → Option Value) → Heap → Prop} {YP : World → Heap → Prop} {d : DefRec}
    (hn : l.most = some n) (hdf : d.params.defaults = [])
    (call : ∀ (w : World) (s₀ s₁ : Shared) (mg mb : Str → Option Value) (fa : Addr) (o : Obj) (pm cd doc : Value) (a : Addr) (vs : List Value) (ns : List Int),
      Ground q loose [] XP w s₀ mg mb s₁.heap → YP w s₁.heap →
      s₁.heap.get? fa = some o → o.data = .func (docDef d.name d.params d.body d.scope pm cd doc) → s₁.heap.CodeRec cd d.name → mg d.name = some (.ref fa) →
      s₁.heap.get? a = some { cls := .type "list", data := .seq vs.toArray } → IntsAre vs ns → ns.length ≤ n → s₁.gens = #[] →
      codeAny (model l.prog w) callerA (.call (.ref fa) ⟨[.ref a], []⟩) (fun r s' => r = .ok (.ret (.bool true)) ∧ OldK s₁.heap s'.heap ∧ s'.os = s₁.os ∧ AllBare s'.gens) s₁) :
    WalkO q loose XP YP l.row.toRowW d [] (fun f vs => PySem.call f vs) := by
  intro w s₀ s₁ mg mb G Y fa o pm cd doc dV kV ho hd hcd hD hmg hg args vals as hpre hlay hrd hwl hlo
  obtain rfl : dV = .none := Dflts.none hD hdf
  obtain rfl : kV = .none := Dflts.noKw hD
  obtain ⟨a, vs, ns, rfl, rfl, hobj, hints, hlen⟩ := script_of hn hpre hwl
  refine enter_call (codeAny_mono (call w s₀ s₁ mg mb fa o pm cd doc a vs ns G Y ho (fd_plain hd) hcd hmg hobj hints hlen hg) fun r s' hq => ?_)
  obtain ⟨rfl, h2, h3, h4⟩ := hq
  exact ⟨.inl ⟨.bool true, .bool true, [], rfl, fun _ => rfl, .bool true, post_true l _, fun _ => ⟨List.Pairwise.nil, fun _ hm => (nomatch hm)⟩⟩, h2, h3, h4⟩


section
variable {prog : Program} {w : World} {A : Around} {E : Value → Shared → Prop} {s : Shared} {K : Frag}


def noObjs (h : Heap) : Heap := { h with objs := #[] }
def ledger (h : Heap) (L d : Addr) : List (Addr × Obj) := (List.range h.objs.size).filterMap fun a => if a = L ∨ a = d then none else (h.get? a).map fun o => (a, o)
end
end Att

namespace L2
open PySem PySem.Spec PyProof.Rows

theorem vals_ints : ∀ {vs : List Value} {ns : List Int}, IntsAre vs ns → Vals (ns.map V.int) vs
  | _, _, .nil => .nil
  | _, _, .cons n t h => .cons ⟨t, rfl⟩ (vals_ints h)


def Only (H : Hp) : Prop := ∀ b, H b = none ∨ ∃ o xs, H b = some (.frz o (.lst xs))


theorem law_call {P : Program} {w : World} {K : PySem.W.Frag} {mg mb : Str → Option Value} {CX : CXT} {k : Nat} {fa a : Addr} {fd : FuncData} {x : Str} {sp : Sp} {s₁ : Shared} {vs : List Value} {ns : List Int}
    (KX : K.In s₁.heap) (hns : s₁.heap.Ns mainGlobals mg) (hb : s₁.heap.Ns builtinsNs mb) (hbb : ∀ x : Str, x ≠ "__name__" → mb x = bootBuiltins x) (hlim : s₁.heap.NoLimit) (hg : s₁.gens = #[])
    (ha : s₁.heap.get? a = some { cls := .type "list", data := .seq vs.toArray }) (hi : IntsAre vs ns) (hl : ns.length ≤ sizeLine) (hr : Room k callerA)
    (F : ∀ base : Heap, K.In base → base.Ns mainGlobals mg → FnOk P w K mg base CX k fa fd [x] sp) (hbind : ∀ (s : Shared) (u : Value), BindsTo s fd ⟨[u], []⟩ [(x, u)])
    (hsp : ∀ H : Hp, Only H → SqL K H a (ns.map V.int) → sp [.ref a] H (fun v _ => v = .bl true) fun _ _ _ => False)
    (hCX : ∀ H e s', CX [] H s₁ (fun _ _ _ => False) e s' → False) :
    codeAny (model P w) callerA (.call (.ref fa) ⟨[.ref a], []⟩) (fun r s' => r = .ok (.ret (.bool true)) ∧ OldK s₁.heap s'.heap ∧ s'.os = s₁.os ∧ AllBare s'.gens) s₁ := by
  have rv := vals_ints hi
  have lenV := hi.length
  have core : ∀ H : Hp, Only H → SqL K H a (ns.map V.int) → HOk P w H s₁.heap → (∀ b, H b ≠ none → b = a) → (H a ≠ none → K.lookup a = none) →
      codeAny (model P w) callerA (.call (.ref fa) ⟨[.ref a], []⟩) (fun r s' => r = .ok (.ret (.bool true)) ∧ OldK s₁.heap s'.heap ∧ s'.os = s₁.os ∧ AllBare s'.gens) s₁ := by
    intro H hO hS hok hA hK
    have base_of : ∀ {b : Addr} {o : Obj}, s₁.heap.get? b = some o → H b = none → (hidT s₁.heap H).get? b = some o := fun e n => hidT_get e n
    have noA : ∀ {b : Addr} {o : Obj} {es : Array DictEntry} {ep : Nat}, s₁.heap.get? b = some o → o.data = .dict es ep → H b = none := fun {b o es ep} e d => by
      cases q : H b with
      | none => rfl
      | some u =>
        have e' : b = a := hA b (by rw [q]; simp)
        subst e'
        rw [ha] at e; cases e
        have d' : Data.seq vs.toArray _ = Data.dict es ep := d
        cases d'
    have nsK : ∀ {b : Addr} {m : Str → Option Value}, s₁.heap.Ns b m → (hidT s₁.heap H).Ns b m := fun {b m} ⟨o, es, ep, e, d, r⟩ => ⟨o, es, ep, base_of e (noA e d), d, r⟩
    have hKb : K.In (hidT s₁.heap H) := fun b o e => base_of (KX b o e) (by
      cases q : H b with
      | none => rfl
      | some u =>
        have e' : b = a := hA b (by rw [q]; simp)
        subst e'
        rw [hK (by rw [q]; simp)] at e; cases e)
    have hM : Mod K mg (hidT s₁.heap H) := ⟨hKb, nsK hns, ⟨mb, nsK hb, hbb⟩, let ⟨mc, h1, h2⟩ := hlim; ⟨mc, nsK h1, h2⟩⟩
    have e0 : Env0 P w K mg (hidT s₁.heap H) callerA [] s₁ H := ⟨rfl, hM, fun b o e => of_hidT e, Nat.le_of_eq (hidT_size _ _), trivial, fun b hb => absurd (show b ∈ ([] : List Addr) from hb) (by simp), hok, .of_eq hg⟩
    refine codeAny_mono ((F _ hKb (nsK hns)).run callerA [] s₁ H ⟨[.ref a], []⟩ [.ref a] [.ref a] _ _ hr e0 (hbind s₁ (.ref a)) (.cons rfl .nil) (hsp H hO hS)) fun r s' h => ?_
    cases r with
    | error e => exact (hCX H e s' h).elim
    | ok fl =>
      cases fl with
      | next => exact False.elim h
      | brk => exact False.elim h
      | cont => exact False.elim h
      | ret u =>
        obtain ⟨v, H', os, bare, un, hok', r', q⟩ := h
        have q' : v = .bl true := q
        subst q'
        obtain rfl : u = Value.bool true := r'
        refine ⟨rfl, OldK.of_keep fun b o e => ?_, os, bare⟩
        cases q : H b with
        | none => exact un.keep b o e q (by intro z; exact absurd (show b ∈ ([] : List Addr) from z) (by simp)) (by simp)
        | some u =>
          rcases hO b with z | ⟨ob, xs, z⟩
          · rw [q] at z; cases z
          · have z2 := un.frzs b ob _ z
            obtain ⟨e1, _⟩ := hok b _ z
            obtain ⟨e2, _⟩ := hok' b _ z2
            rw [e] at e1; cases e1
            exact e2
  cases hk : K.lookup a with
  | some o =>
    have e := KX a o hk
    rw [ha] at e
    cases e
    refine core (fun _ => none) (fun _ => .inl rfl) (.inr ⟨_, vs.toArray, _, hk, rfl, rfl, rfl, by rw [List.size_toArray, lenV]; exact hl, by simpa using rv⟩) (fun b u z => by have z' : (none : Option HO) = some u := z; cases z') (fun b z => absurd rfl z) fun z => absurd rfl z
  | none =>
    refine core (fun b => if b = a then some (.frz { cls := .type "list", data := .seq vs.toArray } (.lst (ns.map V.int))) else none) (fun b => ?_) (.inl (.inr ⟨{ cls := .type "list", data := .seq vs.toArray }, if_pos rfl⟩)) (fun b u z => ?_) (fun b z => ?_) fun _ => hk
    · by_cases hb : b = a
      · exact .inr ⟨_, _, if_pos hb⟩
      · exact .inl (if_neg hb)
    · by_cases hb : b = a
      · have z' := (if_pos hb).symm.trans z
        cases z'
        subst hb
        exact ⟨ha, by rw [List.length_map]; exact hl, vs, _, rv, ha⟩
      · have z' := (if_neg hb).symm.trans z
        cases z'
    · by_cases hb : b = a
      · exact hb
      · exact absurd (if_neg hb) z
end L2

namespace L2
open PySem PySem.Spec PyProof.Rows

abbrev KOf {K : PySem.W.Frag} {h : Heap} (_ : K.In h) : PySem.W.Frag := K


theorem walk_of {l : PySem.W.OpenLaw} {n k : Nat} {q : Program} {loose : List Str} {XP : (Str → Option Value) → Heap → Prop} {YP : World → Heap → Prop} {d : DefRec} {K : Params → PySem.W.Frag} {CX : World → CXT} {sp : World → Sp} {x : Str}
    (hn : l.most = some n) (hn2 : n ≤ sizeLine) (hdf : d.params.defaults = []) (hr : Room k callerA)
    (hY : ∀ (w : World) (h : Heap), YP w h → (K w.params).In h)
    (F : ∀ (w : World) (mg : Str → Option Value) (fa : Addr) (h : Heap), (K w.params).In h → h.Ns mainGlobals mg → mg d.name = some (.ref fa) →
      ∃ fd : FuncData, (∀ (s : Shared) (u : Value), BindsTo s fd ⟨[u], []⟩ [(x, u)]) ∧
        ∀ base : Heap, (K w.params).In base → base.Ns mainGlobals mg → FnOk l.prog w (K w.params) mg base (CX w) k fa fd [x] (sp w))
    (hsp : ∀ (w : World) (H : Hp) (a : Addr) (ns : List Int), ns.length ≤ n → Only H → SqL (K w.params) H a (ns.map V.int) → sp w [.ref a] H (fun v _ => v = .bl true) fun _ _ _ => False)
    (hCX : ∀ (w : World) (H : Hp) (s : Shared) (e : Value) (s' : Shared), CX w [] H s (fun _ _ _ => False) e s' → False) :
    PySem.W.WalkO q loose XP YP l.row.toRowW d [] (fun f vs => PySem.call f vs) := by
  refine Att.attach_call hn hdf fun w s₀ s₁ mg mb fa o pm cd doc a vs ns G Y ho hd hcd hmg hobj hints hlen hg => ?_
  have KX := hY w _ Y
  obtain ⟨fd, hb, hF⟩ := F w mg fa _ KX G.T.g hmg
  exact law_call KX G.T.g G.T.b G.T.builtins G.T.nolimit hg hobj hints (Nat.le_trans hlen hn2) hr hF hb (fun H hO hS => hsp w H a ns hlen hO hS) fun H e s' => hCX w H s₁ e s'

end L2




namespace L2
open PySem PySem.Spec PyProof.Rows



def inClass (s : Stmt) (j : Nat) : Stmt := match s with
  | .ClassDef _ _ _ body _ _ _ _ _ _ _ => body.getD j (.Pass ⟨0, 0, 0, 0⟩)
  | _ => .Pass ⟨0, 0, 0, 0⟩
def defArgs (s : Stmt) : Arguments := match s with
  | .FunctionDef _ a _ _ _ _ _ _ _ _ => a
  | _ => { posonlyargs := [], args := [], vararg := none, kwonlyargs := [], kw_defaults := [], kwarg := none, defaults := [] }
def defBody (s : Stmt) : List Stmt := match s with
  | .FunctionDef _ _ b _ _ _ _ _ _ _ => b
  | _ => []
def defScope (s : Stmt) : Scope := match s with
  | .FunctionDef _ _ _ _ _ _ sc _ _ _ => sc
  | _ => { kind := .function, names := [], isGenerator := false, isCoroutine := false }


abbrev CX0 : CXT := fun _ _ _ _ _ _ => False
abbrev E0 : XK := fun _ _ _ => False
theorem pass0 {X : Cx} : Passes CX0 X E0 := fun _ _ _ _ _ _ _ h => h.elim


structure Fun (K : PySem.W.Frag) (x qual : Str) (st : Stmt) (f : Addr) (fd : FuncData) : Prop where
  ex : ∃ (oc : Value) (od : Option Addr) (kV doc pm : Value) (an : Option Addr) (cdv ct : Value) (osl : Array (Option Value)),
    fd = PySem.W.fnOf x qual (defArgs st) (defBody st) (defScope st) .none kV doc pm an cdv ct ∧ K.lookup f = some ⟨oc, od, .func fd, osl⟩ ∧ PySem.W.codeIn K cdv qual = true
  kp : PySem.W.keepIn K (.ref f) = true
section
variable {P : Program} {w : World} {K : PySem.W.Frag} {mg : Str → Option Value} {base : Heap}

theorem Fun.ok {x qual : Str} {st : Stmt} {f : Addr} {fd : FuncData} {N ps : List Str} {k : Nat} {sp : Sp} (F : Fun K x qual st f fd) (S : FnScope N ps (defScope st)) (len : ∀ vs H Q E, sp vs H Q E → vs.length = ps.length)
    (hbody : ∀ (cdv : Value) (A : Around) (outer : List Env) (s : Shared) (H : Hp) (vs : List V) (Q : VK) (E : XK), Room k (A.deeper (envOfC qual (defScope st) s.heap.objs.size f cdv)) → sp vs H Q E →
      ∃ t, PSs (cxOf CX0 P w K mg base N qual (defScope st) f cdv A outer s H E).nox (defBody st) t ∧ t { nx := fun _ H' => Q .non H', rt := Q } (start N vs) H) : FnOk P w K mg base CX0 (k + 1) f fd ps sp := by
  obtain ⟨oc, od, kV, doc, pm, an, cdv, ct, osl, rfl, lk, hcd⟩ := F.ex
  refine fn_of lk hcd S len fun A outer s H vs Q E hr hsp => ?_
  obtain ⟨t, h, q⟩ := hbody cdv A outer s H vs Q E hr hsp
  exact ⟨t, h.nox, q⟩

theorem Fun.binds {x qual : Str} {st : Stmt} {f : Addr} {fd : FuncData} {ps : List Str} (F : Fun K x qual st f fd)
    (h : ∀ (kV doc pm : Value) (an : Option Addr) (cdv ct : Value) (us : List Value), us.length = ps.length → bindArgs (PySem.W.fnOf x qual (defArgs st) (defBody st) (defScope st) .none kV doc pm an cdv ct) ⟨us, []⟩ = pure (ps.zip us)) : Binds K fd ps [] := by
  obtain ⟨oc, od, kV, doc, pm, an, cdv, ct, osl, rfl, lk, hcd⟩ := F.ex
  exact .all (h kV doc pm an cdv ct)
theorem fun_mk {x qual : Str} {st : Stmt} {f : Addr} {oc : Value} {od an : Option Addr} {osl : Array (Option Value)} {kV doc pm cdv ct : Value} (l : K.lookup f = some ⟨oc, od, .func (PySem.W.fnOf x qual (defArgs st) (defBody st) (defScope st) .none kV doc pm an cdv ct), osl⟩)
    (c : PySem.W.codeIn K cdv qual = true) (k : PySem.W.keepIn K (.ref f) = true) : Fun K x qual st f (PySem.W.fnOf x qual (defArgs st) (defBody st) (defScope st) .none kV doc pm an cdv ct) := ⟨⟨oc, od, kV, doc, pm, an, cdv, ct, osl, rfl, l, c⟩, k⟩
end
section
variable {X : Cx}
theorem pv (i : Nat) {x : Str} {pos : Pos} (hN : X.N[i]? = some x := by rfl) (hv : Vis X.env.scope x := by first | exact Or.inl rfl | exact Or.inr (Or.inl rfl) | exact Or.inr (Or.inr rfl)) (hd : (x == ("__debug__" : Str)) = false := by decide)
    (hcd : (x == ("__classdict__" : Str)) = false := by decide) : PE X (.Name x pos) (tVar i) := pe_var hN hv hd hcd
end


theorem ite2 {c A B : Prop} [Decidable c] (h1 : c → A) (h2 : ¬ c → B) : if c then A else B := by
  by_cases h : c
  · rw [if_pos h]
    exact h1 h
  · rw [if_neg h]
    exact h2 h
def Same (H H' : Hp) : Prop := ∀ b o, H b = some o → H' b = some o
theorem Same.refl (H : Hp) : Same H H := fun _ _ h => h
theorem Same.trans {H H1 H2 : Hp} (a : Same H H1) (b : Same H1 H2) : Same H H2 := fun c o h => b c o (a c o h)
theorem Same.free {H H' : Hp} (e : Same H H') {l : Addr} (h : H' l = Option.none) : H l = Option.none := by
  cases q : H l with
  | none => rfl
  | some o =>
    rw [e l o q] at h
    cases h
theorem Same.seq {K : PySem.W.Frag} {H H' : Hp} {a : Addr} {xs : List V} (e : Same H H') (h : SqL K H a xs) : SqL K H' a xs := by
  rcases h with (h | ⟨o, h⟩) | h
  · exact .inl (.inl (e _ _ h))
  · exact .inl (.inr ⟨o, e _ _ h⟩)
  · exact .inr h

end L2

set_option Elab.async false
set_option linter.all false
set_option maxRecDepth 100000
set_option maxHeartbeats 4000000

namespace L2
open PySem PySem.Spec PyProof.Rows


def clOf (cells : List (Str × Addr)) : List (Str × NameKind) → List (Str × Addr) → List (Str × Addr)
  | [], acc => acc
  | (n, k) :: r, acc => clOf cells r (if (k == NameKind.free) = true then (n, (cells.lookup n).getD 0) :: acc else acc)

theorem closure_ok {sc : Scope} {env : Env} (h : ∀ n, (n, NameKind.free) ∈ sc.names → ∃ c, env.cells.lookup n = some c) : closureFor sc env = pure (clOf env.cells sc.names []) := by
  have all : ∀ (l : List (Str × NameKind)) (acc : List (Str × Addr)), (∀ n, (n, NameKind.free) ∈ l → ∃ c, env.cells.lookup n = some c) →
      (forIn l acc fun (x : Str × NameKind) (cs : List (Str × Addr)) => match x with
        | (name, kind) => if (kind == NameKind.free) = true then (do let c ← cellOf env name; pure (ForInStep.yield ((name, c) :: cs))) else pure (ForInStep.yield cs)) = (pure (clOf env.cells l acc) : Sem _) := by
    intro l
    induction l with
    | nil => intro acc _; rfl
    | cons x r ih =>
      intro acc hl
      obtain ⟨n, k⟩ := x
      rw [List.forIn_cons]
      by_cases hk : (k == NameKind.free) = true
      · have hk' : k = NameKind.free := by simpa using hk
        subst hk'
        obtain ⟨c, hc⟩ := hl n List.mem_cons_self
        have e1 : cellOf env n = pure c := by unfold cellOf; rw [hc]
        simp only [beq_self_eq_true, if_true, e1, pure_bind]
        rw [ih _ fun m hm => hl m (List.mem_cons_of_mem _ hm)]
        show _ = (pure (clOf env.cells r (if (NameKind.free == NameKind.free) = true then (n, (env.cells.lookup n).getD 0) :: acc else acc)) : Sem _)
        rw [if_pos (by simp), hc]
        rfl
      · have hk2 : (k == NameKind.free) = false := by simpa using hk
        simp only [hk2, Bool.false_eq_true, if_false, pure_bind]
        rw [ih _ fun m hm => hl m (List.mem_cons_of_mem _ hm)]
        show _ = (pure (clOf env.cells r (if (k == NameKind.free) = true then (n, (env.cells.lookup n).getD 0) :: acc else acc)) : Sem _)
        rw [if_neg hk]
  have := all sc.names [] h
  unfold closureFor
  dsimp only
  rw [this, pure_bind]

theorem lookup_clOf {cells : List (Str × Addr)} {x : Str} {c : Addr} : ∀ {l : List (Str × NameKind)} {acc : List (Str × Addr)}, (∀ n, (n, NameKind.free) ∈ l → ∃ c, cells.lookup n = some c) →
    (acc.lookup x = some c → cells.lookup x = some c) → (clOf cells l acc).lookup x = some c → cells.lookup x = some c
  | [], _, _, ha, h => ha h
  | (n, k) :: r, acc, hl, ha, h => by
    refine lookup_clOf (l := r) (fun m hm => hl m (List.mem_cons_of_mem _ hm)) ?_ h
    by_cases hk : (k == NameKind.free) = true
    · rw [if_pos hk]
      have hk' : k = NameKind.free := by simpa using hk
      subst hk'
      obtain ⟨d, hd⟩ := hl n List.mem_cons_self
      intro e
      rw [List.lookup_cons] at e
      cases hx : x == n with
      | true =>
        rw [hx] at e
        have hxn : x = n := by simpa using hx
        subst hxn
        rw [hd] at e ⊢
        exact e
      | false => rw [hx] at e; exact ha e
    · rw [if_neg hk]; exact ha

theorem clOf_has {cells : List (Str × Addr)} {x : Str} : ∀ {l : List (Str × NameKind)} {acc : List (Str × Addr)}, ((x, NameKind.free) ∈ l ∨ ∃ c, acc.lookup x = some c) → ∃ c, (clOf cells l acc).lookup x = some c
  | [], _, h => by
    rcases h with h | h
    · exact nomatch h
    · exact h
  | (n, k) :: r, acc, h => by
    refine clOf_has (l := r) ?_
    by_cases hk : (k == NameKind.free) = true
    · rw [if_pos hk]
      by_cases hx : (x == n) = true
      · exact .inr ⟨(cells.lookup n).getD 0, by rw [List.lookup_cons, hx]⟩
      · have hx2 : (x == n) = false := by simpa using hx
        rcases h with h | ⟨c, h⟩
        · rcases List.mem_cons.mp h with e | e
          · have e1 : x = n := congrArg Prod.fst e
            exact absurd (by simp [e1]) hx
          · exact .inl e
        · exact .inr ⟨c, by rw [List.lookup_cons, hx2]; exact h⟩
    · rw [if_neg hk]
      rcases h with h | h
      · rcases List.mem_cons.mp h with e | e
        · have e2 : NameKind.free = k := congrArg Prod.snd e
          exact absurd (by simp [← e2]) hk
        · exact .inl e
      · exact .inr h


def compCx (X : Cx) (sc : Scope) (N' : List Str) (C : Addr) (s₀ : Shared) (H₀ : Hp) (fp : List Addr) : Cx where
  prog := X.prog
  w := X.w
  K := X.K
  mg := X.mg
  base := X.base
  A := X.A
  N := N'
  s₀ := s₀
  H₀ := H₀
  env := compEnvC sc (clOf X.env.cells sc.names []) C X.env
  outer := X.stack
  stack := X.stack
  ex := fp
  fn := fun _ => false
  calm := X.calm
  pn := []
  xe := fun _ _ => False


def capS (cap : List (Option Nat)) (σ : St) : St := cap.map fun o => o.bind fun j => (σ[j]?).join

structure CapOk (X : Cx) (sc : Scope) (N' : List Str) (cap : List (Option Nat)) : Prop where
  kind : sc.kind = .function
  len : cap.length = N'.length
  nocell : ∀ x ∈ sc.names, x.2 ≠ NameKind.cell
  locals : ∀ x ∈ sc.names, x.2 = NameKind.local → sc.names.lookup x.1 = some NameKind.local
  free : ∀ n, (n, NameKind.free) ∈ sc.names → X.env.kindOf n = some .cell ∨ X.env.kindOf n = some .free
  slots : ∀ (i j : Nat) (x : Str), N'[i]? = some x → cap[i]? = some (some j) → X.N[j]? = some x ∧ ((relabel sc X.env).names.lookup x = some .cell ∨ (relabel sc X.env).names.lookup x = some .free) ∧ Vis X.env.scope x

section
variable {X : Cx} {sc : Scope} {N' : List Str} {cap : List (Option Nat)} {pins : List (Addr × Obj)} {σ : St} {H : Hp} {s : Shared} {C : Addr} {fp : List Addr}

theorem CapOk.cells (c : CapOk X sc N' cap) (ok : X.Ok) : ∀ n, (n, NameKind.free) ∈ sc.names → ∃ c, X.env.cells.lookup n = some c := fun n hn => ok.has n (c.free n hn)

theorem relabel_mem {env : Env} {x : Str} {k : NameKind} (hnc : ∀ x ∈ sc.names, x.2 ≠ NameKind.cell) (h : (relabel sc env).names.lookup x = some k) (hk : k = .cell ∨ k = .free) : (x, NameKind.free) ∈ sc.names := by
  have all : ∀ (l : List (Str × NameKind)), (∀ x ∈ l, x.2 ≠ NameKind.cell) → (l.map fun (n, k) => if (k == NameKind.free && env.scope.kind == .function && env.kindOf n == some .cell) then (n, NameKind.cell) else (n, k)).lookup x = some k → (x, NameKind.free) ∈ l := by
    intro l
    induction l with
    | nil => intro _ h; exact nomatch h
    | cons p r ih =>
      intro hn h
      obtain ⟨n, q⟩ := p
      rw [List.map_cons, List.lookup_cons] at h
      by_cases hc : (q == NameKind.free && env.scope.kind == .function && env.kindOf n == some .cell) = true
      · have hq : q = NameKind.free := by
          have := hc
          simp only [Bool.and_eq_true] at this
          simpa using this.1.1
        simp only [hc, if_true] at h
        cases hx : x == n with
        | true =>
          have e : x = n := by simpa using hx
          rw [e, hq]
          exact List.mem_cons_self
        | false =>
          rw [hx] at h
          exact List.mem_cons_of_mem _ (ih (fun y hy => hn y (List.mem_cons_of_mem _ hy)) h)
      · simp only [hc] at h
        cases hx : x == n with
        | true =>
          have e : x = n := by simpa using hx
          simp only [Bool.false_eq_true, if_false, hx] at h
          have e2 : q = k := by simpa using h
          rcases hk with z | z
          · exact absurd (e2.trans z) (hn (n, q) List.mem_cons_self)
          · rw [e, ← z, ← e2]
            exact List.mem_cons_self
        | false =>
          simp only [Bool.false_eq_true, if_false, hx] at h
          exact List.mem_cons_of_mem _ (ih (fun y hy => hn y (List.mem_cons_of_mem _ hy)) h)
  exact all sc.names hnc h

theorem comp_ok (c : CapOk X sc N' cap) (I : Inv X pins σ H s) (hC : s.heap.objs.size ≤ C) (hf : ∀ b ∈ fp, FpOk X pins H b) (hb : ∀ b ∈ fp, b < s.heap.objs.size) : (compCx X sc N' C s H fp).Ok where
  mod := I.ok.mod
  kind := c.kind
  glob := I.ok.glob
  blt := I.ok.blt
  above := hC
  inj := fun x y a hx hy => I.ok.inj x y a (lookup_clOf (c.cells I.ok) (fun z => by simp at z) hx) (lookup_clOf (c.cells I.ok) (fun z => by simp at z) hy)
  has := fun x hx => by
    refine clOf_has (.inl ?_)
    rcases hx with hx | hx
    · exact relabel_mem c.nocell hx (.inl rfl)
    · exact relabel_mem c.nocell hx (.inr rfl)
  cab := fun _ _ h => nomatch h
  hd := I.ok.hd
  frames := I.ok.frames
  stk := .inl rfl
  exf := fun b hb' => ⟨Nat.ne_of_lt (Nat.lt_of_lt_of_le (hb b hb') hC), fun x a e => (hf b hb').2.2.2.2.1 x a (lookup_clOf (c.cells I.ok) (fun z => by simp at z) e)⟩
  bs := I.bs
  bsz := Nat.le_trans I.ok.bsz I.sz
  noex := fun b o e hb' => by
    rcases (hf b hb').2.2.2.1 with z | z
    · exact I.ok.noex b o e z
    · exact absurd (Nat.lt_of_lt_of_le (Heap.lt_size e) (Nat.le_trans I.ok.bsz z)) (Nat.lt_irrefl _)
  exfs := fun b hb' z => by
    obtain ⟨_, f1, f2, _⟩ := hf b hb'
    rcases List.mem_cons.mp (I.stkSub b z) with e | e
    · exact f1 e
    · exact f2 e
  funs := I.stack
  frf := I.stkFree


theorem comp_inv (c : CapOk X sc N' cap) (I : Inv X pins σ H s) {D : Addr} {h1 : Heap} {t : Nat} (hC : C = s.heap.objs.size + 1) (hD : D = s.heap.objs.size) (hf : ∀ b ∈ fp, FpOk X pins H b) (hb : ∀ b ∈ fp, b < s.heap.objs.size)
    (hn : h1.Ns C fun _ => none) (hl : h1.get? D = some { cls := .type "list", data := .seq #[] 0 }) (k : ∀ b o, s.heap.get? b = some o → h1.get? b = some o) :
    Inv (compCx X sc N' C s H fp) [] (capS cap σ) (upd H D (.lst [])) { s with heap := h1, toks := t } := by
  have hCs : s.heap.objs.size ≤ C := by rw [hC]; exact Nat.le_succ _
  have hCD : C ≠ D := by rw [hC, hD]; exact Nat.succ_ne_self _
  have ok := comp_ok (C := C) (fp := fp) c I hCs hf hb
  have hDn : H D = none := by rw [hD]; exact I.fresh
  have ltc : ∀ x a, (clOf X.env.cells sc.names []).lookup x = some a → X.env.cells.lookup x = some a := fun x a e => lookup_clOf (c.cells I.ok) (fun z => by simp at z) e
  have cel : ∀ a v, s.heap.IsCell a v → h1.IsCell a v := fun a v ⟨o, ho, hd⟩ => ⟨o, k a o ho, hd⟩
  have ltD : ∀ a v, s.heap.IsCell a v → a ≠ D := fun a v ⟨o, ho, hd⟩ => by rw [hD]; exact Nat.ne_of_lt (Heap.lt_size ho)
  refine ⟨ok, rfl, I.bare, Un.laid k (by rw [hD]; exact Nat.le_refl _) hDn, ⟨_, hn, fun i x v e1 e2 e3 => ?_⟩, fun x a e => ?_, ?_, fun x a e => ?_, fun p hp => absurd hp (by simp [compCx]), ?_, ?_⟩
  · have e2' : cap[i]?.map (fun o => o.bind fun j => (σ[j]?).join) = some (some v) := by
      have := e2
      unfold capS at this
      rw [List.getElem?_map] at this
      exact this
    cases hc : cap[i]? with
    | none => rw [hc] at e2'; cases e2'
    | some o =>
      rw [hc] at e2'
      cases o with
      | none => cases e2'
      | some j =>
        have e4 : (σ[j]?).join = some v := by simpa using e2'
        obtain ⟨q1, q2', q3⟩ := c.slots i j x e1 hc
        have q2 : (x, NameKind.free) ∈ sc.names := q2'.elim (fun z => relabel_mem c.nocell z (.inl rfl)) fun z => relabel_mem c.nocell z (.inr rfl)
        obtain ⟨m, hm, hl'⟩ := I.loc
        have e5 : σ[j]? = some (some v) := by
          cases z : σ[j]? with
          | none => rw [z] at e4; cases e4
          | some y => rw [z] at e4; cases y with
            | none => cases e4
            | some y' => cases e4; rfl
        obtain ⟨u, r, l⟩ := hl' j x v q1 e5 q3
        refine ⟨u, r, ?_⟩
        obtain ⟨a, ha⟩ := clOf_has (cells := X.env.cells) (l := sc.names) (acc := []) (x := x) (.inl q2)
        have kd : X.env.kindOf x = some .cell ∨ X.env.kindOf x = some .free := c.free x q2
        rcases l with ⟨hk, _⟩ | ⟨hk, a', ha', hcell⟩
        · rcases kd with z | z <;> rw [z] at hk <;> cases hk
        · have e6 : a' = a := by
            have := ltc x a ha
            rw [ha'] at this
            exact Option.some.inj this
          refine .inr ⟨q2', a, ha, ?_⟩
          rw [← e6]
          exact cel _ _ hcell
  · obtain ⟨v, z⟩ := I.cell x a (ltc x a e)
    exact ⟨v, cel a v z⟩
  · show upd H D (.lst []) C = none
    rw [upd_ne hCD]
    exact I.hok.fresh hCs
  · show upd H D (.lst []) a = none
    obtain ⟨v, z⟩ := I.cell x a (ltc x a e)
    rw [upd_ne (ltD a v z)]
    exact I.freeC x a (ltc x a e)
  · exact I.hok.laid k (by rw [hD]; exact Nat.le_refl _) ⟨Nat.zero_le _, [], 0, .nil, hl⟩
  · show (capS cap σ).length = N'.length
    unfold capS
    rw [List.length_map, c.len]
end
end L2

set_option Elab.async false
set_option linter.all false
set_option maxRecDepth 100000
set_option maxHeartbeats 4000000
namespace L2
open PySem PySem.Spec PyProof.Rows


def capB (osc : Scope) (N : List Str) (sc : Scope) (N' : List Str) (cap : List (Option Nat)) : Bool :=
  decide (sc.kind = .function) && decide (cap.length = N'.length) && sc.names.all (fun x => decide (x.2 ≠ NameKind.cell)) && sc.names.all (fun x => decide (x.2 = NameKind.local → sc.names.lookup x.1 = some NameKind.local)) &&
  sc.names.all (fun x => decide (x.2 = NameKind.free → (osc.names.lookup x.1 = some .cell ∨ osc.names.lookup x.1 = some .free))) &&
  (N'.zip cap).all (fun p => match p.2 with
    | none => true
    | some j => decide (N[j]? = some p.1) && decide (((sc.names.map fun (n, k) => if (k == .free && osc.kind == .function && osc.names.lookup n == some .cell) then (n, NameKind.cell) else (n, k)).lookup p.1 = some .cell) ∨
        ((sc.names.map fun (n, k) => if (k == .free && osc.kind == .function && osc.names.lookup n == some .cell) then (n, NameKind.cell) else (n, k)).lookup p.1 = some .free)) &&
      decide (osc.names.lookup p.1 = some .local ∨ osc.names.lookup p.1 = some .cell ∨ osc.names.lookup p.1 = some .free))
theorem capB_ok {X : Cx} {sc : Scope} {N' : List Str} {cap : List (Option Nat)} (h : capB X.env.scope X.N sc N' cap = true) : CapOk X sc N' cap := by
  unfold capB at h
  rw [Bool.and_eq_true, Bool.and_eq_true, Bool.and_eq_true, Bool.and_eq_true, Bool.and_eq_true, List.all_eq_true, List.all_eq_true, List.all_eq_true, List.all_eq_true] at h
  obtain ⟨⟨⟨⟨⟨h1, h2⟩, h3⟩, h4⟩, h5⟩, h6⟩ := h
  refine ⟨of_decide_eq_true h1, of_decide_eq_true h2, fun x hx => of_decide_eq_true (h3 x hx), fun x hx => of_decide_eq_true (h4 x hx), fun n hn => of_decide_eq_true (h5 _ hn) rfl, fun i j x e1 e2 => ?_⟩
  have hm : (x, some j) ∈ N'.zip cap := by
    have e : (N'.zip cap)[i]? = some (x, some j) := by
      rw [List.getElem?_zip_eq_some]
      exact ⟨e1, e2⟩
    exact List.mem_of_getElem? e
  have h7 := h6 _ hm
  dsimp only at h7
  rw [Bool.and_eq_true, Bool.and_eq_true] at h7
  obtain ⟨⟨h8, h9⟩, h10⟩ := h7
  exact ⟨of_decide_eq_true h8, of_decide_eq_true (p := (relabel sc X.env).names.lookup x = some .cell ∨ (relabel sc X.env).names.lookup x = some .free) h9, of_decide_eq_true (p := X.env.scope.names.lookup x = some .local ∨ X.env.scope.names.lookup x = some .cell ∨ X.env.scope.names.lookup x = some .free) h10⟩


def PTs (X : Cx) (ifs : List Expr) (t : TT) : Prop :=
  ∀ (pins : List (Addr × Obj)) (s : Shared) (σ : St) (H : Hp) (Q : Bool → Hp → Prop), Inv X pins σ H s → t σ H Q →
    wpAny (model X.prog X.w) X.A (forIn ifs true fun c r => if r = true then do let ok ← isTrue c X.env (eval c X.env); pure (ForInStep.yield ok) else pure (ForInStep.yield r)) (TP X pins σ Q) X.xe s
def tYes : TT := fun _ H Q => Q true H
theorem pts_nil {X : Cx} : PTs X [] tYes := fun _ _ _ H _ I h => wpAny_tests_nil ⟨H, I, h⟩
def RunC (J : It) (g : TG) (tc : TT) (te : TE) (D : Addr) (Q : Hp → Prop) (τ : St) (H : Hp) : Prop :=
  ∃ W : Nat → Nat → List V → St → Hp → Prop, (∃ m, W 0 m [] τ H) ∧ ∀ i m ys τ H, W i m ys τ H →
    (J.stop i H ∧ Q H) ∨
    (J.go i H ∧ ∃ N : List V → St → Hp → Prop, (∀ ys' τ' H', N ys' τ' H' → ∃ m', m' < m ∧ W (i + 1) m' ys' τ' H') ∧
      ∀ x H', J.yld i H x H' → g x τ H' fun τ2 H2 => tc τ2 H2 fun b H3 => if b = true then te τ2 H3 fun y H4 => H4 D = some (.lst ys) ∧ ys.length < sizeLine ∧ N (ys ++ [y]) τ2 (upd H4 D (.lst (ys ++ [y]))) else N ys τ2 H3)

section
variable {X : Cx} {sc : Scope} {N' : List Str} {cap : List (Option Nat)} {tg elt iter : Expr} {ifs : List Expr} {pos : Pos} {g : TG} {tc : TT} {te : TE}

theorem comp_loop {Y : Cx} {J : It} {fp : List Addr} {it D : Addr} {tn : Nat → Heap → Prop} {R : Result → Shared → Prop} {Q : Hp → Prop} {τ : St} {H : Hp} {s : Shared}
    (hx : Y.xe = fun _ _ => False) (hc : Y.calm = true) (hg : PG Y tg g) (ht : PTs Y ifs tc) (he : PE Y elt te) (T : Turn Y.prog Y.w Y.K tg J fp it tn) (st : tn 0 s.heap) (hf : ∀ b ∈ fp, FpOk Y [] H b) (I : Inv Y [] τ H s)
    (h : RunC J g tc te D Q τ H) (hR : ∀ τ' H' s', Inv Y [] τ' H' s' → Q H' → R (.ok .next) s') :
    codeAny (model Y.prog Y.w) Y.A (.compLoop (.ListComp elt [⟨tg, iter, ifs, 0⟩] sc pos) 0 (.ref it) (.ref D) Y.env) R s := by
  obtain ⟨W, ⟨m0, w0⟩, turn⟩ := h
  have stat : ∀ {H' : Hp}, (∀ b ∈ fp, H' b = none) → ∀ b ∈ fp, FpOk Y [] H' b := fun hn b hb => ⟨hn b hb, (hf b hb).2⟩
  have no : ∀ {P : Prop} {e : Value} {s' : Shared}, Y.xe e s' → P := fun z => by rw [hx] at z; exact z.elim
  refine codeAny_loop rfl (fun n s' => ∃ i ys τ' H', Inv Y [] τ' H' s' ∧ tn i s'.heap ∧ (∀ b ∈ fp, H' b = none) ∧ W i n ys τ' H') ?_ m0 ⟨0, [], τ, H, I, st, fun b hb => (hf b hb).1, w0⟩
  rintro n s3 ⟨i, ys, τ3, H3, I3, st3, fr3, w3⟩
  show wpAny _ Y.A ((compTurn (.ListComp elt [⟨tg, iter, ifs, 0⟩] sc pos) 0 (.ref it) (.ref D) Y.env).onRaise (fun x => do noteFrame x Y.env; theTreesLotGoes x)) _ _ s3
  refine wpAny_noted ?_
  rw [compTurn_list]
  refine wpAny_bind (wpAny_standAt (wpAny_bind ?_))
  rcases turn i n ys τ3 H3 w3 with ⟨stop, qn⟩ | ⟨go, N, hN, step⟩
  · refine wpAny_mono (T.done Y rfl rfl rfl hc i [] s3 τ3 H3 (fun _ _ => False) I3 (stat fr3) st3 stop) (fun r s4 ⟨hr, I4⟩ => ?_) fun _ _ z => z.elim
    subst hr
    exact wpAny_pure (hR _ _ _ I4 qn)
  · refine wpAny_mono (T.item Y rfl rfl rfl hc i [] s3 τ3 H3 (fun _ _ => False) I3 (stat fr3) st3 go) (fun r s4 ⟨u, hr, h4⟩ => ?_) fun _ _ z => z.elim
    subst hr
    refine wpAny_bind (wpAny_mono h4 (fun _ s5 ⟨x, H5, I5, r5, y5, st5, fr5⟩ => ?_) fun _ _ z => z.elim)
    have I5' := I5.pinned (stat fr5) (T.obj _ _ st5)
    have again : ∀ {τ7 : St} {H7 : Hp} {ys7 : List V} {s7 : Shared}, Inv Y ([] ++ pinsAt fp s5.heap) τ7 H7 s7 → N ys7 τ7 H7 → ∃ m, m < n ∧ ∃ i ys τ' H', Inv Y [] τ' H' s7 ∧ tn i s7.heap ∧ (∀ b ∈ fp, H' b = none) ∧ W i m ys τ' H' := fun {τ7 H7 ys7 s7} I7 n7 => by
      obtain ⟨m', hm, w7⟩ := hN ys7 τ7 H7 n7
      refine ⟨m', hm, i + 1, ys7, τ7, H7, I7.unpinned, T.keep _ _ _ st5 fun b hb o e => (I7.pin (b, o) (List.mem_append_right _ (List.mem_append_right _ (mem_pinsAt hb e)))).1, fun b hb => ?_, w7⟩
      obtain ⟨o, e, d⟩ := T.obj _ _ st5 b hb
      exact (I7.pin (b, o) (List.mem_append_right _ (List.mem_append_right _ (mem_pinsAt hb e)))).2.1
    refine wpAny_bind (wpAny_mono (hg _ s5 τ3 H5 x u _ I5' r5 (step x H5 y5)) (fun _ s6 ⟨τ6, H6, I6, q6⟩ => ?_) fun _ _ z => no z)
    refine wpAny_bind (wpAny_mono (ht _ s6 τ6 H6 _ I6 q6) (fun ok s7 ⟨H7, I7, q7⟩ => ?_) fun _ _ z => no z)
    cases ok with
    | false =>
      have q8 : N ys τ6 H7 := by simpa using q7
      exact wpAny_pure ⟨rfl, again I7 q8⟩
    | true =>
      have q8 : te τ6 H7 fun y H4 => H4 D = some (.lst ys) ∧ ys.length < sizeLine ∧ N (ys ++ [y]) τ6 (upd H4 D (.lst (ys ++ [y]))) := by simpa using q7
      refine wpAny_bind (wpAny_bind (wpAny_mono (he _ s7 τ6 H7 _ I7 q8) (fun y s8 ⟨v8, H8, I8, r8, hD, hl, n8⟩ => ?_) fun _ _ z => no z))
      refine wpAny_bind (wpAny_mono (mt_append _ s8 τ6 H8 (.ref D) [v8] (.ref D) [y] (fun _ H9 => N (ys ++ [v8]) τ6 H9) I8 rfl (.cons r8 .nil) ⟨D, ys, v8, rfl, rfl, hD, hl, n8⟩) (fun _ s9 ⟨_, H9, I9, _, n9⟩ => ?_) fun _ _ z => no z)
      exact wpAny_pure (wpAny_pure ⟨rfl, again I9 n9⟩)


theorem comp_block {pins : List (Addr × Obj)} {σ : St} {H : Hp} {s : Shared} {J : It} {fp : List Addr} {it : Addr} {tn : Nat → Heap → Prop} {RR : Value → Addr → Result → Shared → Prop} {Q : Addr → Hp → Prop} {E : Value → Shared → Prop}
    (c : CapOk X sc N' cap) (hc : X.calm = true) (hg : ∀ C s₀ H₀ fp, PG (compCx X sc N' C s₀ H₀ fp) tg g) (ht : ∀ C s₀ H₀ fp, PTs (compCx X sc N' C s₀ H₀ fp) ifs tc) (he : ∀ C s₀ H₀ fp, PE (compCx X sc N' C s₀ H₀ fp) elt te)
    (I : Inv X pins σ H s) (T : Turn X.prog X.w X.K tg J fp it tn) (st : tn 0 s.heap) (hf : ∀ b ∈ fp, FpOk X pins H b)
    (h : ∀ D, H D = none → RunC J g tc te D (Q D) (capS cap σ) (upd H D (.lst [])))
    (hR : ∀ D C s' H' m', H D = none → s.heap.objs.size ≤ C → s'.os = s.os → AllBare s'.gens → Un (frs X.stack) fp H H' s.heap s'.heap → HOk X.prog X.w H' s'.heap → s'.heap.Ns C m' → H' C = none → C ∉ fp → Q D H' → RR (.ref D) C (.ok .next) s') :
    wpAny (model X.prog X.w) X.A (newList []) (fun acc s₃ => wpAny (model X.prog X.w) X.A (newFunctionEnv sc X.env.globals (clOf X.env.cells sc.names []) [] X.env.qual none .none (some X.env)) (fun cenv s₄ =>
      codeAny (model X.prog X.w) X.A (.compStart (.ListComp elt [⟨tg, iter, ifs, 0⟩] sc pos) 0 (.ref it) acc { cenv with scope := relabel sc X.env }) (RR acc cenv.locals) s₄) E s₃) E s := by
  have hb : ∀ b ∈ fp, b < s.heap.objs.size := fun b hb => by
    obtain ⟨o, e, _⟩ := T.obj _ _ st b hb
    exact Heap.lt_size e
  refine wpAny_newObj_type (wpAny_newFunctionEnv c.nocell (by intro y hy; simp at hy) (fun h₁ hns₁ hsb₁ => ?_) c.kind)
  dsimp only at hns₁ hsb₁ ⊢
  generalize hH2 : s.heap.push { cls := .type "list", dict := none, data := .seq ([] : List Value).toArray } = H2 at hns₁ hsb₁ ⊢
  have hC : H2.objs.size = s.heap.objs.size + 1 := by rw [← hH2, Heap.size_push]
  have hCl : s.heap.objs.size ≤ H2.objs.size := by rw [hC]; exact Nat.le_succ _
  have hCn : s.heap.objs.size ≠ H2.objs.size := by rw [hC]; exact (Nat.succ_ne_self _).symm
  have old : ∀ b o, s.heap.get? b = some o → h₁.get? b = some o := fun b o e => by
    have l1 := Heap.lt_size e
    exact hsb₁.extBut b o (Nat.ne_of_lt (Nat.lt_of_lt_of_le l1 hCl)) (Heap.get?_push_of_some _ (hH2 ▸ Heap.get?_push_of_some _ e))
  have hl : h₁.get? s.heap.objs.size = some { cls := .type "list", data := .seq #[] 0 } := hsb₁.extBut _ _ hCn (Heap.get?_push_of_some _ (hH2 ▸ Heap.get?_push_size _ rfl))
  have hns₂ : h₁.Ns H2.objs.size fun _ => none := by simpa using hns₁
  have I4 : Inv (compCx X sc N' H2.objs.size s H fp) [] (capS cap σ) (upd H s.heap.objs.size (.lst [])) { s with heap := h₁, toks := s.toks + ([] : List (Str × Value)).length } := comp_inv c I hC rfl hf hb hns₂ hl old
  have hfr : H s.heap.objs.size = none := I.fresh
  have f4 : ∀ b ∈ fp, FpOk (compCx X sc N' H2.objs.size s H fp) [] (upd H s.heap.objs.size (.lst [])) b := fun b hb' => by
    obtain ⟨f0, f1, f2, f3, f4, f5⟩ := hf b hb'
    have lb := hb b hb'
    refine ⟨by rw [upd_ne (Nat.ne_of_lt lb)]; exact f0, (Nat.ne_of_lt (Nat.lt_of_lt_of_le lb hCl) : b ≠ H2.objs.size), fun z => ?_, .inl hb', fun x a e => f4 x a (lookup_clOf (c.cells I.ok) (fun z => by simp at z) e), fun p hp => absurd hp (by simp [compCx])⟩
    rcases List.mem_cons.mp (I.stkSub b z) with e | e
    · exact f1 e
    · exact f2 e
  have st4 : tn 0 h₁ := T.keep _ _ _ st fun b _ o e => old b o e
  have loop : ∀ s₅ : Shared, s₅ = { s with heap := h₁, toks := s.toks + ([] : List (Str × Value)).length } →
      codeAny (model X.prog X.w) X.A (.compLoop (.ListComp elt [⟨tg, iter, ifs, 0⟩] sc pos) 0 (.ref it) (.ref s.heap.objs.size) (compCx X sc N' H2.objs.size s H fp).env) (RR (.ref s.heap.objs.size) H2.objs.size) s₅ := by
    rintro s₅ rfl
    refine comp_loop (Y := compCx X sc N' H2.objs.size s H fp) (J := J) (fp := fp) (tn := tn) (Q := Q s.heap.objs.size) rfl hc (hg _ _ _ _) (ht _ _ _ _) (he _ _ _ _) T st4 f4 I4 (h _ hfr) fun τ' H' s' I' q' => ?_
    obtain ⟨m', hn', _⟩ := I'.loc
    exact hR _ _ s' H' m' hfr hCl I'.os I'.bare I'.base I'.hok hn' I'.free (fun z => absurd (Nat.lt_of_lt_of_le (hb _ z) hCl) (Nat.lt_irrefl _)) q'
  exact codeAny_compStart_list (loop _ rfl) (T.self _ 0 _ _ _ st4 (loop _ rfl))

def tComp (wi : TI) (cap : List (Option Nat)) (g : TG) (tc : TT) (te : TE) : TE := fun σ H Q => wi σ H fun J H1 => ∀ D, H1 D = none → RunC J g tc te D (fun H' => Q (.ref D) H') (capS cap σ) (upd H1 D (.lst []))

theorem Inv.fpCh {pins : List (Addr × Obj)} {H : Hp} {fp : List Addr} (hf : ∀ b ∈ fp, FpOk X pins H b) : ∀ b ∈ fp, (b ∈ X.ex ∨ X.s₀.heap.objs.size ≤ b) ∧ b ≠ X.env.locals ∧ (∀ x c, X.env.cells.lookup x = some c → c ≠ b) ∧ ∀ p ∈ X.pn ++ pins, p.1 ≠ b :=
  fun b hb => let ⟨_, f1, _, f3, f4, f5⟩ := hf b hb; ⟨f3, f1, f4, f5⟩

theorem pe_comp {wi : TI} (hc : X.calm = true) (hcap : capB X.env.scope X.N sc N' cap = true) (hi : PI X tg iter wi) (hg : ∀ C s₀ H₀ fp, PG (compCx X sc N' C s₀ H₀ fp) tg g) (ht : ∀ C s₀ H₀ fp, PTs (compCx X sc N' C s₀ H₀ fp) ifs tc)
    (he : ∀ C s₀ H₀ fp, PE (compCx X sc N' C s₀ H₀ fp) elt te) (hs : ∀ x, foldedSetIterable iter X.env x = pure x := by intro _; rfl) : PE X (.ListComp elt [⟨tg, iter, ifs, 0⟩] sc pos) (tComp wi cap g tc te) := by
  intro pins s σ H Q I h
  have c : CapOk X sc N' cap := capB_ok hcap
  rw [eval_ListComp]
  refine wpAny_comprehension_free (use := none) rfl hs (closure_ok (c.cells I.ok)) c.kind c.locals (thn (hi pins s σ H _ I h) fun v s1 h1 => thn h1 fun itv s2 h2 => ?_)
  obtain ⟨it, fp, tn, J, H2, e, I2, T, st2, f2, hW⟩ := h2
  subst e
  refine comp_block (RR := fun acc C => compPost (model X.prog X.w) X.A X.xe none (EP X pins σ Q) acc C) (Q := fun D H' => Q (.ref D) H') c hc hg ht he I2 T st2 f2 hW ?_
  intro D C s' H' m' hD hC hos hbare hun hok hn hHC hCf q
  refine ⟨m', hn, fun h' hsb => ?_⟩
  have I3 : Inv X pins σ H' s' := I2.call' hos hun hok hbare (Inv.fpCh f2)
  have f3 : FpOk X pins H' C := I2.fpOk hC hHC
  obtain ⟨_, k1, _, k3, k4, k5⟩ := f3
  have I4 : Inv X pins σ H' { s' with heap := h' } := I3.turned (t' := s'.toks) (fun b o hb e => (hsb.2 b hb).trans e) hHC k1 k3 k4 k5
  exact ⟨.ref D, H', I4, rfl, q⟩


theorem ps_setC {wi : TI} {i : Nat} {x : Str} {px spos : Pos} (hN : X.N.Nodup) (hi' : X.N[i]? = some x) (hx : Loc X.env.scope x) (hc : X.calm = true) (hcap : capB X.env.scope X.N sc N' cap = true) (hi : PI X tg iter wi)
    (hg : ∀ C s₀ H₀ fp, PG (compCx X sc N' C s₀ H₀ fp) tg g) (ht : ∀ C s₀ H₀ fp, PTs (compCx X sc N' C s₀ H₀ fp) ifs tc) (he : ∀ C s₀ H₀ fp, PE (compCx X sc N' C s₀ H₀ fp) elt te)
    (hsw : swapsWith (.ListComp elt [⟨tg, iter, ifs, 0⟩] sc pos) (some (.Name x px)) spos.line X.env = pure true := by rfl)
    (hs : ∀ x, foldedSetIterable iter X.env x = pure x := by intro _; rfl) (hf : X.fn x = true ∨ X.env.scope.names.lookup x = some .local := by first | exact .inl rfl | exact .inr rfl | assumption) :
    PS X (.Assign [.Name x px] (.ListComp elt [⟨tg, iter, ifs, 0⟩] sc pos) spos) (tAsg (tComp wi cap g tc te) (gName i)) := by
  intro pins s σ H D I h
  have c : CapOk X sc N' cap := capB_ok hcap
  rw [exec_Assign_Name_used _ _ _ _ hsw]
  refine wpAny_bind (wpAny_standAt (wpAny_bind ?_))
  show wpAny _ X.A (do let _ ← comprehension (.ListComp elt [⟨tg, iter, ifs, 0⟩] sc pos) sc X.env _ (newList []) false (eval iter X.env) (some (assign (.Name x px) X.env))) _ _ s
  refine wpAny_bind (thn (wpAny_comprehension_free (use := some (assign (.Name x px) X.env)) (Q := fun _ s' => SP X pins D .next s') rfl hs (closure_ok (c.cells I.ok)) c.kind c.locals
    (thn (hi pins s σ H _ I h) fun v s1 h1 => thn h1 fun itv s2 h2 => ?_)) fun _ s' hq => wpAny_pure (wpAny_pure hq))
  obtain ⟨it, fp, tn, J, H2, e, I2, T, st2, f2, hW⟩ := h2
  subst e
  refine comp_block (RR := fun acc C => compPost (model X.prog X.w) X.A X.xe (some (assign (.Name x px) X.env)) (fun _ s' => SP X pins D .next s') acc C) (Q := fun A H' => gName i (.ref A) σ H' D.nx) c hc hg ht he I2 T st2 f2 hW ?_
  intro A C s' H' m' hD hC hos hbare hun hok hn hHC hCf q
  have I3 : Inv X pins σ H' s' := I2.call' hos hun hok hbare (Inv.fpCh f2)
  have f3 : FpOk X pins H' C := I2.fpOk hC hHC
  obtain ⟨_, k1, _, k3, k4, k5⟩ := f3
  show wpAny _ X.A (assign (.Name x px) X.env (.ref A)) _ _ s'
  refine wpAny_assign_Name (store_ok2 I3 hN hi' hx (v := .ref A) rfl (fun s'' I'' ⟨a, hsb, ha⟩ => ?_) hf)
  have hCa : C ≠ a := by
    rcases ha with z | z
    · rw [z]; exact k1
    · exact fun z' => k4 x a z z'.symm
  refine ⟨m', hn.sameBut hsb hCa, fun h' hsb' => ?_⟩
  have I4 : Inv X pins (σ.set i (some (.ref A))) H' { s'' with heap := h' } := I''.turned (t' := s''.toks) (fun b o hb e => (hsb'.2 b hb).trans e) hHC k1 k3 k4 k5
  exact ⟨_, H', I4, q⟩
end


section
variable {g : TG} {tc : TT} {te : TE} {D : Addr} {Q : Hp → Prop} {τ : St} {H : Hp}
theorem comp_list {K : PySem.W.Frag} {a : Addr} {xs : List V} (Pv : Nat → List V → St → Hp → Prop) (h0 : Pv 0 [] τ H) (hl : ∀ i ys τ H, i ≤ xs.length → Pv i ys τ H → SqL K H a xs)
    (hs : ∀ i x ys τ H, xs[i]? = some x → Pv i ys τ H → g x τ H fun τ2 H2 => tc τ2 H2 fun b H3 => if b = true then te τ2 H3 fun y H4 => H4 D = some (.lst ys) ∧ ys.length < sizeLine ∧ Pv (i + 1) (ys ++ [y]) τ2 (upd H4 D (.lst (ys ++ [y]))) else Pv (i + 1) ys τ2 H3)
    (hd : ∀ ys τ H, Pv xs.length ys τ H → Q H) : RunC (Itl K a) g tc te D Q τ H := by
  refine ⟨fun i m ys τ H => m = xs.length - i ∧ i ≤ xs.length ∧ Pv i ys τ H, ⟨xs.length, by simp, Nat.zero_le _, h0⟩, ?_⟩
  rintro i m ys τ H ⟨rfl, hi, p⟩
  have q := hl i ys τ H hi p
  by_cases hlt : i < xs.length
  · refine .inr ⟨⟨xs, xs[i], q, by simp [hlt]⟩, Pv (i + 1), fun ys' τ' H' p' => ⟨xs.length - (i + 1), by omega, rfl, hlt, p'⟩, fun x H' y => ?_⟩
    obtain ⟨e, y⟩ := y
    subst e
    exact hs i x ys τ _ (y xs q) p
  · have e : i = xs.length := by omega
    subst e
    exact .inl ⟨⟨xs, q, Nat.le_refl _⟩, hd ys τ H p⟩
theorem comp_tup {K : PySem.W.Frag} {a : Addr} {xs : List V} (Pv : Nat → List V → St → Hp → Prop) (h0 : Pv 0 [] τ H) (hl : ∀ i ys τ H, i ≤ xs.length → Pv i ys τ H → SqT K H a xs)
    (hs : ∀ i x ys τ H, xs[i]? = some x → Pv i ys τ H → g x τ H fun τ2 H2 => tc τ2 H2 fun b H3 => if b = true then te τ2 H3 fun y H4 => H4 D = some (.lst ys) ∧ ys.length < sizeLine ∧ Pv (i + 1) (ys ++ [y]) τ2 (upd H4 D (.lst (ys ++ [y]))) else Pv (i + 1) ys τ2 H3)
    (hd : ∀ ys τ H, Pv xs.length ys τ H → Q H) : RunC (Itt K a) g tc te D Q τ H := by
  refine ⟨fun i m ys τ H => m = xs.length - i ∧ i ≤ xs.length ∧ Pv i ys τ H, ⟨xs.length, by simp, Nat.zero_le _, h0⟩, ?_⟩
  rintro i m ys τ H ⟨rfl, hi, p⟩
  have q := hl i ys τ H hi p
  by_cases hlt : i < xs.length
  · refine .inr ⟨⟨xs, xs[i], q, by simp [hlt]⟩, Pv (i + 1), fun ys' τ' H' p' => ⟨xs.length - (i + 1), by omega, rfl, hlt, p'⟩, fun x H' y => ?_⟩
    obtain ⟨e, y⟩ := y
    subst e
    exact hs i x ys τ _ (y xs q) p
  · have e : i = xs.length := by omega
    subst e
    exact .inl ⟨⟨xs, q, Nat.le_refl _⟩, hd ys τ H p⟩
theorem comp_range {lo : Int} {n : Nat} (Pv : Nat → List V → St → Hp → Prop) (h0 : Pv 0 [] τ H)
    (hs : ∀ i ys τ H, i < n → Pv i ys τ H → g (.int (lo + i)) τ H fun τ2 H2 => tc τ2 H2 fun b H3 => if b = true then te τ2 H3 fun y H4 => H4 D = some (.lst ys) ∧ ys.length < sizeLine ∧ Pv (i + 1) (ys ++ [y]) τ2 (upd H4 D (.lst (ys ++ [y]))) else Pv (i + 1) ys τ2 H3)
    (hd : ∀ ys τ H, Pv n ys τ H → Q H) : RunC (Itr lo n) g tc te D Q τ H := by
  refine ⟨fun i m ys τ H => m = n - i ∧ i ≤ n ∧ Pv i ys τ H, ⟨n, by simp, Nat.zero_le _, h0⟩, ?_⟩
  rintro i m ys τ H ⟨rfl, hi, p⟩
  by_cases hlt : i < n
  · refine .inr ⟨hlt, Pv (i + 1), fun ys' τ' H' p' => ⟨n - (i + 1), by omega, rfl, hlt, p'⟩, fun x H' y => ?_⟩
    obtain ⟨e, y⟩ := y
    subst e y
    exact hs i ys τ _ hlt p
  · have e : i = n := by omega
    subst e
    exact .inl ⟨Nat.le_refl _, hd ys τ H p⟩
end
end L2

set_option Elab.async false
set_option linter.all false
set_option maxRecDepth 100000
set_option maxHeartbeats 4000000

namespace L2
open PySem PySem.Spec PyProof.Rows PySem.SeqAt

inductive D where
  | non | bl (b : Bool) | int (i : Int) | str (x : Str) | tup (ds : List D) | lst (ds : List D)

mutual
def Rep (K : PySem.W.Frag) (H : Hp) : V → D → Prop
  | v, .non => v = .non
  | v, .bl b => v = .bl b
  | v, .int i => v = .int i
  | v, .str x => v = .str x
  | v, .tup ds => ∃ a vs, v = .ref a ∧ SqT K H a vs ∧ Reps K H vs ds
  | v, .lst ds => ∃ a vs, v = .ref a ∧ SqL K H a vs ∧ Reps K H vs ds
def Reps (K : PySem.W.Frag) (H : Hp) : List V → List D → Prop
  | vs, [] => vs = []
  | vs, d :: ds => ∃ v r, vs = v :: r ∧ Rep K H v d ∧ Reps K H r ds
end
mutual
def imm : D → Bool
  | .lst _ => false
  | .tup ds => imms ds
  | _ => true
def imms : List D → Bool
  | [] => true
  | d :: ds => imm d && imms ds
end
mutual
def dep : D → Nat
  | .lst ds => deps ds + 1
  | .tup ds => deps ds + 1
  | _ => 0
def deps : List D → Nat
  | [] => 0
  | d :: ds => max (dep d) (deps ds)
end
mutual
def eqD : D → D → Bool
  | .non, .non => true
  | .bl a, .bl b => a == b
  | .bl a, .int b => (if a then 1 else 0) == b
  | .int a, .bl b => a == (if b then 1 else 0)
  | .int a, .int b => a == b
  | .str a, .str b => a == b
  | .tup a, .tup b => eqDs a b
  | .lst a, .lst b => eqDs a b
  | _, _ => false
def eqDs : List D → List D → Bool
  | [], [] => true
  | a :: r, b :: q => eqD a b && eqDs r q
  | _, _ => false
end
mutual
theorem eqD_refl (d : D) : eqD d d = true := by
  cases d with
  | non => rfl
  | bl b => simp [eqD]
  | int b => simp [eqD]
  | str b => simp [eqD]
  | tup ds => simp only [eqD]; exact eqDs_refl ds
  | lst ds => simp only [eqD]; exact eqDs_refl ds
theorem eqDs_refl (ds : List D) : eqDs ds ds = true := by
  cases ds with
  | nil => rfl
  | cons d r => simp only [eqDs, Bool.and_eq_true]; exact ⟨eqD_refl d, eqDs_refl r⟩
end
theorem eqDs_len : ∀ {a b : List D}, eqDs a b = true → a.length = b.length
  | [], [], _ => rfl
  | [], _ :: _, h => by simp [eqDs] at h
  | _ :: _, [], h => by simp [eqDs] at h
  | x :: a, y :: b, h => by
    simp only [eqDs, Bool.and_eq_true] at h
    rw [List.length_cons, List.length_cons, eqDs_len h.2]
theorem eqDs_all : ∀ (a b : List D), a.length = b.length → eqDs a b = (List.range a.length).all fun j => match a[j]?, b[j]? with | some x, some y => eqD x y | _, _ => true
  | [], [], _ => by simp [eqDs]
  | [], _ :: _, h => by simp at h
  | _ :: _, [], h => by simp at h
  | x :: a, y :: b, h => by
    have h' : a.length = b.length := by simpa using h
    rw [List.length_cons, List.range_succ_eq_map, List.all_cons, List.all_map]
    simp only [eqDs, eqDs_all a b h']
    congr 1


structure TSame (H H' : Hp) : Prop where
  tup : ∀ b xs, H b = some (.tup xs) → H' b = some (.tup xs)
  frz : ∀ b o u, H b = some (.frz o u) → H' b = some (.frz o u)
section
variable {K : PySem.W.Frag} {H H' H1 H2 : Hp} {a l p : Addr} {xs : List V} {o : HO}
theorem TSame.refl : TSame H H := ⟨fun _ _ h => h, fun _ _ _ h => h⟩
theorem TSame.trans (x : TSame H H1) (y : TSame H1 H2) : TSame H H2 := ⟨fun b xs h => y.tup b xs (x.tup b xs h), fun b o u h => y.frz b o u (x.frz b o u h)⟩
theorem Same.t (x : Same H H') : TSame H H' := ⟨fun b xs h => x b _ h, fun b o u h => x b _ h⟩
theorem TSame.new (h : H l = none) : TSame H (upd H l o) := ⟨fun b xs e => by rw [upd_ne (ne_of_none e h)]; exact e, fun b ob u e => by rw [upd_ne (ne_of_none e h)]; exact e⟩
theorem TSame.lst (h : H l = some (.lst xs)) : TSame H (upd H l o) := ⟨fun b ys e => by rw [upd_ne (ne_of e h (by intro z; cases z))]; exact e, fun b ob u e => by rw [upd_ne (ne_of e h (by intro z; cases z))]; exact e⟩
theorem Same.new (h : H l = none) : Same H (upd H l o) := fun b u e => by rw [upd_ne (ne_of_none e h)]; exact e

theorem Same.turn (x : Same H H1) (h : H l = none) : Same H (upd H1 l o) := fun b u e => by rw [upd_ne (ne_of_none e h)]; exact x b u e
theorem SqT.t (x : TSame H H') (h : SqT K H a xs) : SqT K H' a xs := by
  rcases h with (h | ⟨o, h⟩) | h
  · exact .inl (.inl (x.tup _ _ h))
  · exact .inl (.inr ⟨o, x.frz _ _ _ h⟩)
  · exact .inr h
theorem Same.seqT (x : Same H H') (h : SqT K H a xs) : SqT K H' a xs := h.t x.t
theorem SqL.up (h : SqL K H a xs) (hn : H l = none ∨ (∃ ys, H l = some (.tup ys))) : SqL K (upd H l o) a xs := by
  rcases h with (h | ⟨o, h⟩) | h
  · refine .inl (.inl ?_)
    rw [upd_ne]
    · exact h
    · rcases hn with z | ⟨ys, z⟩
      · exact ne_of_none h z
      · exact ne_of h z (by intro q; cases q)
  · refine .inl (.inr ⟨o, ?_⟩)
    rw [upd_ne]
    · exact h
    · rcases hn with z | ⟨ys, z⟩
      · exact ne_of_none h z
      · exact ne_of h z (by intro q; cases q)
  · exact .inr h
mutual
theorem Rep.t (x : TSame H H') {v : V} {d : D} (hi : imm d = true) (h : Rep K H v d) : Rep K H' v d := by
  cases d with
  | non => exact h
  | bl b => exact h
  | int i => exact h
  | str x => exact h
  | tup ds =>
    obtain ⟨a, vs, e, q, r⟩ := h
    exact ⟨a, vs, e, q.t x, Reps.t x (by simpa [imm] using hi) r⟩
  | lst ds => simp [imm] at hi
theorem Reps.t (x : TSame H H') {vs : List V} {ds : List D} (hi : imms ds = true) (h : Reps K H vs ds) : Reps K H' vs ds := by
  cases ds with
  | nil => exact h
  | cons d r =>
    obtain ⟨v, q, e, h1, h2⟩ := h
    simp only [imms, Bool.and_eq_true] at hi
    exact ⟨v, q, e, Rep.t x hi.1 h1, Reps.t x hi.2 h2⟩
end
mutual
theorem Rep.same (x : Same H H') {v : V} {d : D} (h : Rep K H v d) : Rep K H' v d := by
  cases d with
  | non => exact h
  | bl b => exact h
  | int i => exact h
  | str x => exact h
  | tup ds =>
    obtain ⟨a, vs, e, q, r⟩ := h
    exact ⟨a, vs, e, x.seqT q, Reps.same x r⟩
  | lst ds =>
    obtain ⟨a, vs, e, q, r⟩ := h
    exact ⟨a, vs, e, x.seq q, Reps.same x r⟩
theorem Reps.same (x : Same H H') {vs : List V} {ds : List D} (h : Reps K H vs ds) : Reps K H' vs ds := by
  cases ds with
  | nil => exact h
  | cons d r =>
    obtain ⟨v, q, e, h1, h2⟩ := h
    exact ⟨v, q, e, Rep.same x h1, Reps.same x h2⟩
end
theorem Reps.length : ∀ {vs : List V} {ds : List D}, Reps K H vs ds → vs.length = ds.length
  | vs, [], h => by cases (show vs = [] from h); rfl
  | vs, d :: ds, h => by
    obtain ⟨v, r, rfl, _, h2⟩ := h
    rw [List.length_cons, List.length_cons, Reps.length h2]
theorem Reps.get : ∀ {vs : List V} {ds : List D} {i : Nat} {d : D}, Reps K H vs ds → ds[i]? = some d → ∃ v, vs[i]? = some v ∧ Rep K H v d
  | vs, [], i, d, h, e => by simp at e
  | vs, d0 :: ds, 0, d, h, e => by
    obtain ⟨v, r, rfl, h1, _⟩ := h
    simp only [List.getElem?_cons_zero, Option.some.injEq] at e
    subst e
    exact ⟨v, by simp, h1⟩
  | vs, d0 :: ds, i + 1, d, h, e => by
    obtain ⟨v, r, rfl, _, h2⟩ := h
    obtain ⟨u, e1, e2⟩ := Reps.get (i := i) h2 (by simpa using e)
    exact ⟨u, by simpa using e1, e2⟩
theorem Reps.getV : ∀ {vs : List V} {ds : List D} {i : Nat} {v : V}, Reps K H vs ds → vs[i]? = some v → ∃ d, ds[i]? = some d ∧ Rep K H v d := fun {vs ds i v} h e => by
  have hl := h.length
  have hi : i < vs.length := (List.getElem?_eq_some_iff.mp e).1
  obtain ⟨d, hd⟩ : ∃ d, ds[i]? = some d := ⟨ds[i]'(by omega), by simp <;> omega⟩
  obtain ⟨u, e1, e2⟩ := h.get hd
  rw [e] at e1
  cases e1
  exact ⟨d, hd, e2⟩
theorem Reps.append : ∀ {vs ws : List V} {ds es : List D}, Reps K H vs ds → Reps K H ws es → Reps K H (vs ++ ws) (ds ++ es)
  | vs, ws, [], es, h, h' => by cases (show vs = [] from h); exact h'
  | vs, ws, d :: ds, es, h, h' => by
    obtain ⟨v, r, rfl, h1, h2⟩ := h
    exact ⟨v, r ++ ws, rfl, h1, Reps.append h2 h'⟩
theorem Reps.one {v : V} {d : D} (h : Rep K H v d) : Reps K H [v] [d] := ⟨v, [], rfl, h, rfl⟩
theorem Reps.snoc {vs : List V} {ds : List D} {v : V} {d : D} (h : Reps K H vs ds) (h' : Rep K H v d) : Reps K H (vs ++ [v]) (ds ++ [d]) := h.append (.one h')
theorem Reps.take : ∀ {vs : List V} {ds : List D} (n : Nat), Reps K H vs ds → Reps K H (vs.take n) (ds.take n)
  | vs, ds, 0, h => by simp [Reps]
  | vs, [], n + 1, h => by cases (show vs = [] from h); simp [Reps]
  | vs, d :: ds, n + 1, h => by
    obtain ⟨v, r, rfl, h1, h2⟩ := h
    exact ⟨v, r.take n, rfl, h1, Reps.take n h2⟩
theorem Reps.drop : ∀ {vs : List V} {ds : List D} (n : Nat), Reps K H vs ds → Reps K H (vs.drop n) (ds.drop n)
  | vs, ds, 0, h => h
  | vs, [], n + 1, h => by cases (show vs = [] from h); simp [Reps]
  | vs, d :: ds, n + 1, h => by
    obtain ⟨v, r, rfl, h1, h2⟩ := h
    exact Reps.drop n h2

def cutD (ds : List D) (lo hi : Option Int) : List D := (ds.drop (HT.sIx ds.length 0 lo)).take (HT.sIx ds.length ds.length hi - HT.sIx ds.length 0 lo)
def nums (ns : List Int) : List D := ns.map D.int
abbrev tI (ns : List Int) : D := .tup (nums ns)
theorem imms_nums : ∀ ns : List Int, imms (nums ns) = true
  | [] => rfl
  | n :: ns => by show (imm (.int n) && imms (nums ns)) = true; rw [imms_nums ns]; rfl
theorem imm_tI (ns : List Int) : imm (tI ns) = true := imms_nums ns
theorem imms_tIs : ∀ xs : List (List Int), imms (xs.map tI) = true
  | [] => rfl
  | x :: xs => by show (imm (tI x) && imms (xs.map tI)) = true; rw [imms_tIs xs, imm_tI]; rfl
theorem eqDs_nums : ∀ a b : List Int, eqDs (nums a) (nums b) = decide (a = b)
  | [], [] => by simp [nums, eqDs]
  | [], _ :: _ => by simp [nums, eqDs]
  | _ :: _, [] => by simp [nums, eqDs]
  | x :: a, y :: b => by
    show (eqD (.int x) (.int y) && eqDs (nums a) (nums b)) = _
    rw [eqDs_nums a b]
    simp only [eqD]
    by_cases e : x = y
    · subst e; by_cases e2 : a = b <;> simp [e2]
    · simp [e]
theorem eqD_tI (a b : List Int) : eqD (tI a) (tI b) = decide (a = b) := by simp only [eqD]; exact eqDs_nums a b
theorem reps_nums : ∀ {vs : List V} {ns : List Int}, Reps K H vs (nums ns) ↔ vs = ns.map V.int
  | vs, [] => Iff.rfl
  | vs, n :: ns => by
    constructor
    · rintro ⟨v, r, rfl, h1, h2⟩
      have h1' : v = .int n := h1
      rw [h1', reps_nums.mp h2]; rfl
    · rintro rfl
      exact ⟨.int n, ns.map V.int, rfl, rfl, reps_nums.mpr rfl⟩
end


section
variable {X : Cx} {pins : List (Addr × Obj)} {σ : St} {H : Hp} {s : Shared}
theorem notBoth (I : Inv X pins σ H s) {a : Addr} {xs ys : List V} (h : SqT X.K H a xs) (h' : SqL X.K H a ys) : False := by
  obtain ⟨its, r, ⟨o, e, c, n, d⟩, _⟩ := I.tuple h
  obtain ⟨its', r', ⟨o', n', e', c', _, d'⟩, _⟩ := I.list h'
  rw [e] at e'; cases e'
  rw [c] at c'
  have z : ("tuple" : String) = "list" := by injection c'
  exact absurd z (by decide)
mutual
theorem Rep.inj (I : Inv X pins σ H s) {v : V} {d e : D} (h : Rep X.K H v d) (h' : Rep X.K H v e) : d = e := by
  cases d with
  | non => cases (show v = .non from h); cases e <;> first | rfl | (exfalso; first | (cases (show V.non = _ from h')) | (obtain ⟨_, _, z, _⟩ := h'; cases z))
  | bl b => cases (show v = .bl b from h); cases e <;> first | (cases (show V.bl b = _ from h'); rfl) | (exfalso; first | (cases (show V.bl b = _ from h')) | (obtain ⟨_, _, z, _⟩ := h'; cases z))
  | int b => cases (show v = .int b from h); cases e <;> first | (cases (show V.int b = _ from h'); rfl) | (exfalso; first | (cases (show V.int b = _ from h')) | (obtain ⟨_, _, z, _⟩ := h'; cases z))
  | str b => cases (show v = .str b from h); cases e <;> first | (cases (show V.str b = _ from h'); rfl) | (exfalso; first | (cases (show V.str b = _ from h')) | (obtain ⟨_, _, z, _⟩ := h'; cases z))
  | tup ds =>
    obtain ⟨a, vs, rfl, q, r⟩ := h
    cases e with
    | tup es =>
      obtain ⟨b, ws, z, q', r'⟩ := h'
      cases z
      have e1 := I.tuple_inj q q'
      subst e1
      rw [Reps.inj I r r']
    | lst es =>
      obtain ⟨b, ws, z, q', r'⟩ := h'
      cases z
      exact (notBoth I q q').elim
    | non => cases (show V.ref a = _ from h')
    | bl _ => cases (show V.ref a = _ from h')
    | int _ => cases (show V.ref a = _ from h')
    | str _ => cases (show V.ref a = _ from h')
  | lst ds =>
    obtain ⟨a, vs, rfl, q, r⟩ := h
    cases e with
    | lst es =>
      obtain ⟨b, ws, z, q', r'⟩ := h'
      cases z
      have e1 := I.list_inj q q'
      subst e1
      rw [Reps.inj I r r']
    | tup es =>
      obtain ⟨b, ws, z, q', r'⟩ := h'
      cases z
      exact (notBoth I q' q).elim
    | non => cases (show V.ref a = _ from h')
    | bl _ => cases (show V.ref a = _ from h')
    | int _ => cases (show V.ref a = _ from h')
    | str _ => cases (show V.ref a = _ from h')
theorem Reps.inj (I : Inv X pins σ H s) {vs : List V} {ds es : List D} (h : Reps X.K H vs ds) (h' : Reps X.K H vs es) : ds = es := by
  cases ds with
  | nil =>
    cases (show vs = [] from h)
    cases es with
    | nil => rfl
    | cons e es => obtain ⟨_, _, z, _⟩ := h'; cases z
  | cons d ds =>
    obtain ⟨v, r, rfl, h1, h2⟩ := h
    cases es with
    | nil => cases (show v :: r = [] from h')
    | cons e es =>
      obtain ⟨v', r', z, h1', h2'⟩ := h'
      cases z
      rw [Rep.inj I h1 h1', Reps.inj I h2 h2']
end


def EqD (X : Cx) (H : Hp) (s : Shared) (d : D) : Prop := ∀ (A : Around) (x y : V) (u v : Value) (e : D), A.units + dep d < cLine → Rep X.K H x d → Rep X.K H y e → RelV x u → RelV y v → RcAt A s u v (eqD d e) ∧ EqAt A s u v (eqD d e)
theorem seq_eq (I : Inv X pins σ H s) {ds es : List D} {vs ws : List V} {us us' : List Value} {A : Around} (hu : A.units + deps ds < cLine) (r : Reps X.K H vs ds) (r' : Reps X.K H ws es) (rv : Vals vs us) (rv' : Vals ws us')
    (ih : ∀ d ∈ ds, EqD X H s d) (hdm : ∀ d ∈ ds, dep d ≤ deps ds) : ∀ j (h1 : j < us.toArray.size) (h2 : j < us'.toArray.size), EqAt A s us.toArray[j] us'.toArray[j] (match ds[j]?, es[j]? with | some x, some y => eqD x y | _, _ => true) := by
  intro j h1 h2
  have l1 := r.length
  have l2 := r'.length
  have l3 := rv.length
  have l4 := rv'.length
  have h1' : j < us.length := by simpa using h1
  have h2' : j < us'.length := by simpa using h2
  have e1 : ds[j]? = some (ds[j]'(by omega)) := by simp <;> omega
  have e2 : es[j]? = some (es[j]'(by omega)) := by simp <;> omega
  obtain ⟨v, ev, rd⟩ := r.get e1
  obtain ⟨w, ew, re⟩ := r'.get e2
  obtain ⟨u, eu, ru⟩ := rv.get ev
  obtain ⟨u', eu', ru'⟩ := rv'.get ew
  have f1 : us.toArray[j] = u := by
    have : us[j]? = some us[j] := by simp
    rw [eu] at this
    have := (Option.some.inj this).symm
    simpa using this
  have f2 : us'.toArray[j] = u' := by
    have : us'[j]? = some us'[j] := by simp
    rw [eu'] at this
    have := (Option.some.inj this).symm
    simpa using this
  rw [f1, f2, e1, e2]
  have hm : ds[j]'(by omega) ∈ ds := List.getElem_mem _
  exact (ih _ hm A v w u u' _ (by have := hdm _ hm; omega) rd re ru ru').2
theorem deps_le : ∀ {ds : List D} {d : D}, d ∈ ds → dep d ≤ deps ds
  | d0 :: ds, d, h => by
    simp only [deps]
    rcases List.mem_cons.mp h with rfl | h
    · omega
    · have := deps_le h; omega
theorem range_min {a b : List D} (h : ¬ a.length = b.length) : eqDs a b = false := by
  cases q : eqDs a b with
  | false => rfl
  | true => exact absurd (eqDs_len q) h
mutual
theorem eqD_ok (I : Inv X pins σ H s) (d : D) : EqD X H s d := by
  intro A x y u v e hu hx hy rx ry
  cases d with
  | non =>
    cases (show x = .non from hx)
    cases (show u = Value.none from rx)
    cases e with
    | non => cases (show y = .non from hy); cases (show v = Value.none from ry); exact ⟨.none_none, .same _⟩
    | bl b => cases (show y = .bl b from hy); cases (show v = Value.bool b from ry); exact ⟨.none_bool b, .none_bool b⟩
    | int i => cases (show y = .int i from hy); obtain ⟨t, rfl⟩ := ry; exact ⟨.none_int i t, .none_int i t⟩
    | str z => cases (show y = .str z from hy); obtain ⟨t, rfl⟩ := ry; exact ⟨.none_str z t, .none_str z t⟩
    | tup es => obtain ⟨a, vs, rfl, q, r⟩ := hy; cases ry; obtain ⟨its, _, p, _⟩ := I.tuple q; exact ⟨.none_tuple p (by omega), .none_tuple p (by omega)⟩
    | lst es => obtain ⟨a, vs, rfl, q, r⟩ := hy; cases ry; obtain ⟨its, _, p, _⟩ := I.list q; exact ⟨.none_list p.isList (by omega), .none_list p.isList (by omega)⟩
  | bl c =>
    cases (show x = .bl c from hx)
    cases (show u = Value.bool c from rx)
    cases e with
    | non => cases (show y = .non from hy); cases (show v = Value.none from ry); exact ⟨.bool_none c, .bool_none c⟩
    | bl b => cases (show y = .bl b from hy); cases (show v = Value.bool b from ry); exact ⟨.bool_bool c b, .bool_bool c b⟩
    | int i => cases (show y = .int i from hy); obtain ⟨t, rfl⟩ := ry; exact ⟨.bool_int c i t, .bool_int c i t⟩
    | str z => cases (show y = .str z from hy); obtain ⟨t, rfl⟩ := ry; exact ⟨.bool_str c z t, .bool_str c z t⟩
    | tup es => obtain ⟨a, vs, rfl, q, r⟩ := hy; cases ry; obtain ⟨its, _, p, _⟩ := I.tuple q; exact ⟨.bool_tuple c p (by omega), .bool_tuple c p (by omega)⟩
    | lst es => obtain ⟨a, vs, rfl, q, r⟩ := hy; cases ry; obtain ⟨its, _, p, _⟩ := I.list q; exact ⟨.bool_list c p.isList (by omega), .bool_list c p.isList (by omega)⟩
  | int c =>
    cases (show x = .int c from hx)
    obtain ⟨t, rfl⟩ := rx
    cases e with
    | non => cases (show y = .non from hy); cases (show v = Value.none from ry); exact ⟨.int_none c t, .int_none c t⟩
    | bl b => cases (show y = .bl b from hy); cases (show v = Value.bool b from ry); exact ⟨.int_bool c t b, .int_bool c t b⟩
    | int i => cases (show y = .int i from hy); obtain ⟨t', rfl⟩ := ry; exact ⟨.int_int c t i t', .int_int c t i t'⟩
    | str z => cases (show y = .str z from hy); obtain ⟨t', rfl⟩ := ry; exact ⟨.int_str c t z t', .int_str c t z t'⟩
    | tup es => obtain ⟨a, vs, rfl, q, r⟩ := hy; cases ry; obtain ⟨its, _, p, _⟩ := I.tuple q; exact ⟨.int_tuple c t p (by omega), .int_tuple c t p (by omega)⟩
    | lst es => obtain ⟨a, vs, rfl, q, r⟩ := hy; cases ry; obtain ⟨its, _, p, _⟩ := I.list q; exact ⟨.int_list c t p.isList (by omega), .int_list c t p.isList (by omega)⟩
  | str c =>
    cases (show x = .str c from hx)
    obtain ⟨t, rfl⟩ := rx
    cases e with
    | non => cases (show y = .non from hy); cases (show v = Value.none from ry); exact ⟨.str_none c t, .str_none c t⟩
    | bl b => cases (show y = .bl b from hy); cases (show v = Value.bool b from ry); exact ⟨.str_bool c t b, .str_bool c t b⟩
    | int i => cases (show y = .int i from hy); obtain ⟨t', rfl⟩ := ry; exact ⟨.str_int c t i t', .str_int c t i t'⟩
    | str z => cases (show y = .str z from hy); obtain ⟨t', rfl⟩ := ry; exact ⟨.str_str c t z t', .str_str c t z t'⟩
    | tup es => obtain ⟨a, vs, rfl, q, r⟩ := hy; cases ry; obtain ⟨its, _, p, _⟩ := I.tuple q; exact ⟨.str_tuple c t p (by omega), .str_tuple c t p (by omega)⟩
    | lst es => obtain ⟨a, vs, rfl, q, r⟩ := hy; cases ry; obtain ⟨its, _, p, _⟩ := I.list q; exact ⟨.str_list c t p.isList (by omega), .str_list c t p.isList (by omega)⟩
  | tup ds =>
    have hx' := hx
    obtain ⟨a, vs, rfl, q, r⟩ := hx
    cases rx
    obtain ⟨its, rv, p, _⟩ := I.tuple q
    have hu' : A.units + 1 + deps ds < cLine := by simp only [dep] at hu; omega
    cases e with
    | non => cases (show y = .non from hy); cases (show v = Value.none from ry); exact ⟨.tuple_none p (by omega), .tuple_none p (by omega)⟩
    | bl b => cases (show y = .bl b from hy); cases (show v = Value.bool b from ry); exact ⟨.tuple_bool b p (by omega), .tuple_bool b p (by omega)⟩
    | int i => cases (show y = .int i from hy); obtain ⟨t', rfl⟩ := ry; exact ⟨.tuple_int i t' p (by omega), .tuple_int i t' p (by omega)⟩
    | str z => cases (show y = .str z from hy); obtain ⟨t', rfl⟩ := ry; exact ⟨.tuple_str z t' p (by omega), .tuple_str z t' p (by omega)⟩
    | lst es => obtain ⟨b, ws, rfl, q', r'⟩ := hy; cases ry; obtain ⟨its', _, p', _⟩ := I.list q'; exact ⟨.tuple_list p p'.isList (by omega), .tuple_list p p'.isList (by omega)⟩
    | tup es =>
      have hy' := hy
      obtain ⟨b, ws, rfl, q', r'⟩ := hy
      cases ry
      obtain ⟨its', rv', p', _⟩ := I.tuple q'
      have main : RcAt A s (.ref a) (.ref b) (eqD (.tup ds) (.tup es)) := by
        have := RcAt.tuples (A := A) p p' (by omega) (seq_eq I (A := A.in1) (by show A.units + 1 + deps ds < cLine; omega) r r' rv rv' (eqDs_ok I ds) fun d h => deps_le h)
        have l1 := r.length
        have l2 := r'.length
        have l3 := rv.length
        have l4 := rv'.length
        have e1 : its.toArray.size = ds.length := by simp <;> omega
        have e2 : its'.toArray.size = es.length := by simp <;> omega
        rw [e1, e2] at this
        simp only [eqD]
        by_cases hl : ds.length = es.length
        · rw [eqDs_all ds es hl]
          rw [← hl, Nat.min_self] at this
          simpa using this
        · rw [range_min hl]
          have z : (ds.length == es.length) = false := by simpa using hl
          rw [z, Bool.and_false] at this
          exact this
      refine ⟨main, ?_⟩
      by_cases hab : a = b
      · subst hab
        have e3 : D.tup ds = D.tup es := Rep.inj I hx' hy'
        rw [e3, eqD_refl]
        exact .same _
      · exact .of_refs hab main
  | lst ds =>
    have hx' := hx
    obtain ⟨a, vs, rfl, q, r⟩ := hx
    cases rx
    obtain ⟨its, rv, p, _⟩ := I.list q
    have hu' : A.units + 1 + deps ds < cLine := by simp only [dep] at hu; omega
    cases e with
    | non => cases (show y = .non from hy); cases (show v = Value.none from ry); exact ⟨.list_none p.isList (by omega), .list_none p.isList (by omega)⟩
    | bl b => cases (show y = .bl b from hy); cases (show v = Value.bool b from ry); exact ⟨.list_bool b p.isList (by omega), .list_bool b p.isList (by omega)⟩
    | int i => cases (show y = .int i from hy); obtain ⟨t', rfl⟩ := ry; exact ⟨.list_int i t' p.isList (by omega), .list_int i t' p.isList (by omega)⟩
    | str z => cases (show y = .str z from hy); obtain ⟨t', rfl⟩ := ry; exact ⟨.list_str z t' p.isList (by omega), .list_str z t' p.isList (by omega)⟩
    | tup es => obtain ⟨b, ws, rfl, q', r'⟩ := hy; cases ry; obtain ⟨its', _, p', _⟩ := I.tuple q'; exact ⟨.list_tuple p.isList p' (by omega), .list_tuple p.isList p' (by omega)⟩
    | lst es =>
      have hy' := hy
      obtain ⟨b, ws, rfl, q', r'⟩ := hy
      cases ry
      obtain ⟨its', rv', p', _⟩ := I.list q'
      have main : RcAt A s (.ref a) (.ref b) (eqD (.lst ds) (.lst es)) := by
        have l1 := r.length
        have l2 := r'.length
        have l3 := rv.length
        have l4 := rv'.length
        have e1 : its.toArray.size = ds.length := by simp <;> omega
        have e2 : its'.toArray.size = es.length := by simp <;> omega
        simp only [eqD]
        by_cases hl : ds.length = es.length
        · have := RcAt.lists (A := A) p.isList p'.isList (by omega) (by omega) (seq_eq I (A := A.in1) (by show A.units + 1 + deps ds < cLine; omega) r r' rv rv' (eqDs_ok I ds) fun d h => deps_le h)
          rw [e1] at this
          rw [eqDs_all ds es hl]
          exact this
        · rw [range_min hl]
          exact RcAt.lists_lengths p.isList p'.isList (by simpa [e1, e2] using hl) (by omega)
      refine ⟨main, ?_⟩
      by_cases hab : a = b
      · subst hab
        have e3 : D.lst ds = D.lst es := Rep.inj I hx' hy'
        rw [e3, eqD_refl]
        exact .same _
      · exact .of_refs hab main
theorem eqDs_ok (I : Inv X pins σ H s) (ds : List D) : ∀ d ∈ ds, EqD X H s d := by
  cases ds with
  | nil => exact fun _ h => nomatch h
  | cons d0 r =>
    intro d h
    rcases List.mem_cons.mp h with e | h
    · exact e ▸ eqD_ok I d0
    · exact eqDs_ok I r d h
end

def rEqD (K : PySem.W.Frag) (n : Nat) : R2 := fun x y H Q => ∃ d e, Rep K H x d ∧ Rep K H y e ∧ dep d ≤ n ∧ Q (.bl (eqD d e)) H
theorem op_eqD {n : Nat} (hu : X.A.units + n < cLine) : OpR X (compareOp .Eq) (rEqD X.K n) := by
  intro pins s σ H x y v u Q I rx ry h
  obtain ⟨d, e, hd, he, hn, q⟩ := h
  exact (eqD_ok I d X.A x y v u e (by omega) hd he rx ry).1 X.prog X.w X.xe _ ⟨.bl (eqD d e), H, I, rfl, q⟩
end
end L2

set_option Elab.async false
set_option linter.all false
set_option maxRecDepth 100000
set_option maxHeartbeats 4000000
namespace L2
open PySem PySem.Spec PyProof.Rows PySem.SeqAt

section
variable {X : Cx}



noncomputable def eqF (X : Cx) (H : Hp) (d : D) (u : Value) : Bool := @decide (∃ v e, RelV v u ∧ Rep X.K H v e ∧ eqD e d = true) (Classical.propDecidable _)
theorem eqF_of {pins : List (Addr × Obj)} {σ : St} {H : Hp} {s : Shared} (I : Inv X pins σ H s) {d e : D} {v : V} {u : Value} (r : RelV v u) (h : Rep X.K H v e) : eqF X H d u = eqD e d := by
  cases q : eqD e d with
  | true => exact @decide_eq_true _ (Classical.propDecidable _) ⟨v, e, r, h, q⟩
  | false =>
    refine @decide_eq_false _ (Classical.propDecidable _) ?_
    rintro ⟨v', e', r', h', q'⟩
    have := r.inj r'
    subst this
    rw [Rep.inj I h h'] at q
    rw [q] at q'
    cases q'
theorem eqF_at {pins : List (Addr × Obj)} {σ : St} {H : Hp} {s : Shared} (I : Inv X pins σ H s) {A : Around} {x : V} {v : Value} {d : D} {vs : List V} {us : List Value} {ds : List D} (hu : A.units + deps ds < cLine) (hx : Rep X.K H x d) (rx : RelV x v)
    (r : Reps X.K H vs ds) (rv : Vals vs us) : ∀ y, y ∈ us.toArray → EqAt A s y v (eqF X H d y) := by
  intro y hy
  have hy' : y ∈ us := by simpa using hy
  obtain ⟨i, hi⟩ := List.getElem?_of_mem hy'
  have hlt : i < us.length := (List.getElem?_eq_some_iff.mp hi).1
  have l1 := rv.length
  obtain ⟨w, hw⟩ : ∃ w, vs[i]? = some w := ⟨vs[i]'(by omega), by simp <;> omega⟩
  obtain ⟨u, hu2, ru⟩ := rv.get hw
  rw [hi] at hu2
  cases hu2
  obtain ⟨e, he, re⟩ := r.getV hw
  rw [eqF_of I ru re]
  have hm : e ∈ ds := List.mem_of_getElem? he
  exact (eqD_ok I e A w x y v d (by have := deps_le hm; omega) re hx ru rx).2
theorem any_eqF {pins : List (Addr × Obj)} {σ : St} {H : Hp} {s : Shared} (I : Inv X pins σ H s) {d : D} : ∀ {vs : List V} {us : List Value} {ds : List D}, Reps X.K H vs ds → Vals vs us → us.any (eqF X H d) = ds.any fun e => eqD e d
  | vs, us, [], r, rv => by
    cases (show vs = [] from r)
    cases rv
    rfl
  | vs, us, e :: ds, r, rv => by
    obtain ⟨v, q, rfl, h1, h2⟩ := r
    cases rv with
    | cons r1 r2 => rw [List.any_cons, List.any_cons, eqF_of I r1 h1, any_eqF I h2 r2]

def SeqD (K : PySem.W.Frag) (H : Hp) (y : V) (ds : List D) : Prop := Rep K H y (.lst ds) ∨ Rep K H y (.tup ds)
def rInD (K : PySem.W.Frag) (n : Nat) (neg : Bool) : R2 := fun x y H Q => ∃ d ds, Rep K H x d ∧ SeqD K H y ds ∧ deps ds + 1 ≤ n ∧ Q (.bl (if neg then !(ds.any fun e => eqD e d) else ds.any fun e => eqD e d)) H
theorem op_inD {n : Nat} (hu : X.A.units + n < cLine) : OpR X (compareOp .In) (rInD X.K n false) := by
  intro pins s σ H x y v u Q I rx ry h
  obtain ⟨d, ds, hx, hs, hn, q⟩ := h
  have fin : ∀ {us : List Value} {vs : List V}, Reps X.K H vs ds → Vals vs us → EP X pins σ Q (.bool (us.toArray.any (eqF X H d))) s := fun r rv =>
    ⟨.bl (ds.any fun e => eqD e d), H, I, by show Value.bool _ = Value.bool _; rw [List.any_toArray, any_eqF I r rv], q⟩
  rcases hs with ⟨a, vs, rfl, hq, r⟩ | ⟨a, vs, rfl, hq, r⟩
  · cases ry
    obtain ⟨its, rv, p, _⟩ := I.list hq
    exact in_listAt (eqF X H d) p.isList (eqF_at I (A := X.A.in1) (by show X.A.units + 1 + deps ds < cLine; omega) hx rx r rv) (fin r rv)
  · cases ry
    obtain ⟨its, rv, p, _⟩ := I.tuple hq
    exact in_tupleAt (eqF X H d) p (eqF_at I (A := X.A.in1) (by show X.A.units + 1 + deps ds < cLine; omega) hx rx r rv) (fin r rv)
theorem op_notInD {n : Nat} (hu : X.A.units + n < cLine) : OpR X (compareOp .NotIn) (rInD X.K n true) := by
  intro pins s σ H x y v u Q I rx ry h
  obtain ⟨d, ds, hx, hs, hn, q⟩ := h
  have fin : ∀ {us : List Value} {vs : List V}, Reps X.K H vs ds → Vals vs us → EP X pins σ Q (.bool (!us.toArray.any (eqF X H d))) s := fun r rv =>
    ⟨.bl (!(ds.any fun e => eqD e d)), H, I, by show Value.bool _ = Value.bool _; rw [List.any_toArray, any_eqF I r rv], q⟩
  rcases hs with ⟨a, vs, rfl, hq, r⟩ | ⟨a, vs, rfl, hq, r⟩
  · cases ry
    obtain ⟨its, rv, p, _⟩ := I.list hq
    exact notIn_listAt (eqF X H d) p.isList (eqF_at I (A := X.A.in1) (by show X.A.units + 1 + deps ds < cLine; omega) hx rx r rv) (fin r rv)
  · cases ry
    obtain ⟨its, rv, p, _⟩ := I.tuple hq
    exact notIn_tupleAt (eqF X H d) p (eqF_at I (A := X.A.in1) (by show X.A.units + 1 + deps ds < cLine; omega) hx rx r rv) (fin r rv)

def rIndex (K : PySem.W.Frag) (n : Nat) : V → List V → Hp → VK → Prop := fun x vs H Q => ∃ ds y d j, vs = [y] ∧ Rep K H x (.lst ds) ∧ Rep K H y d ∧ deps ds + 1 ≤ n ∧ ds.findIdx? (fun e => eqD e d) = some j ∧ Q (.int (j : Nat)) H
theorem mt_index {n : Nat} (hu : X.A.units + n < cLine) : MtR X "list.index" (rIndex X.K n) := by
  intro pins s σ H x vs v us Q I rx rv h
  obtain ⟨ds, y, d, j, rfl, ⟨a, ws, rfl, hq, r⟩, hy, hn, hj, q⟩ := h
  cases rx
  obtain ⟨u, rfl, ru⟩ := rv.one
  obtain ⟨its, rw', p, hz⟩ := I.list hq
  have l1 := r.length
  have l2 := rw'.length
  obtain ⟨hlt, hit, hno⟩ := List.findIdx?_eq_some_iff_getElem.mp hj
  have at' : ∀ m (hm : m < its.toArray.size) (hm' : m < ds.length), eqF X H d its.toArray[m] = eqD ds[m] d := fun m hm hm' => by
    obtain ⟨w, hw, re⟩ := r.get (i := m) (d := ds[m]) (by simp)
    obtain ⟨u', hu', ru'⟩ := rw'.get hw
    have e1 : its.toArray[m] = u' := by
      have hm2 : m < its.length := by simpa using hm
      have : its[m]? = some its[m] := by simp
      rw [hu'] at this
      have := (Option.some.inj this).symm
      simpa using this
    rw [e1]
    exact eqF_of I ru' re
  obtain ⟨o, k, ho, hc, hdn, hd⟩ := id p
  obtain ⟨cls, dd, data, sl⟩ := o
  simp only at hc hdn hd
  subst hc hdn hd
  have hsz : ds.length ≤ sizeLine := by omega
  have big : (sizeLine : Nat) < 2 ^ 62 := by rw [sizeLine_eq]; decide
  refine call_meets PySem.F.slot_list_index ⟨_, ho, rfl⟩ PySem.F.entry_list_index (PySem.F.args_list_index_2 _ _)
    (list_indexAt a its.toArray k none sl u (eqF X H d) j (by simp <;> omega) (by omega) ?_ ?_) ⟨ho, eqF_at I (A := X.A.in1) (by show X.A.units + 1 + deps ds < cLine; omega) hy ru r rw', ?_⟩
  · rw [at' j (by simp <;> omega) hlt]; exact hit
  · intro m hm hmj
    rw [at' m hm (by omega)]
    have := hno m hmj
    simpa using this
  · exact ⟨.int (j : Nat), H, I.tok _, ⟨_, rfl⟩, q⟩


def NeD (X : Cx) (H : Hp) : Prop := True
def rNeD (K : PySem.W.Frag) (n : Nat) : R2 := fun x y H Q => ∃ d e, Rep K H x d ∧ Rep K H y e ∧ dep d ≤ n ∧ Q (.bl (!eqD d e)) H
theorem op_neD {n : Nat} (hu : X.A.units + n < cLine) : OpR X (compareOp .NotEq) (rNeD X.K n) := by
  intro pins s σ H x y v u Q I rx ry h
  obtain ⟨d, e, hd, he, hn, q⟩ := h
  have fin : EP X pins σ Q (.bool (!eqD d e)) s := ⟨.bl (!eqD d e), H, I, rfl, q⟩
  have go : ∀ {k : Bool}, RcNeAt X.A s v u k → k = (!eqD d e) → wpAny (model X.prog X.w) X.A (compareOp .NotEq v u) (EP X pins σ Q) X.xe s := fun h1 h2 => by
    subst h2
    exact h1 X.prog X.w X.xe _ fin
  cases d with
  | non =>
    cases (show x = .non from hd)
    cases (show v = Value.none from rx)
    cases e with
    | non => cases (show y = .non from he); cases (show u = Value.none from ry); exact go .none_none rfl
    | bl b => cases (show y = .bl b from he); cases (show u = Value.bool b from ry); exact go (.none_bool b) rfl
    | int i => cases (show y = .int i from he); obtain ⟨t, rfl⟩ := ry; exact go (.none_int i t) rfl
    | str z => cases (show y = .str z from he); obtain ⟨t, rfl⟩ := ry; exact go (.none_str z t) rfl
    | tup es => obtain ⟨a, vs, rfl, q, r⟩ := he; cases ry; obtain ⟨its, _, p, _⟩ := I.tuple q; exact go (.none_tuple p (by omega)) rfl
    | lst es => obtain ⟨a, vs, rfl, q, r⟩ := he; cases ry; obtain ⟨its, _, p, _⟩ := I.list q; exact go (.none_list p.isList (by omega)) rfl
  | bl c =>
    cases (show x = .bl c from hd)
    cases (show v = Value.bool c from rx)
    cases e with
    | non => cases (show y = .non from he); cases (show u = Value.none from ry); exact go (.bool_none c) rfl
    | bl b => cases (show y = .bl b from he); cases (show u = Value.bool b from ry); exact go (.bool_bool c b) rfl
    | int i => cases (show y = .int i from he); obtain ⟨t, rfl⟩ := ry; exact go (.bool_int c i t) rfl
    | str z => cases (show y = .str z from he); obtain ⟨t, rfl⟩ := ry; exact go (.bool_str c z t) rfl
    | tup es => obtain ⟨a, vs, rfl, q, r⟩ := he; cases ry; obtain ⟨its, _, p, _⟩ := I.tuple q; exact go (.bool_tuple c p (by omega)) rfl
    | lst es => obtain ⟨a, vs, rfl, q, r⟩ := he; cases ry; obtain ⟨its, _, p, _⟩ := I.list q; exact go (.bool_list c p.isList (by omega)) rfl
  | int c =>
    cases (show x = .int c from hd)
    obtain ⟨t, rfl⟩ := rx
    cases e with
    | non => cases (show y = .non from he); cases (show u = Value.none from ry); exact go (.int_none c t) rfl
    | bl b => cases (show y = .bl b from he); cases (show u = Value.bool b from ry); exact go (.int_bool c t b) rfl
    | int i => cases (show y = .int i from he); obtain ⟨t', rfl⟩ := ry; exact go (.int_int c t i t') rfl
    | str z => cases (show y = .str z from he); obtain ⟨t', rfl⟩ := ry; exact go (.int_str c t z t') rfl
    | tup es => obtain ⟨a, vs, rfl, q, r⟩ := he; cases ry; obtain ⟨its, _, p, _⟩ := I.tuple q; exact go (.int_tuple c t p (by omega)) rfl
    | lst es => obtain ⟨a, vs, rfl, q, r⟩ := he; cases ry; obtain ⟨its, _, p, _⟩ := I.list q; exact go (.int_list c t p.isList (by omega)) rfl
  | str c =>
    cases (show x = .str c from hd)
    obtain ⟨t, rfl⟩ := rx
    cases e with
    | non => cases (show y = .non from he); cases (show u = Value.none from ry); exact go (.str_none c t) rfl
    | bl b => cases (show y = .bl b from he); cases (show u = Value.bool b from ry); exact go (.str_bool c t b) rfl
    | int i => cases (show y = .int i from he); obtain ⟨t', rfl⟩ := ry; exact go (.str_int c t i t') rfl
    | str z => cases (show y = .str z from he); obtain ⟨t', rfl⟩ := ry; exact go (.str_str c t z t') rfl
    | tup es => obtain ⟨a, vs, rfl, q, r⟩ := he; cases ry; obtain ⟨its, _, p, _⟩ := I.tuple q; exact go (.str_tuple c t p (by omega)) rfl
    | lst es => obtain ⟨a, vs, rfl, q, r⟩ := he; cases ry; obtain ⟨its, _, p, _⟩ := I.list q; exact go (.str_list c t p.isList (by omega)) rfl
  | tup ds =>
    obtain ⟨a, vs, rfl, q1, r⟩ := hd
    cases rx
    obtain ⟨its, rv, p, _⟩ := I.tuple q1
    have hu' : X.A.units + 1 + deps ds < cLine := by simp only [dep] at hn; omega
    cases e with
    | non => cases (show y = .non from he); cases (show u = Value.none from ry); exact go (.tuple_none p (by omega)) rfl
    | bl b => cases (show y = .bl b from he); cases (show u = Value.bool b from ry); exact go (.tuple_bool b p (by omega)) rfl
    | int i => cases (show y = .int i from he); obtain ⟨t', rfl⟩ := ry; exact go (.tuple_int i t' p (by omega)) rfl
    | str z => cases (show y = .str z from he); obtain ⟨t', rfl⟩ := ry; exact go (.tuple_str z t' p (by omega)) rfl
    | lst es => obtain ⟨b, ws, rfl, q', r'⟩ := he; cases ry; obtain ⟨its', _, p', _⟩ := I.list q'; exact go (.tuple_list p p'.isList (by omega)) rfl
    | tup es =>
      obtain ⟨b, ws, rfl, q', r'⟩ := he
      cases ry
      obtain ⟨its', rv', p', _⟩ := I.tuple q'
      refine go (RcNeAt.tuples p p' (by omega) (seq_eq I (A := X.A.in1) (by show X.A.units + 1 + deps ds < cLine; omega) r r' rv rv' (eqDs_ok I ds) fun d h => deps_le h)) ?_
      have l1 := r.length
      have l2 := r'.length
      have l3 := rv.length
      have l4 := rv'.length
      have e1 : its.toArray.size = ds.length := by simp <;> omega
      have e2 : its'.toArray.size = es.length := by simp <;> omega
      rw [e1, e2]
      simp only [eqD]
      by_cases hl : ds.length = es.length
      · rw [eqDs_all ds es hl, ← hl, Nat.min_self]
        simp
      · rw [range_min hl]
        have z : (ds.length == es.length) = false := by simpa using hl
        rw [z, Bool.and_false]
  | lst ds =>
    obtain ⟨a, vs, rfl, q1, r⟩ := hd
    cases rx
    obtain ⟨its, rv, p, _⟩ := I.list q1
    have hu' : X.A.units + 1 + deps ds < cLine := by simp only [dep] at hn; omega
    cases e with
    | non => cases (show y = .non from he); cases (show u = Value.none from ry); exact go (.list_none p.isList (by omega)) rfl
    | bl b => cases (show y = .bl b from he); cases (show u = Value.bool b from ry); exact go (.list_bool b p.isList (by omega)) rfl
    | int i => cases (show y = .int i from he); obtain ⟨t', rfl⟩ := ry; exact go (.list_int i t' p.isList (by omega)) rfl
    | str z => cases (show y = .str z from he); obtain ⟨t', rfl⟩ := ry; exact go (.list_str z t' p.isList (by omega)) rfl
    | tup es => obtain ⟨b, ws, rfl, q', r'⟩ := he; cases ry; obtain ⟨its', _, p', _⟩ := I.tuple q'; exact go (.list_tuple p.isList p' (by omega)) rfl
    | lst es =>
      obtain ⟨b, ws, rfl, q', r'⟩ := he
      cases ry
      obtain ⟨its', rv', p', _⟩ := I.list q'
      have l1 := r.length
      have l2 := r'.length
      have l3 := rv.length
      have l4 := rv'.length
      have e1 : its.toArray.size = ds.length := by simp <;> omega
      have e2 : its'.toArray.size = es.length := by simp <;> omega
      by_cases hl : ds.length = es.length
      · refine go (RcNeAt.lists p.isList p'.isList (by omega) (by omega) (seq_eq I (A := X.A.in1) (by show X.A.units + 1 + deps ds < cLine; omega) r r' rv rv' (eqDs_ok I ds) fun d h => deps_le h)) ?_
        rw [e1]
        simp only [eqD]
        rw [eqDs_all ds es hl]
      · refine go (RcNeAt.lists_lengths p.isList p'.isList (by simpa [e1, e2] using hl) (by omega)) ?_
        simp only [eqD]
        rw [range_min hl]
        rfl


def isD (n : String) : D → Bool
  | .non => false
  | .bl _ => n == "int" || n == "bool"
  | .int _ => n == "int"
  | .str _ => n == "str"
  | .tup _ => n == "tuple"
  | .lst _ => n == "list"
def tyD : D → String
  | .non => "NoneType"
  | .bl _ => "bool"
  | .int _ => "int"
  | .str _ => "str"
  | .tup _ => "tuple"
  | .lst _ => "list"
theorem kit_ok {K : PySem.W.Frag} {n : String} {d : D} (hn : n = "int" ∨ n = "bool" ∨ n = "str" ∨ n = "tuple" ∨ n = "list" ∨ n = "dict") : PySem.W.kitOne K (.type (tyD d)) (.type n) = some (isD n d) := by
  rcases hn with rfl | rfl | rfl | rfl | rfl | rfl <;> cases d <;> (unfold PySem.W.kitOne PySem.W.kitCls PySem.W.subIn tyD isD; first | rfl | decide +kernel)
theorem call_isinst : CallR X (.builtin "isinstance") (fun xs H Q => ∃ x n d, xs = [x, .ty n] ∧ (n = "int" ∨ n = "bool" ∨ n = "str" ∨ n = "tuple" ∨ n = "list" ∨ n = "dict") ∧ Rep X.K H x d ∧ Q (.bl (isD n d)) H) := by
  intro pins s σ H xs us Q I r h
  obtain ⟨x, n, d, rfl, hn, hx, q⟩ := h
  obtain ⟨u, v, rfl, rx, rt⟩ := vals2 r
  cases rt
  have k := kit_ok (K := X.K) (d := d) hn
  have fin : ∀ tk, EP X pins σ Q (.bool (isD n d)) { s with toks := tk } := fun tk => ⟨.bl (isD n d), H, I.tok tk, rfl, q⟩
  cases d with
  | non => cases (show x = .non from hx); cases (show u = Value.none from rx); exact PySem.W.kia_one PySem.W.kitx_none I.kIn True.intro k (fun z => nomatch z) fin
  | bl b => cases (show x = .bl b from hx); cases (show u = Value.bool b from rx); exact PySem.W.kia_one PySem.W.kitx_bool I.kIn True.intro k (fun z => nomatch z) fin
  | int b => cases (show x = .int b from hx); obtain ⟨t, rfl⟩ := rx; exact PySem.W.kia_one PySem.W.kitx_int I.kIn True.intro k (fun z => nomatch z) fin
  | str b => cases (show x = .str b from hx); obtain ⟨t, rfl⟩ := rx; exact PySem.W.kia_one PySem.W.kitx_str I.kIn True.intro k (fun z => nomatch z) fin
  | tup ds =>
    obtain ⟨a, vs, rfl, hq, _⟩ := hx
    cases rx
    obtain ⟨its, _, ⟨o, e, c, _⟩, _⟩ := I.tuple hq
    exact PySem.W.kia_one PySem.W.kitx_tuple I.kIn ⟨o, e, c⟩ k (fun z => nomatch z) fin
  | lst ds =>
    obtain ⟨a, vs, rfl, hq, _⟩ := hx
    cases rx
    obtain ⟨its, _, ⟨o, _, e, c, _⟩, _⟩ := I.list hq
    exact PySem.W.kia_one PySem.W.kitx_list I.kIn ⟨o, e, c⟩ k (fun z => nomatch z) fin


def rCatW (K : PySem.W.Frag) : R2 := fun x y H Q => ∃ a b xs ys, x = .ref a ∧ y = .ref b ∧ SqT K H a xs ∧ SqT K H b ys ∧ xs.length + ys.length ≤ sizeLine ∧ ∀ p H', Same H H' → SqT K H' p (xs ++ ys) → Q (.ref p) H'
theorem op_catW : OpR X (binaryOp .Add) (rCatW X.K) := by
  intro pins s σ H x y v u Q I rx ry h
  obtain ⟨a, b, xs, ys, rfl, rfl, ha, hb, hz, q⟩ := h
  by_cases hx : xs = []
  · subst hx
    cases rx
    cases ry
    obtain ⟨its, r1, p1, _⟩ := I.tuple ha
    obtain ⟨its2, r2, p2, _⟩ := I.tuple hb
    cases r1
    obtain ⟨⟨cls, dd, data, sl⟩, ho, hc, n, hd⟩ := id p1
    obtain ⟨⟨cls2, dd2, data2, sl2⟩, ho2, hc2, n2, hd2⟩ := id p2
    simp only at hc hd hc2 hd2
    subst hc hd hc2 hd2
    exact concat_meets ⟨_, ho, rfl⟩ ⟨_, ho2, rfl⟩ noFill_tuple_add seq_tuple_add PySem.F.slot_tuple_add PySem.F.entry_tuple_add (PySem.F.args_tuple_add_2 _ _)
      (tuple_addW0 a b _ _ n n2 dd dd2 sl sl2 (by simp)) ⟨ho, ho2, ⟨.ref b, H, I, rfl, q b H (Same.refl H) (by simpa using hb)⟩⟩
  · refine op_catT pins s σ H (.ref a) (.ref b) v u Q I rx ry ⟨a, b, xs, ys, rfl, rfl, ha, hb, hx, hz, fun e => ?_, fun e p hp => ?_⟩
    · subst e; exact q a H (Same.refl H) (by simpa using ha)
    · exact q p _ (Same.new hp) (.of upd_same)
def rSlTW (K : PySem.W.Frag) : V → Option Int → Option Int → Hp → VK → Prop := fun x lo hi H Q => ∃ a xs, x = .ref a ∧ SqT K H a xs ∧
  ¬ (HT.sIx xs.length 0 lo = 0 ∧ HT.sIx xs.length xs.length hi = xs.length) ∧ ∀ p H', Same H H' → SqT K H' p (cutV xs lo hi) → Q (.ref p) H'
theorem sl_tupW : SlR X (rSlTW X.K) := by
  intro pins s σ H x v vl vu lo hi sl Q I rx hs pl pu h
  obtain ⟨a, xs, rfl, hx, hw, q⟩ := h
  exact sl_tup pins s σ H (.ref a) v vl vu lo hi sl Q I rx hs pl pu ⟨a, xs, rfl, hx, hw, fun p hp => q p _ (Same.new hp) (.of upd_same)⟩

def rCatLW (K : PySem.W.Frag) : R2 := fun x y H Q => ∃ l b xs zs, x = .ref l ∧ y = .ref b ∧ SqL K H l xs ∧ SqL K H b zs ∧ xs.length + zs.length ≤ sizeLine ∧ ∀ p, H p = none → Q (.ref p) (upd H p (.lst (xs ++ zs)))
theorem op_catLW : OpR X (binaryOp .Add) (rCatLW X.K) := by
  intro pins s σ H x y v u Q I rx ry h
  obtain ⟨l, b, xs, zs, rfl, rfl, hl, hb, hz, q⟩ := h
  cases rx
  cases ry
  obtain ⟨its, r1, p1, _⟩ := I.list hl
  obtain ⟨its2, r2, p2, _⟩ := I.list hb
  obtain ⟨⟨cls, dd, data, sl⟩, n, ho, hc, hdd, hd⟩ := id p1
  obtain ⟨⟨cls2, dd2, data2, sl2⟩, n2, ho2, hc2, hdd2, hd2⟩ := id p2
  simp only at hc hd hc2 hd2
  subst hc hd hc2 hd2
  refine concat_meets ⟨_, ho, rfl⟩ ⟨_, ho2, rfl⟩ noFill_list_add seq_list_add PySem.F.slot_list_add PySem.F.entry_list_add (PySem.F.args_list_add_2 _ _)
    (list_addW l b its.toArray its2.toArray n n2 dd dd2 sl sl2 (by rw [List.size_toArray, List.size_toArray, ← r1.length, ← r2.length]; exact hz)) ⟨ho, ho2, ?_⟩
  rw [show its.toArray ++ its2.toArray = (its ++ its2).toArray by simp]
  exact ⟨.ref s.heap.objs.size, _, I.lnew (t' := s.toks) (r1.append r2) (by rw [List.length_append]; exact hz), rfl, q _ I.fresh⟩


theorem call_allB (hc : X.calm = true) : CallR X (.builtin "all") (fun xs H Q => ∃ (p : Addr) (bs : List Bool), xs = [.ref p] ∧ SqL X.K H p (bs.map V.bl) ∧ Q (.bl (bs.all id)) H) := by
  intro pins s σ H xs us Q I r h
  obtain ⟨p, bs, rfl, hq, q⟩ := h
  obtain ⟨u, rfl, ru⟩ := vals1 r
  cases ru
  obtain ⟨its, rv, pl, hz⟩ := I.list hq
  have hh : X.A.handled = none := I.ok.hd hc
  have rel : ∀ (i : Nat) (v : Value), its.toArray[i]? = some v → ∃ b, bs[i]? = some b ∧ v = .bool b := fun i v e => by
    have e' : its[i]? = some v := by simpa using e
    have hlt : i < its.length := (List.getElem?_eq_some_iff.mp e').1
    have l1 := rv.length
    rw [List.length_map] at l1
    have hb : bs[i]? = some (bs[i]'(by omega)) := by simp <;> omega
    obtain ⟨u, hu, ru⟩ := rv.get (i := i) (x := V.bl (bs[i]'(by omega))) (by rw [List.getElem?_map, hb]; rfl)
    rw [e'] at hu
    cases hu
    exact ⟨_, hb, ru⟩
  refine call_all_walk (wpAny_pyIter_list pl.isList ?_)
  refine ⟨s.heap.objs.size, [s.heap.objs.size, p], [s.heap.objs.size], its.toArray.size, _, _, fun i => (bs[i]?).getD true, rfl, Walks.list (show X.A.in1.handled = none from hh) s.heap.objs.size p ?_ its.toArray, ⟨⟨_, Heap.get?_push_size _ rfl, rfl, rfl⟩, ?_⟩, ?_, fun h' tk k => ?_⟩
  · obtain ⟨o, _, ho, _⟩ := pl
    exact Nat.ne_of_lt (Heap.lt_size ho)
  · exact pl.isList.at fun o e => Heap.get?_push_of_some _ e
  · intro i v s' Q' E' hv hQ
    obtain ⟨b, hb, rfl⟩ := rel i v hv
    dsimp only at hQ
    rw [hb] at hQ
    exact wpAny_truthy_bool hQ
  · have e : (List.range its.toArray.size).all (fun i => (bs[i]?).getD true) = bs.all id := by
      have l1 := rv.length
      rw [List.length_map] at l1
      rw [List.size_toArray, ← l1]
      rw [Bool.eq_iff_iff, List.all_eq_true, List.all_eq_true]
      constructor
      · intro hx b hb
        obtain ⟨i, hi⟩ := List.getElem?_of_mem hb
        have := hx i (List.mem_range.mpr (List.getElem?_eq_some_iff.mp hi).1)
        rw [hi] at this
        exact this
      · intro hx i hi
        have hlt := List.mem_range.mp hi
        have hb : bs[i]? = some bs[i] := by simp
        rw [hb]
        exact hx _ (List.getElem_mem _)
    rw [e]
    have I1 : Inv X pins σ H { s with heap := h', toks := tk } := I.kept (fun b o e => k b o (by simp; exact Nat.ne_of_lt (Heap.lt_size e)) (Heap.get?_push_of_some _ e))
    exact ⟨.bl (bs.all id), H, I1, rfl, q⟩
end


structure Has (P : Program) (w : World) (K : PySem.W.Frag) (mg : Str → Option Value) (base : Heap) (x : Str) (ps : List Str) (k : Nat) (sp : Sp) : Prop where
  ex : ∃ (f : Addr) (fd : FuncData), mg x = some (.ref f) ∧ PySem.W.keepIn K (.ref f) = true ∧ Binds K fd ps [] ∧ FnOk P w K mg base CX0 k f fd ps sp
theorem Has.mono {P : Program} {w : World} {K : PySem.W.Frag} {mg : Str → Option Value} {base : Heap} {x : Str} {ps : List Str} {j k : Nat} {sp : Sp} (h : Has P w K mg base x ps j sp) (hk : j ≤ k) : Has P w K mg base x ps k sp := by
  obtain ⟨f, fd, h1, h2, h3, h4⟩ := h.ex
  exact ⟨f, fd, h1, h2, h3, h4.mono hk⟩
section
variable {X : Cx} {x : Str} {ps : List Str} {j k : Nat} {sp : Sp} {p pos : Pos} {e : Expr} {es : List Expr} {t : TA}
theorem pe_callH (h : Has X.prog X.w X.K X.mg X.base x ps j sp) (hr : Room k X.A) (hg : Gl X x) (ha : PA X (e :: es) t) (hk : j ≤ k := by decide) (hdb : (x == ("__debug__" : Str)) = false := by decide)
    (he : starEach (e :: es) X.env = (false, eval e X.env) :: starEach es X.env := by rfl) (hpl : (backTo pos (starEach es X.env)).any (·.1) = false := by rfl) : PE X (.Call (.Name x p) (e :: es) [] pos) (tCall sp [] E0 t) := by
  obtain ⟨f, fd, h1, h2, h3, h4⟩ := h.ex
  exact pe_call h4 (hr.mono hk) hg h1 h2 h3 .nil pass0 ha hdb he hpl
end

theorem boot_intT : bootBuiltins "int" = some (.type "int") := by decide +kernel
theorem boot_boolT : bootBuiltins "bool" = some (.type "bool") := by decide +kernel
theorem boot_strT : bootBuiltins "str" = some (.type "str") := by decide +kernel
theorem boot_tupleT : bootBuiltins "tuple" = some (.type "tuple") := by decide +kernel
theorem boot_listT : bootBuiltins "list" = some (.type "list") := by decide +kernel
theorem boot_maxB : bootBuiltins "max" = some (.builtin "max") := by decide +kernel
theorem boot_allB : bootBuiltins "all" = some (.builtin "all") := by decide +kernel
theorem boot_isinstanceB : bootBuiltins "isinstance" = some (.builtin "isinstance") := by decide +kernel
end L2

set_option Elab.async false
set_option linter.all false
namespace L2
open PySem PySem.Spec PyProof.Rows

section
variable {X : Cx} {K : PySem.W.Frag} {tg l : Expr} {tl : TE} {n : Nat}
theorem kop_catW (hK : X.K = K := by rfl) : OpR X (binaryOp .Add) (rCatW K) := by subst hK; exact op_catW
theorem kop_catLW (hK : X.K = K := by rfl) : OpR X (binaryOp .Add) (rCatLW K) := by subst hK; exact op_catLW
theorem ksl_tupW (hK : X.K = K := by rfl) : SlR X (rSlTW K) := by subst hK; exact sl_tupW
theorem ksl_list (hK : X.K = K := by rfl) : SlR X (rSlL K) := by subst hK; exact sl_list
theorem kix_list (hK : X.K = K := by rfl) : IxR X (rIxL K) := by subst hK; exact ix_list
theorem kix_tup (hK : X.K = K := by rfl) : IxR X (rIxT K) := by subst hK; exact ix_tup
theorem kcall_len_seq (hK : X.K = K := by rfl) : CallR X (.builtin "len") (fun xs H Q => ∃ p ys, xs = [.ref p] ∧ (SqL K H p ys ∨ SqT K H p ys) ∧ Q (.int ys.length) H) := by subst hK; exact call_len_seq
theorem kcall_list_of (hK : X.K = K := by rfl) : CallR X (.type "list") (fun xs H Q => ∃ p ys, xs = [.ref p] ∧ (SqL K H p ys ∨ SqT K H p ys) ∧ ∀ l, H l = none → Q (.ref l) (upd H l (.lst ys))) := by subst hK; exact call_list_of
theorem kcall_tuple_of (hK : X.K = K := by rfl) : CallR X (.type "tuple") (fun xs H Q => ∃ p ys, xs = [.ref p] ∧ ((SqL K H p ys ∧ ∀ l, H l = none → Q (.ref l) (upd H l (.tup ys))) ∨ (SqT K H p ys ∧ Q (.ref p) H))) := by subst hK; exact call_tuple_of
theorem kcall_isinst (hK : X.K = K := by rfl) : CallR X (.builtin "isinstance") (fun xs H Q => ∃ x n d, xs = [x, .ty n] ∧ (n = "int" ∨ n = "bool" ∨ n = "str" ∨ n = "tuple" ∨ n = "list" ∨ n = "dict") ∧ Rep K H x d ∧ Q (.bl (isD n d)) H) := by subst hK; exact call_isinst
theorem kcall_allB (hc : X.calm = true) (hK : X.K = K := by rfl) : CallR X (.builtin "all") (fun xs H Q => ∃ (p : Addr) (bs : List Bool), xs = [.ref p] ∧ SqL K H p (bs.map V.bl) ∧ Q (.bl (bs.all id)) H) := by subst hK; exact call_allB hc
theorem kop_inD (hu : X.A.units + n < cLine) (hK : X.K = K := by rfl) : OpR X (compareOp .In) (rInD K n false) := by subst hK; exact op_inD hu
theorem kop_notInD (hu : X.A.units + n < cLine) (hK : X.K = K := by rfl) : OpR X (compareOp .NotIn) (rInD K n true) := by subst hK; exact op_notInD hu
theorem kop_eqD (hu : X.A.units + n < cLine) (hK : X.K = K := by rfl) : OpR X (compareOp .Eq) (rEqD K n) := by subst hK; exact op_eqD hu
theorem kop_neD (hu : X.A.units + n < cLine) (hK : X.K = K := by rfl) : OpR X (compareOp .NotEq) (rNeD K n) := by subst hK; exact op_neD hu
theorem kmt_index (hu : X.A.units + n < cLine) (hK : X.K = K := by rfl) : MtR X "list.index" (rIndex K n) := by subst hK; exact mt_index hu
theorem kpi_list (hl : PE X l tl) (hK : X.K = K := by rfl) : PI X tg l (iList K tl) := by subst hK; exact pi_list hl
theorem kpi_tup (hl : PE X l tl) (hK : X.K = K := by rfl) : PI X tg l (iTup K tl) := by subst hK; exact pi_tup hl
variable {o e : Expr} {es : List Expr} {to : TE} {t : TA} {name : Str} {apos cpos : Pos} {T id : String} {r : V → List V → Hp → VK → Prop}
theorem kpe_bm (pa : PlainAttrs T) (slot : Slot T name id) (hty : typeOf (.builtin id) = pure (.type "method_descriptor")) (hm : MtR X id r) (ho : PE X o to) (ha : PA X (e :: es) t) (hK : X.K = K := by rfl)
    (hbase : attributeBase o name X.env (eval o X.env) = eval o X.env := by rfl)
    (hfew : ((backTo cpos (starEach (e :: es) X.env)).all (fun x => !x.1) && (backToKw cpos (keywordEach [] X.env)).all (fun x => x.1.isSome)
      && decide ((e :: es).length + ([] : List Keyword).length + (if ([] : List Keyword).isEmpty then 0 else 1) < 30)) = true := by rfl)
    (hline : (apos.endLine == cpos.line) = true := by rfl) (hs : starEach (e :: es) X.env = (false, eval e X.env) :: starEach es X.env := by rfl) (hplain : (backTo cpos (starEach es X.env)).any (·.1) = false := by rfl) :
    PE X (.Call (.Attribute o name apos) (e :: es) [] cpos) (tBM K T r to t) := by subst hK; exact pe_bm pa slot hty hm ho ha hbase hfew hline hs hplain
theorem kpg_tup {es : List Expr} {k : Nat} {t : TGs} {n : Nat} {pos : Pos} (hc : X.calm = true) (h : PGs X es t) (hK : X.K = K := by rfl)
    (hn : (assignEach es X.env).length = n := by rfl) (hst : (assignEach es X.env).findIdx? (·.1) = none := by rfl) : PG X (.Tuple es k pos) (gTup K n t) := by subst hK; exact pg_tup hc h hn hst
end
end L2

set_option linter.all false

namespace Hb

def facesBy (w : List Int) (fam : Int) : List (List Int) :=
  if fam = 0 then (if w.length < 2 then [] else (List.range w.length).map fun i => w.take i ++ w.drop (i + 1))
  else if w.length = 0 then []
  else if fam < 0 then (if w.length = 1 then [[], []] else w.map fun l => [l])
  else w.drop 1 :: ((List.range (w.length - 1)).map fun i => w.take i ++ [(w.getD i 0 + w.getD (i + 1) 0) % fam] ++ w.drop (i + 2)) ++ [w.take (w.length - 1)]


def Word (fam : Int) (w : List Int) : Prop :=
  (fam = 0 ∧ 1 ≤ w.length ∧ w.length ≤ 4) ∨ (fam < 0 ∧ (w.length = 0 ∨ w.length = 1 ∨ w.length = 3)) ∨ (0 < fam ∧ w.length ≤ 3)
def lv (fam : Int) (w : List Int) : Nat := if fam = 0 then w.length - 1 else if fam < 0 then (if w.length = 3 then 2 else w.length) else w.length


theorem word_cases {fam : Int} {w : List Int} (h : Word fam w) :
    (fam = 0 ∧ ((∃ a, w = [a]) ∨ (∃ a b, w = [a, b]) ∨ (∃ a b c, w = [a, b, c]) ∨ ∃ a b c d, w = [a, b, c, d])) ∨
    (fam < 0 ∧ (w = [] ∨ (∃ a, w = [a]) ∨ ∃ a b c, w = [a, b, c])) ∨
    (0 < fam ∧ (w = [] ∨ (∃ a, w = [a]) ∨ (∃ a b, w = [a, b]) ∨ ∃ a b c, w = [a, b, c])) := by
  rcases h with ⟨h0, h1, h2⟩ | ⟨h0, h1⟩ | ⟨h0, h1⟩
  · left
    refine ⟨h0, ?_⟩
    match w, h1, h2 with
    | [a], _, _ => exact .inl ⟨a, rfl⟩
    | [a, b], _, _ => exact .inr (.inl ⟨a, b, rfl⟩)
    | [a, b, c], _, _ => exact .inr (.inr (.inl ⟨a, b, c, rfl⟩))
    | [a, b, c, d], _, _ => exact .inr (.inr (.inr ⟨a, b, c, d, rfl⟩))
    | _ :: _ :: _ :: _ :: _ :: _, _, h => simp at h
  · right; left
    refine ⟨h0, ?_⟩
    match w, h1 with
    | [], _ => exact .inl rfl
    | [a], _ => exact .inr (.inl ⟨a, rfl⟩)
    | [a, b], h => simp at h
    | [a, b, c], _ => exact .inr (.inr ⟨a, b, c, rfl⟩)
    | _ :: _ :: _ :: _ :: _, h => simp at h
  · right; right
    refine ⟨h0, ?_⟩
    match w, h1 with
    | [], _ => exact .inl rfl
    | [a], _ => exact .inr (.inl ⟨a, rfl⟩)
    | [a, b], _ => exact .inr (.inr (.inl ⟨a, b, rfl⟩))
    | [a, b, c], _ => exact .inr (.inr (.inr ⟨a, b, c, rfl⟩))
    | _ :: _ :: _ :: _ :: _, h => simp at h

theorem f0_1 (a : Int) : facesBy [a] 0 = [] := rfl
theorem f0_2 (a b : Int) : facesBy [a, b] 0 = [[b], [a]] := rfl
theorem f0_3 (a b c : Int) : facesBy [a, b, c] 0 = [[b, c], [a, c], [a, b]] := rfl
theorem f0_4 (a b c d : Int) : facesBy [a, b, c, d] 0 = [[b, c, d], [a, c, d], [a, b, d], [a, b, c]] := rfl
section
variable {fam : Int}
theorem fn_0 (h : fam < 0) : facesBy [] fam = [] := by unfold facesBy; rw [if_neg (by omega), if_pos (by simp)]
theorem fn_1 (h : fam < 0) (a : Int) : facesBy [a] fam = [[], []] := by unfold facesBy; rw [if_neg (by omega), if_neg (by simp), if_pos h, if_pos (by simp)]
theorem fn_3 (h : fam < 0) (a b c : Int) : facesBy [a, b, c] fam = [[a], [b], [c]] := by unfold facesBy; rw [if_neg (by omega), if_neg (by simp), if_pos h, if_neg (by simp)]; rfl
theorem fp_0 (h : 0 < fam) : facesBy [] fam = [] := by unfold facesBy; rw [if_neg (by omega), if_pos (by simp)]
theorem fp_1 (h : 0 < fam) (a : Int) : facesBy [a] fam = [[], []] := by unfold facesBy; rw [if_neg (by omega), if_neg (by simp), if_neg (by omega)]; rfl
theorem fp_2 (h : 0 < fam) (a b : Int) : facesBy [a, b] fam = [[b], [(a + b) % fam], [a]] := by unfold facesBy; rw [if_neg (by omega), if_neg (by simp), if_neg (by omega)]; rfl
theorem fp_3 (h : 0 < fam) (a b c : Int) : facesBy [a, b, c] fam = [[b, c], [(a + b) % fam, c], [a, (b + c) % fam], [a, b]] := by unfold facesBy; rw [if_neg (by omega), if_neg (by simp), if_neg (by omega)]; rfl

theorem faces_word {w f : List Int} (h : Word fam w) (hf : f ∈ facesBy w fam) : Word fam f ∧ lv fam f + 1 = lv fam w := by
  rcases word_cases h with ⟨h0, ⟨a, rfl⟩ | ⟨a, b, rfl⟩ | ⟨a, b, c, rfl⟩ | ⟨a, b, c, d, rfl⟩⟩ | ⟨h0, rfl | ⟨a, rfl⟩ | ⟨a, b, c, rfl⟩⟩ | ⟨h0, rfl | ⟨a, rfl⟩ | ⟨a, b, rfl⟩ | ⟨a, b, c, rfl⟩⟩
  · subst h0; rw [f0_1] at hf; exact nomatch hf
  · subst h0; rw [f0_2] at hf
    simp only [List.mem_cons, List.not_mem_nil, or_false] at hf
    rcases hf with rfl | rfl <;> simp [Word, lv]
  · subst h0; rw [f0_3] at hf
    simp only [List.mem_cons, List.not_mem_nil, or_false] at hf
    rcases hf with rfl | rfl | rfl <;> simp [Word, lv]
  · subst h0; rw [f0_4] at hf
    simp only [List.mem_cons, List.not_mem_nil, or_false] at hf
    rcases hf with rfl | rfl | rfl | rfl <;> simp [Word, lv]
  · rw [fn_0 h0] at hf; exact nomatch hf
  · rw [fn_1 h0] at hf
    simp only [List.mem_cons, List.not_mem_nil, or_false, or_self] at hf
    subst hf
    have e : ¬ fam = 0 := by omega
    simp [Word, lv, h0, e]
  · rw [fn_3 h0] at hf
    have e : ¬ fam = 0 := by omega
    simp only [List.mem_cons, List.not_mem_nil, or_false] at hf
    rcases hf with rfl | rfl | rfl <;> simp [Word, lv, h0, e]
  · rw [fp_0 h0] at hf; exact nomatch hf
  · rw [fp_1 h0] at hf
    have e : ¬ fam = 0 := by omega
    have e' : ¬ fam < 0 := by omega
    simp only [List.mem_cons, List.not_mem_nil, or_false, or_self] at hf
    subst hf
    simp [Word, lv, h0, e, e']
  · rw [fp_2 h0] at hf
    have e : ¬ fam = 0 := by omega
    have e' : ¬ fam < 0 := by omega
    simp only [List.mem_cons, List.not_mem_nil, or_false] at hf
    rcases hf with rfl | rfl | rfl <;> simp [Word, lv, h0, e, e']
  · rw [fp_3 h0] at hf
    have e : ¬ fam = 0 := by omega
    have e' : ¬ fam < 0 := by omega
    simp only [List.mem_cons, List.not_mem_nil, or_false] at hf
    rcases hf with rfl | rfl | rfl | rfl <;> simp [Word, lv, h0, e, e']

theorem faces_len {w : List Int} (h : Word fam w) : (facesBy w fam).length = (if lv fam w = 0 then 0 else lv fam w + 1) ∧ lv fam w ≤ 3 := by
  rcases word_cases h with ⟨h0, ⟨a, rfl⟩ | ⟨a, b, rfl⟩ | ⟨a, b, c, rfl⟩ | ⟨a, b, c, d, rfl⟩⟩ | ⟨h0, rfl | ⟨a, rfl⟩ | ⟨a, b, c, rfl⟩⟩ | ⟨h0, rfl | ⟨a, rfl⟩ | ⟨a, b, rfl⟩ | ⟨a, b, c, rfl⟩⟩
  · subst h0; simp [f0_1, lv]
  · subst h0; simp [f0_2, lv]
  · subst h0; simp [f0_3, lv]
  · subst h0; simp [f0_4, lv]
  all_goals have e : ¬ fam = 0 := by omega
  · simp [fn_0 h0, lv, e, h0]
  · simp [fn_1 h0, lv, e, h0]
  · simp [fn_3 h0, lv, e, h0]
  all_goals have e' : ¬ fam < 0 := by omega
  · simp [fp_0 h0, lv, e, e']
  · simp [fp_1 h0, lv, e, e']
  · simp [fp_2 h0, lv, e, e']
  · simp [fp_3 h0, lv, e, e']


theorem faces_agree {w f g : List Int} {i j : Nat} (h : Word fam w) (hl : 2 ≤ lv fam w) (hij : i < j) (hf : (facesBy w fam)[j]? = some f) (hg : (facesBy w fam)[i]? = some g) : (facesBy f fam)[i]? = (facesBy g fam)[j - 1]? := by
  have hj : j < (facesBy w fam).length := (List.getElem?_eq_some_iff.mp hf).1
  rcases word_cases h with ⟨h0, ⟨a, rfl⟩ | ⟨a, b, rfl⟩ | ⟨a, b, c, rfl⟩ | ⟨a, b, c, d, rfl⟩⟩ | ⟨h0, rfl | ⟨a, rfl⟩ | ⟨a, b, c, rfl⟩⟩ | ⟨h0, rfl | ⟨a, rfl⟩ | ⟨a, b, rfl⟩ | ⟨a, b, c, rfl⟩⟩
  · subst h0; simp [lv] at hl
  · subst h0; simp [lv] at hl
  · subst h0
    rw [f0_3] at hf hg hj
    have hc : (i = 0 ∧ j = 1) ∨ (i = 0 ∧ j = 2) ∨ (i = 1 ∧ j = 2) := by simp at hj; omega
    rcases hc with ⟨rfl, rfl⟩ | ⟨rfl, rfl⟩ | ⟨rfl, rfl⟩
    · simp at hf hg; subst hf hg; rfl
    · simp at hf hg; subst hf hg; rfl
    · simp at hf hg; subst hf hg; rfl
  · subst h0
    rw [f0_4] at hf hg hj
    have hc : (i = 0 ∧ j = 1) ∨ (i = 0 ∧ j = 2) ∨ (i = 0 ∧ j = 3) ∨ (i = 1 ∧ j = 2) ∨ (i = 1 ∧ j = 3) ∨ (i = 2 ∧ j = 3) := by simp at hj; omega
    rcases hc with ⟨rfl, rfl⟩ | ⟨rfl, rfl⟩ | ⟨rfl, rfl⟩ | ⟨rfl, rfl⟩ | ⟨rfl, rfl⟩ | ⟨rfl, rfl⟩
    · simp at hf hg; subst hf hg; rfl
    · simp at hf hg; subst hf hg; rfl
    · simp at hf hg; subst hf hg; rfl
    · simp at hf hg; subst hf hg; rfl
    · simp at hf hg; subst hf hg; rfl
    · simp at hf hg; subst hf hg; rfl
  all_goals have e : ¬ fam = 0 := by omega
  · simp [lv, e, h0] at hl
  · simp [lv, e, h0] at hl
  · rw [fn_3 h0] at hf hg hj
    have hc : (i = 0 ∧ j = 1) ∨ (i = 0 ∧ j = 2) ∨ (i = 1 ∧ j = 2) := by simp at hj; omega
    rcases hc with ⟨rfl, rfl⟩ | ⟨rfl, rfl⟩ | ⟨rfl, rfl⟩
    · simp at hf hg; subst hf hg; simp [fn_1 h0]
    · simp at hf hg; subst hf hg; simp [fn_1 h0]
    · simp at hf hg; subst hf hg; simp [fn_1 h0]
  all_goals have e' : ¬ fam < 0 := by omega
  · simp [lv, e, e'] at hl
  · simp [lv, e, e'] at hl
  · rw [fp_2 h0] at hf hg hj
    have hc : (i = 0 ∧ j = 1) ∨ (i = 0 ∧ j = 2) ∨ (i = 1 ∧ j = 2) := by simp at hj; omega
    rcases hc with ⟨rfl, rfl⟩ | ⟨rfl, rfl⟩ | ⟨rfl, rfl⟩
    · simp at hf hg; subst hf hg; simp [fp_1 h0]
    · simp at hf hg; subst hf hg; simp [fp_1 h0]
    · simp at hf hg; subst hf hg; simp [fp_1 h0]
  · rw [fp_3 h0] at hf hg hj
    have hc : (i = 0 ∧ j = 1) ∨ (i = 0 ∧ j = 2) ∨ (i = 0 ∧ j = 3) ∨ (i = 1 ∧ j = 2) ∨ (i = 1 ∧ j = 3) ∨ (i = 2 ∧ j = 3) := by simp at hj; omega
    rcases hc with ⟨rfl, rfl⟩ | ⟨rfl, rfl⟩ | ⟨rfl, rfl⟩ | ⟨rfl, rfl⟩ | ⟨rfl, rfl⟩ | ⟨rfl, rfl⟩
    · simp at hf hg; subst hf hg; simp [fp_2 h0]
    · simp at hf hg; subst hf hg; simp [fp_2 h0]
    · simp at hf hg; subst hf hg; simp [fp_2 h0]
    · skip
      simp at hf hg; subst hf hg
      simp only [fp_2 h0, List.getElem?_cons_succ, List.getElem?_cons_zero, Nat.add_one_sub_one]
      congr 2
      rw [Int.add_emod_emod, Int.emod_add_emod, Int.add_assoc]
    · simp at hf hg; subst hf hg; simp [fp_2 h0]
    · simp at hf hg; subst hf hg; simp [fp_2 h0]
end


def lev (p : List Int) : Nat := p.length - 1

structure Fits (xs : List (List Int)) (p : List Int) : Prop where
  cnt : p.length = 0 ∨ p.length = 2 ∨ p.length = 3 ∨ p.length = 4
  low : ∀ f ∈ p, 0 ≤ f
  bel : ∀ f ∈ p, ∃ q, xs[f.toNat]? = some q ∧ lev q + 1 = lev p
  agr : 3 ≤ p.length → ∀ (i j : Nat) (f g : Int) (q r : List Int), i < j → p[j]? = some f → p[i]? = some g → xs[f.toNat]? = some q → xs[g.toNat]? = some r → q[i]? = r[j - 1]?
def IsShape (xs : List (List Int)) : Prop := ∀ (k : Nat) (p : List Int), xs[k]? = some p → Fits (xs.take k) p


def Ord (fam : Int) (ws : List (List Int)) : Prop := ∀ (k : Nat) (w : List Int), ws[k]? = some w → Word fam w ∧ ∀ f ∈ facesBy w fam, f ∈ ws.take k
theorem Ord.nil {fam : Int} : Ord fam [] := fun k w h => by simp at h
theorem Ord.snoc {fam : Int} {ws : List (List Int)} {w : List Int} (h : Ord fam ws) (hw : Word fam w) (hf : ∀ f ∈ facesBy w fam, f ∈ ws) : Ord fam (ws ++ [w]) := by
  intro k v hk
  by_cases hlt : k < ws.length
  · rw [List.getElem?_append_left hlt] at hk
    rw [List.take_append_of_le_length (by omega)]
    exact h k v hk
  · have hk' : k < (ws ++ [w]).length := (List.getElem?_eq_some_iff.mp hk).1
    have e : k = ws.length := by simp at hk'; omega
    subst e
    simp at hk
    subst hk
    rw [List.take_append_of_le_length (Nat.le_refl _), List.take_length]
    exact ⟨hw, hf⟩
theorem Ord.mem {fam : Int} {ws : List (List Int)} (h : Ord fam ws) {w : List Int} (hw : w ∈ ws) : Word fam w ∧ ∀ f ∈ facesBy w fam, f ∈ ws := by
  obtain ⟨k, hk⟩ := List.getElem?_of_mem hw
  obtain ⟨h1, h2⟩ := h k w hk
  exact ⟨h1, fun f hf => List.mem_of_mem_take (h2 f hf)⟩

def addAll (ws : List (List Int)) : List (List Int) → List (List Int)
  | [] => ws
  | w :: r => addAll (if w ∈ ws then ws else ws ++ [w]) r
theorem addAll_len : ∀ (rows ws : List (List Int)), (addAll ws rows).length ≤ ws.length + rows.length
  | [], ws => by simp [addAll]
  | w :: r, ws => by
    have h1 := addAll_len r (if w ∈ ws then ws else ws ++ [w])
    have h2 : (if w ∈ ws then ws else ws ++ [w]).length ≤ ws.length + 1 := by
      split
      · omega
      · simp
    simp only [addAll, List.length_cons]
    omega
theorem addAll_ord {fam : Int} : ∀ (rows ws : List (List Int)), Ord fam ws → (∀ (k : Nat) (w : List Int), rows[k]? = some w → Word fam w ∧ ∀ f ∈ facesBy w fam, f ∈ ws ∨ f ∈ rows.take k) → Ord fam (addAll ws rows)
  | [], ws, h, _ => h
  | w :: r, ws, h, hr => by
    have h0 := hr 0 w rfl
    have hw : ∀ f ∈ facesBy w fam, f ∈ ws := fun f hf => (h0.2 f hf).resolve_right (by simp)
    simp only [addAll]
    refine addAll_ord r _ ?_ fun k v hk => ?_
    · split
      · exact h
      · exact h.snoc h0.1 hw
    · obtain ⟨h1, h2⟩ := hr (k + 1) v (by simpa using hk)
      refine ⟨h1, fun f hf => ?_⟩
      rcases h2 f hf with z | z
      · left
        split
        · exact z
        · exact List.mem_append_left _ z
      · rw [List.take_succ_cons] at z
        rcases List.mem_cons.mp z with z | z
        · left
          subst z
          split
          · assumption
          · simp
        · exact .inr z

def addNew (ws : List (List Int)) : List (List Int) → List (List Int) → List (List Int)
  | acc, [] => acc
  | acc, f :: r => addNew ws (if f ∉ ws ∧ f ∉ acc then acc ++ [f] else acc) r
theorem addNew_sub {ws : List (List Int)} {x : List Int} : ∀ (fs acc : List (List Int)), x ∈ addNew ws acc fs → x ∈ acc ∨ x ∈ fs
  | [], acc, h => .inl h
  | f :: r, acc, h => by
    rcases addNew_sub r _ h with z | z
    · split at z
      · rcases List.mem_append.mp z with z | z
        · exact .inl z
        · exact .inr (by simp at z; simp [z])
      · exact .inl z
    · exact .inr (List.mem_cons_of_mem _ z)
theorem addNew_mono {ws : List (List Int)} {x : List Int} : ∀ (fs acc : List (List Int)), x ∈ acc → x ∈ addNew ws acc fs
  | [], acc, h => h
  | f :: r, acc, h => addNew_mono r _ (by split; exact List.mem_append_left _ h; exact h)
theorem addNew_has {ws : List (List Int)} {x : List Int} : ∀ (fs acc : List (List Int)), x ∈ fs → x ∈ ws ∨ x ∈ addNew ws acc fs
  | f :: r, acc, h => by
    rcases List.mem_cons.mp h with e | e
    · subst e
      by_cases h1 : x ∈ ws
      · exact .inl h1
      · right
        refine addNew_mono r _ ?_
        by_cases h2 : x ∈ acc
        · rw [if_neg (by simp [h2])]; exact h2
        · rw [if_pos ⟨h1, h2⟩]; simp
    · exact addNew_has r _ e
theorem addNew_len {ws : List (List Int)} : ∀ (fs acc : List (List Int)), (addNew ws acc fs).length ≤ acc.length + fs.length
  | [], acc => by simp [addNew]
  | f :: r, acc => by
    have h1 := addNew_len (ws := ws) r (if f ∉ ws ∧ f ∉ acc then acc ++ [f] else acc)
    have h2 : (if f ∉ ws ∧ f ∉ acc then acc ++ [f] else acc).length ≤ acc.length + 1 := by
      split
      · simp
      · omega
    simp only [addNew, List.length_cons]
    omega

def below (ws : List (List Int)) (fam : Int) : List (List Int) → List (List Int) → List (List Int)
  | acc, [] => acc
  | acc, w :: r => below ws fam (addNew ws acc (facesBy w fam)) r
theorem below_sub {ws : List (List Int)} {fam : Int} {x : List Int} : ∀ (l acc : List (List Int)), x ∈ below ws fam acc l → x ∈ acc ∨ ∃ w ∈ l, x ∈ facesBy w fam
  | [], acc, h => .inl h
  | w :: r, acc, h => by
    rcases below_sub r _ h with z | ⟨v, hv, z⟩
    · rcases addNew_sub _ _ z with z | z
      · exact .inl z
      · exact .inr ⟨w, List.mem_cons_self, z⟩
    · exact .inr ⟨v, List.mem_cons_of_mem _ hv, z⟩
theorem below_mono {ws : List (List Int)} {fam : Int} {x : List Int} : ∀ (l acc : List (List Int)), x ∈ acc → x ∈ below ws fam acc l
  | [], acc, h => h
  | w :: r, acc, h => below_mono r _ (addNew_mono _ _ h)
theorem below_has {ws : List (List Int)} {fam : Int} {x w : List Int} : ∀ (l acc : List (List Int)), w ∈ l → x ∈ facesBy w fam → x ∈ ws ∨ x ∈ below ws fam acc l
  | v :: r, acc, h, hx => by
    rcases List.mem_cons.mp h with e | e
    · subst e
      rcases addNew_has (ws := ws) _ acc hx with z | z
      · exact .inl z
      · exact .inr (below_mono r _ z)
    · exact below_has r _ e hx
theorem below_len {ws : List (List Int)} {fam : Int} : ∀ (l acc : List (List Int)), (∀ w ∈ l, Word fam w) → (below ws fam acc l).length ≤ acc.length + 4 * l.length
  | [], acc, _ => by simp [below]
  | w :: r, acc, h => by
    have h1 := below_len (ws := ws) r (addNew ws acc (facesBy w fam)) fun v hv => h v (List.mem_cons_of_mem _ hv)
    have h2 := addNew_len (ws := ws) (facesBy w fam) acc
    have h3 := faces_len (h w List.mem_cons_self)
    simp only [below, List.length_cons]
    split at h3 <;> omega
theorem addNew_snoc (ws : List (List Int)) (f : List Int) : ∀ (fs acc : List (List Int)), addNew ws acc (fs ++ [f]) = (if f ∉ ws ∧ f ∉ addNew ws acc fs then addNew ws acc fs ++ [f] else addNew ws acc fs)
  | [], acc => rfl
  | g :: fs, acc => addNew_snoc ws f fs _
theorem below_snoc (ws : List (List Int)) (fam : Int) (w : List Int) : ∀ (l acc : List (List Int)), below ws fam acc (l ++ [w]) = addNew ws (below ws fam acc l) (facesBy w fam)
  | [], acc => rfl
  | v :: l, acc => below_snoc ws fam w l _
theorem addAll_snoc (w : List Int) : ∀ (rows ws : List (List Int)), addAll ws (rows ++ [w]) = (if w ∈ addAll ws rows then addAll ws rows else addAll ws rows ++ [w])
  | [], ws => rfl
  | v :: rows, ws => addAll_snoc w rows _

def layers (ws : List (List Int)) (fam : Int) : Nat → List (List Int) → List (List Int) → List (List Int)
  | 0, layer, rows => rows
  | n + 1, layer, rows => layers ws fam n (below ws fam [] layer) (layer ++ rows)
theorem layers_ok {ws : List (List Int)} {fam : Int} : ∀ (n : Nat) (layer rows : List (List Int)), (∀ w ∈ layer, Word fam w ∧ lv fam w < n) →
    (∀ (k : Nat) (w : List Int), rows[k]? = some w → Word fam w ∧ ∀ f ∈ facesBy w fam, f ∈ ws ∨ f ∈ layer ∨ f ∈ rows.take k) →
    ∀ (k : Nat) (w : List Int), (layers ws fam n layer rows)[k]? = some w → Word fam w ∧ ∀ f ∈ facesBy w fam, f ∈ ws ∨ f ∈ (layers ws fam n layer rows).take k
  | 0, layer, rows, hl, hr, k, w, hk => by
    obtain ⟨h1, h2⟩ := hr k w hk
    refine ⟨h1, fun f hf => ?_⟩
    rcases h2 f hf with z | z | z
    · exact .inl z
    · exact absurd (hl f z).2 (by omega)
    · exact .inr z
  | n + 1, layer, rows, hl, hr, k, w, hk => by
    refine layers_ok n _ _ ?_ ?_ k w hk
    · intro v hv
      rcases below_sub _ _ hv with z | ⟨u, hu, z⟩
      · exact nomatch z
      · obtain ⟨q1, q2⟩ := hl u hu
        obtain ⟨q3, q4⟩ := faces_word q1 z
        exact ⟨q3, by omega⟩
    · intro m v hm
      by_cases hlt : m < layer.length
      · rw [List.getElem?_append_left hlt] at hm
        have hv : v ∈ layer := List.mem_of_getElem? hm
        refine ⟨(hl v hv).1, fun f hf => ?_⟩
        rcases below_has (ws := ws) layer [] hv hf with z | z
        · exact .inl z
        · exact .inr (.inl z)
      · rw [List.getElem?_append_right (by omega)] at hm
        obtain ⟨h1, h2⟩ := hr _ v hm
        refine ⟨h1, fun f hf => ?_⟩
        rcases h2 f hf with z | z | z
        · exact .inl z
        · right; right
          rw [List.take_append]
          refine List.mem_append_left _ ?_
          rw [List.take_of_length_le (by omega)]
          exact z
        · right; right
          rw [List.take_append]
          exact List.mem_append_right _ z

def wordsWith (ws : List (List Int)) (w : List Int) (fam : Int) : List (List Int) := addAll ws (layers ws fam 4 [w] [])
theorem wordsWith_ord {ws : List (List Int)} {w : List Int} {fam : Int} (h : Ord fam ws) (hw : Word fam w) : Ord fam (wordsWith ws w fam) := by
  refine addAll_ord _ _ h (layers_ok 4 [w] [] ?_ ?_)
  · intro v hv
    have e : v = w := by simpa using hv
    subst e
    exact ⟨hw, by have := (faces_len hw).2; omega⟩
  · intro k v hk
    simp at hk

def idx (ws : List (List Int)) (f : List Int) : Nat := ws.findIdx (· == f)
theorem idx_get {ws : List (List Int)} {f : List Int} (h : f ∈ ws) : ws[idx ws f]? = some f := by
  unfold idx
  have hl : ws.findIdx (· == f) < ws.length := List.findIdx_lt_length_of_exists ⟨f, h, by simp⟩
  rw [List.getElem?_eq_getElem hl]
  have := List.findIdx_getElem (xs := ws) (p := (· == f)) (w := hl)
  simpa using this
theorem idx_lt {ws : List (List Int)} {f : List Int} {k : Nat} (h : f ∈ ws.take k) : idx ws f < k := by
  unfold idx
  obtain ⟨i, hi⟩ := List.getElem?_of_mem h
  have hlt : i < (ws.take k).length := (List.getElem?_eq_some_iff.mp hi).1
  rw [List.getElem?_take] at hi
  split at hi
  · rename_i hik
    have hl : i < ws.length := (List.getElem?_eq_some_iff.mp hi).1
    have e : ws[i] = f := by
      rw [List.getElem?_eq_getElem hl] at hi
      exact Option.some.inj hi
    have hle : ws.findIdx (· == f) ≤ i := by
      apply Nat.le_of_not_lt
      intro hgt
      have := List.not_of_lt_findIdx hgt
      simp [e] at this
    omega
  · cases hi

def shapeOf (ws : List (List Int)) (fam : Int) : List (List Int) := ws.map fun w => (facesBy w fam).map fun f => (idx ws f : Int)
theorem shapeOf_get {ws : List (List Int)} {fam : Int} {k : Nat} {w : List Int} (h : ws[k]? = some w) : (shapeOf ws fam)[k]? = some ((facesBy w fam).map fun f => (idx ws f : Int)) := by
  unfold shapeOf
  rw [List.getElem?_map, h]
  rfl
theorem shapeOf_shape {ws : List (List Int)} {fam : Int} (h : Ord fam ws) : IsShape (shapeOf ws fam) := by
  intro k p hp
  unfold shapeOf at hp
  rw [List.getElem?_map] at hp
  cases hw : ws[k]? with
  | none => rw [hw] at hp; cases hp
  | some w =>
    rw [hw] at hp
    have hp' : (facesBy w fam).map (fun f => (idx ws f : Int)) = p := by simpa using hp
    subst hp'
    obtain ⟨h1, h2⟩ := h k w hw
    obtain ⟨n1, n2⟩ := faces_len h1
    have look : ∀ f ∈ facesBy w fam, ((shapeOf ws fam).take k)[((idx ws f : Nat) : Int).toNat]? = some ((facesBy f fam).map fun g => (idx ws g : Int)) := fun f hf => by
      have hm := h2 f hf
      have hlt := idx_lt hm
      rw [Int.toNat_natCast, List.getElem?_take, if_pos hlt]
      exact shapeOf_get (idx_get (List.mem_of_mem_take hm))
    refine ⟨?_, ?_, ?_, ?_⟩
    · rw [List.length_map]
      by_cases hz : lv fam w = 0
      · rw [if_pos hz] at n1; omega
      · rw [if_neg hz] at n1; omega
    · intro f hf
      obtain ⟨g, _, rfl⟩ := List.mem_map.mp hf
      omega
    · intro f hf
      obtain ⟨g, hg, rfl⟩ := List.mem_map.mp hf
      refine ⟨_, look g hg, ?_⟩
      obtain ⟨w1, l1⟩ := faces_word h1 hg
      obtain ⟨m1, _⟩ := faces_len w1
      unfold lev
      rw [List.length_map, List.length_map]
      have hz : ¬ lv fam w = 0 := by omega
      rw [if_neg hz] at n1
      by_cases hy : lv fam g = 0
      · rw [if_pos hy] at m1; omega
      · rw [if_neg hy] at m1; omega
    · intro hl i j f g q r hij hf hg hq hr
      rw [List.length_map] at hl
      rw [List.getElem?_map] at hf hg
      cases ef : (facesBy w fam)[j]? with
      | none => rw [ef] at hf; cases hf
      | some F =>
        cases eg : (facesBy w fam)[i]? with
        | none => rw [eg] at hg; cases hg
        | some G =>
          rw [ef] at hf
          rw [eg] at hg
          have ef' : ((idx ws F : Nat) : Int) = f := by simpa using hf
          have eg' : ((idx ws G : Nat) : Int) = g := by simpa using hg
          subst ef' eg'
          rw [look F (List.mem_of_getElem? ef)] at hq
          rw [look G (List.mem_of_getElem? eg)] at hr
          cases hq
          cases hr
          have hz : ¬ lv fam w = 0 := by intro z; rw [if_pos z] at n1; omega
          rw [if_neg hz] at n1
          rw [List.getElem?_map, List.getElem?_map, faces_agree h1 (by omega) hij ef eg]
theorem layers_len {ws : List (List Int)} {fam : Int} {w : List Int} (hw : Word fam w) : (layers ws fam 4 [w] []).length ≤ 85 := by
  have step : ∀ l : List (List Int), (∀ v ∈ l, Word fam v) → (below ws fam [] l).length ≤ 4 * l.length ∧ ∀ v ∈ below ws fam [] l, Word fam v := fun l hl => by
    refine ⟨by have := below_len (ws := ws) l [] hl; simpa using this, fun v hv => ?_⟩
    rcases below_sub _ _ hv with z | ⟨u, hu, z⟩
    · exact nomatch z
    · exact (faces_word (hl u hu) z).1
  have s0 : ∀ v ∈ [w], Word fam v := fun v hv => by have e : v = w := by simpa using hv
                                                    subst e; exact hw
  obtain ⟨a1, b1⟩ := step _ s0
  obtain ⟨a2, b2⟩ := step _ b1
  obtain ⟨a3, b3⟩ := step _ b2
  simp only [layers, List.length_append, List.length_nil, List.length_cons] at a1 a2 a3 ⊢
  omega
end Hb

set_option linter.all false
namespace Hb

def pc (xs : List (List Int)) (p : Int) : List Int := xs.getD p.toNat []
def InS (xs : List (List Int)) (p : Int) : Prop := 0 ≤ p ∧ p < (xs.length : Int)
def lastL (l : List Int) : List Int := l.drop (l.length - 1)
def corn (xs : List (List Int)) : Nat → Int → List Int
  | 0, p => [p]
  | n + 1, p => if (pc xs p).length = 0 then [p] else corn xs n ((pc xs p).getD ((pc xs p).length - 1) 0) ++ lastL (corn xs n ((pc xs p).getD 0 0))
section
variable {xs : List (List Int)}
def cor (xs : List (List Int)) (p : Int) : List Int := corn xs 3 p
end
end Hb

set_option Elab.async false
set_option linter.all false
set_option maxRecDepth 100000
set_option maxHeartbeats 4000000

namespace Hb
open PySem L2

def cellAt (ns : List Int) (k : Int) : Int := ns.getD k.toNat 0

abbrev LT (K : PySem.W.Frag) (H : Hp) (v : V) (xs : List (List Int)) : Prop := Rep K H v (.lst (xs.map tI))
abbrev TI (K : PySem.W.Frag) (H : Hp) (v : V) (ns : List Int) : Prop := Rep K H v (tI ns)

section
variable {K : PySem.W.Frag} {H H' : Hp}
theorem TI.sq {v : V} {ns : List Int} (h : TI K H v ns) : ∃ a, v = .ref a ∧ SqT K H a (ns.map V.int) := by
  obtain ⟨a, vs, e, q, r⟩ := h
  rw [reps_nums.mp r] at q
  exact ⟨a, e, q⟩
theorem TI.mk {a : Addr} {ns : List Int} (h : SqT K H a (ns.map V.int)) : TI K H (.ref a) ns := ⟨a, _, rfl, h, reps_nums.mpr rfl⟩
theorem TI.same {v : V} {ns : List Int} (s : Same H H') (h : TI K H v ns) : TI K H' v ns := Rep.same s h
theorem TI.t {v : V} {ns : List Int} (s : TSame H H') (h : TI K H v ns) : TI K H' v ns := Rep.t s (imm_tI ns) h
theorem cut_take (xs : List V) (k : Nat) : cutV xs none (some (k : Int)) = xs.take k := by
  unfold cutV
  rw [HT.sIx_none, HT.sIx_nat, Nat.sub_zero, List.drop_zero, List.take_eq_take_iff]
  omega
theorem cut_drop (xs : List V) (k : Nat) : cutV xs (some (k : Int)) none = xs.drop k := by
  unfold cutV
  rw [HT.sIx_none, HT.sIx_nat]
  by_cases h : k ≤ xs.length
  · rw [Nat.min_eq_left h, List.take_of_length_le (by rw [List.length_drop]; omega)]
  · rw [Nat.min_eq_right (by omega), List.drop_length, List.drop_of_length_le (by omega)]
    simp
theorem push_reps {D : Addr} {ys : List V} {v : V} {d : L2.D} {ds : List L2.D} (hD : H D = some (.lst ys)) (r : Reps K H ys ds) (rv : Rep K H v d) (hi : imms (ds ++ [d]) = true) : Reps K (upd H D (.lst (ys ++ [v]))) (ys ++ [v]) (ds ++ [d]) :=
  (r.snoc rv).t (TSame.lst hD) hi
theorem push_TI {D : Addr} {ys : List V} {v : V} {xs : List (List Int)} {x : List Int} (hD : H D = some (.lst ys)) (r : Reps K H ys (xs.map tI)) (rv : TI K H v x) : Reps K (upd H D (.lst (ys ++ [v]))) (ys ++ [v]) ((xs ++ [x]).map tI) := by
  have e : (xs ++ [x]).map tI = xs.map tI ++ [tI x] := by simp
  have h := imms_tIs (xs ++ [x])
  rw [e] at h ⊢
  exact push_reps hD r rv h

def SameX (B : Addr) (H H' : Hp) : Prop := ∀ b o, b ≠ B → H b = some o → H' b = some o
theorem SameX.refl (B : Addr) (H : Hp) : SameX B H H := fun _ _ _ h => h
theorem SameX.trans {B : Addr} {H H1 H2 : Hp} (a : SameX B H H1) (b : SameX B H1 H2) : SameX B H H2 := fun c o n h => b c o n (a c o n h)
theorem SameX.of {B : Addr} {H H1 : Hp} (a : Same H H1) : SameX B H H1 := fun c o _ h => a c o h
theorem SameX.upd {B : Addr} {H H1 : Hp} {o : HO} (a : SameX B H H1) : SameX B H (upd H1 B o) := fun c u n h => by rw [upd_ne n]; exact a c u n h
theorem SameX.t {B : Addr} {H H1 : Hp} {us : List V} (a : SameX B H H1) (h : H B = some (.lst us)) : TSame H H1 :=
  ⟨fun b xs e => a b _ (ne_of e h (by intro z; cases z)) e, fun b o u e => a b _ (ne_of e h (by intro z; cases z)) e⟩
theorem SameX.same {B : Addr} {H0 H H1 : Hp} (a : SameX B H H1) (s : Same H0 H) (h : H0 B = none) : Same H0 H1 := fun b o e => a b o (ne_of_none e h) (s b o e)
theorem deps_nums : ∀ ns : List Int, deps (nums ns) = 0
  | [] => rfl
  | n :: ns => by show max (dep (.int n)) (deps (nums ns)) = 0; rw [deps_nums ns]; rfl
theorem deps_tIs : ∀ xs : List (List Int), deps (xs.map tI) ≤ 1
  | [] => Nat.zero_le _
  | x :: xs => by
    have h1 := deps_tIs xs
    have h2 : dep (tI x) = 1 := by show deps (nums x) + 1 = 1; rw [deps_nums]
    show max (dep (tI x)) (deps (xs.map tI)) ≤ 1
    omega
theorem any_tI (f : List Int) : ∀ xs : List (List Int), (xs.map tI).any (fun e => eqD e (tI f)) = decide (f ∈ xs)
  | [] => rfl
  | x :: xs => by
    rw [List.map_cons, List.any_cons, any_tI f xs, eqD_tI]
    by_cases h : x = f
    · subst h; simp
    · have h' : ¬ f = x := fun z => h z.symm
      simp [h, h']
theorem ifP {c A B : Prop} [Decidable c] (hc : c) (h : A) : if c then A else B := by rw [if_pos hc]; exact h
theorem ifN {c A B : Prop} [Decidable c] (hc : ¬ c) (h : B) : if c then A else B := by rw [if_neg hc]; exact h
theorem neI {a b : Int} (h : ¬ a = b) : (!decide (V.int a = V.int b)) = true := by simp [h]
theorem eqI {a b : Int} (h : a = b) : ¬ (!decide (V.int a = V.int b)) = true := by simp [h]
theorem comp_list0 {g : TG} {te : TE} {D : Addr} {Q : Hp → Prop} {τ : St} {H : Hp} {K : PySem.W.Frag} {a : Addr} {xs : List V} (Pv : Nat → List V → St → Hp → Prop) (h0 : Pv 0 [] τ H) (hl : ∀ i ys τ H, i ≤ xs.length → Pv i ys τ H → SqL K H a xs)
    (hs : ∀ i x ys τ H, xs[i]? = some x → Pv i ys τ H → g x τ H fun τ2 H2 => te τ2 H2 fun y H4 => H4 D = some (.lst ys) ∧ ys.length < sizeLine ∧ Pv (i + 1) (ys ++ [y]) τ2 (upd H4 D (.lst (ys ++ [y]))))
    (hd : ∀ ys τ H, Pv xs.length ys τ H → Q H) : RunC (Itl K a) g tYes te D Q τ H := comp_list Pv h0 hl (fun i x ys τ H e p => hs i x ys τ H e p) hd
theorem comp_tup0 {g : TG} {te : TE} {D : Addr} {Q : Hp → Prop} {τ : St} {H : Hp} {K : PySem.W.Frag} {a : Addr} {xs : List V} (Pv : Nat → List V → St → Hp → Prop) (h0 : Pv 0 [] τ H) (hl : ∀ i ys τ H, i ≤ xs.length → Pv i ys τ H → SqT K H a xs)
    (hs : ∀ i x ys τ H, xs[i]? = some x → Pv i ys τ H → g x τ H fun τ2 H2 => te τ2 H2 fun y H4 => H4 D = some (.lst ys) ∧ ys.length < sizeLine ∧ Pv (i + 1) (ys ++ [y]) τ2 (upd H4 D (.lst (ys ++ [y]))))
    (hd : ∀ ys τ H, Pv xs.length ys τ H → Q H) : RunC (Itt K a) g tYes te D Q τ H := comp_tup Pv h0 hl (fun i x ys τ H e p => hs i x ys τ H e p) hd
theorem comp_range0 {g : TG} {te : TE} {D : Addr} {Q : Hp → Prop} {τ : St} {H : Hp} {lo : Int} {n : Nat} (Pv : Nat → List V → St → Hp → Prop) (h0 : Pv 0 [] τ H)
    (hs : ∀ i ys τ H, i < n → Pv i ys τ H → g (.int (lo + i)) τ H fun τ2 H2 => te τ2 H2 fun y H4 => H4 D = some (.lst ys) ∧ ys.length < sizeLine ∧ Pv (i + 1) (ys ++ [y]) τ2 (upd H4 D (.lst (ys ++ [y]))))
    (hd : ∀ ys τ H, Pv n ys τ H → Q H) : RunC (Itr lo n) g tYes te D Q τ H := comp_range Pv h0 (fun i ys τ H e p => hs i ys τ H e p) hd
theorem tSeq_cut {t u : TS} {D : Ends} {σ : St} {H : Hp} (P : St → Hp → Prop) (hu : ∀ σ' H', P σ' H' → u D σ' H') (h : (∀ σ' H', P σ' H' → u D σ' H') → tSeq t u D σ H) : tSeq t u D σ H := h hu
theorem findIdx_tI {f : List Int} : ∀ {ws : List (List Int)}, f ∈ ws → (ws.map tI).findIdx? (fun e => eqD e (tI f)) = some (idx ws f) := fun {ws} h => by
  have e : (ws.map tI).findIdx? (fun e => eqD e (tI f)) = ws.findIdx? (fun w => w == f) := by
    rw [List.findIdx?_map]
    congr 1
    funext w
    show eqD (tI w) (tI f) = (w == f)
    rw [eqD_tI]
    by_cases z : w = f
    · subst z; simp
    · simp [z]
  rw [e, List.findIdx?_eq_some_of_exists (xs := ws) (p := fun w => w == f) ⟨f, h, by simp⟩]
  rfl
theorem small {n : Nat} (h : n ≤ 1000000) : n < sizeLine := Nat.lt_of_le_of_lt h (by decide)
theorem smallE {n : Nat} (h : n ≤ 1000000) : n ≤ sizeLine := Nat.le_of_lt (small h)
end
section
variable (K : PySem.W.Frag)
def sp_cell_at : Sp := fun vs H Q _ => ∃ (a : Addr) (ns : List Int) (k : Int), vs = [.ref a, .int k] ∧ SqL K H a (ns.map V.int) ∧ 0 ≤ k ∧ ns.length ≤ 63 ∧ Q (.int (cellAt ns k)) H

def sp_faces_by : Sp := fun vs H Q _ => ∃ (v : V) (w : List Int) (fam : Int), vs = [v, .int fam] ∧ TI K H v w ∧ Word fam w ∧
  ∀ (p : Addr) (us : List V) (H' : Hp), H p = none → Same H H' → H' p = some (.lst us) → Reps K H' us ((facesBy w fam).map tI) → Q (.ref p) H'
def sp_word_by : Sp := fun vs H Q _ => ∃ (c fam letters : Int), vs = [.int c, .int fam, .int letters] ∧ 0 < letters ∧ letters < 100 ∧ fam < 100 ∧
  ∀ (v : V) (H' : Hp) (w : List Int), Same H H' → TI K H' v w → Word fam w → Q v H'
def sp_words_with : Sp := fun vs H Q _ => ∃ (l : Addr) (us : List V) (v : V) (ws : List (List Int)) (w : List Int) (fam : Int), vs = [.ref l, v, .int fam] ∧ H l = some (.lst us) ∧ Reps K H us (ws.map tI) ∧ TI K H v w ∧ Word fam w ∧ ws.length ≤ 100 ∧
  ∀ (p : Addr) (us' : List V) (H' : Hp), H p = none → Same H H' → H' p = some (.lst us') → Reps K H' us' ((wordsWith ws w fam).map tI) → Q (.ref p) H'

def sp_law : Sp := fun vs H Q _ => ∃ (a : Addr) (ns : List Int), vs = [.ref a] ∧ SqL K H a (ns.map V.int) ∧ ns.length ≤ 63 ∧ ∀ H', Q (.bl true) H'
def sp_shape_by : Sp := fun vs H Q _ => ∃ (a : Addr) (ns : List Int) (kind most : Int), vs = [.int kind, .ref a, .int most] ∧ SqL K H a (ns.map V.int) ∧ ns.length ≤ 63 ∧ 0 ≤ most ∧ most ≤ 100 ∧
  ∀ (p : Addr) (us : List V) (H' : Hp) (xs : List (List Int)), H p = none → Same H H' → H' p = some (.lst us) → Reps K H' us (xs.map tI) → IsShape xs → (xs.length : Int) ≤ most → Q (.ref p) H'
end
end Hb

set_option Elab.async false
set_option linter.all false
set_option maxRecDepth 100000
set_option maxHeartbeats 4000000
namespace Hb
open PySem L2
def wholeD (d : L2.D) : Bool := isD "int" d && !isD "bool" d
def belowD (d : L2.D) (b : Int) : Bool := match d with
  | .int i => decide (0 ≤ i) && decide (i < b)
  | _ => false
def levI (n : Nat) : Int := if (0 : Int) > (n : Int) - 1 then 0 else (n : Int) - 1
def placeLev (xs : List (List Int)) (d : L2.D) (l : Int) : Bool := match d with
  | .int i => decide (0 ≤ i) && decide (i < (xs.length : Int)) && decide (levI (xs.getD i.toNat []).length = l)
  | _ => false
def agreeAt (xs : List (List Int)) (p : List Int) (j i : Nat) : Bool := decide ((xs.getD (p.getD j 0).toNat []).getD i 0 = (xs.getD (p.getD i 0).toNat []).getD (j - 1) 0)
def agreeB (xs : List (List Int)) (p : List Int) : Bool := (List.range p.length).all fun j => (List.range j).all fun i => agreeAt xs p j i
def toI : L2.D → Int
  | .int i => i
  | _ => 0
def cntB (n : Nat) : Bool := n == 0 || n == 2 || n == 3 || n == 4
def fitsD (xs : List (List Int)) (d : L2.D) : Bool := match d with
  | .tup ds => cntB ds.length && ds.all (fun e => placeLev xs e (levI ds.length - 1)) && (decide (levI ds.length < 2) || agreeB xs (ds.map toI))
  | _ => false
theorem fitsD_tup (xs : List (List Int)) (ds : List L2.D) : fitsD xs (.tup ds) = (cntB ds.length && ds.all (fun e => placeLev xs e (levI ds.length - 1)) && (decide (levI ds.length < 2) || agreeB xs (ds.map toI))) := rfl
theorem cntB_le {n : Nat} (h : cntB n = true) : n ≤ 4 ∧ n ≠ 1 := by
  unfold cntB at h
  simp only [Bool.or_eq_true, beq_iff_eq] at h
  omega
section
variable (K : PySem.W.Frag)
def sp_is_whole : Sp := fun vs H Q _ => ∃ (x : V) (d : L2.D), vs = [x] ∧ Rep K H x d ∧ Q (.bl (wholeD d)) H
abbrev sp_L_whole : Sp := sp_is_whole K
def sp_is_whole_below : Sp := fun vs H Q _ => ∃ (x : V) (d : L2.D) (b : Int), vs = [x, .int b] ∧ Rep K H x d ∧ Q (.bl (belowD d b)) H
def sp_level_of : Sp := fun vs H Q _ => ∃ (x : V) (ds : List L2.D), vs = [x] ∧ SeqD K H x ds ∧ Q (.int (levI ds.length)) H
def sp_is_place_of_level : Sp := fun vs H Q _ => ∃ (a : Addr) (x : V) (d : L2.D) (l : Int) (xs : List (List Int)), vs = [.ref a, x, .int l] ∧ LT K H (.ref a) xs ∧ Rep K H x d ∧ Q (.bl (placeLev xs d l)) H
def sp_faces_agree : Sp := fun vs H Q _ => ∃ (a : Addr) (v : V) (xs : List (List Int)) (p : List Int), vs = [.ref a, v] ∧ LT K H (.ref a) xs ∧ TI K H v p ∧ p.length ≤ 4 ∧
  (∀ f ∈ p, 0 ≤ f ∧ f < (xs.length : Int) ∧ (xs.getD f.toNat []).length + 1 = p.length) ∧ Q (.bl (agreeB xs p)) H
def sp_fits : Sp := fun vs H Q _ => ∃ (a : Addr) (th : V) (d : L2.D) (xs : List (List Int)), vs = [.ref a, th] ∧ LT K H (.ref a) xs ∧ Rep K H th d ∧ ∀ H', Same H H' → Q (.bl (fitsD xs d)) H'
abbrev sp_L_fits_by : Sp := sp_fits K
abbrev sp_L_cell_at : Sp := sp_cell_at K
abbrev sp_L_faces_by : Sp := sp_faces_by K
abbrev sp_L_word_by : Sp := sp_word_by K
abbrev sp_L_words_with : Sp := sp_words_with K
abbrev sp_L_shape_by : Sp := sp_shape_by K
end
section
variable {K : PySem.W.Frag} {H : Hp}
theorem wholeD_int {d : L2.D} (h : wholeD d = true) : ∃ i, d = .int i := by
  cases d <;> simp [wholeD, isD] at h
  exact ⟨_, rfl⟩

theorem LT.get {a : Addr} {xs : List (List Int)} {i : Int} (h : LT K H (.ref a) xs) (h0 : 0 ≤ i) (h1 : i < (xs.length : Int)) : ∃ us v, SqL K H a us ∧ atI us i = some v ∧ TI K H v (xs.getD i.toNat []) := by
  obtain ⟨a', us, e, hq, r⟩ := h
  cases e
  obtain ⟨j, rfl⟩ := Int.eq_ofNat_of_zero_le h0
  have hj : j < xs.length := by omega
  have e : (xs.map tI)[j]? = some (tI xs[j]) := by rw [List.getElem?_map, List.getElem?_eq_getElem hj]; rfl
  obtain ⟨v, hv, tv⟩ := r.get e
  refine ⟨us, v, hq, atI_nat hv, ?_⟩
  rw [Int.toNat_natCast, List.getD_eq_getElem?_getD, List.getElem?_eq_getElem hj]
  exact tv
theorem LT.len {a : Addr} {xs : List (List Int)} (h : LT K H (.ref a) xs) : ∃ us, SqL K H a us ∧ us.length = xs.length := by
  obtain ⟨a', us, e, hq, r⟩ := h
  cases e
  exact ⟨us, hq, by have := r.length; simpa using this⟩
theorem TI.get {v : V} {p : List Int} {i : Int} (h : TI K H v p) (h0 : 0 ≤ i) (h1 : i < (p.length : Int)) : ∃ a, v = .ref a ∧ SqT K H a (p.map V.int) ∧ atI (p.map V.int) i = some (.int (p.getD i.toNat 0)) := by
  obtain ⟨a, e, hq⟩ := h.sq
  refine ⟨a, e, hq, ?_⟩
  obtain ⟨j, rfl⟩ := Int.eq_ofNat_of_zero_le h0
  have hj : j < p.length := by omega
  refine atI_nat ?_
  rw [List.getElem?_map, List.getElem?_eq_getElem hj]
  simp [hj]
theorem levI_eq (n : Nat) : levI n = ((n - 1 : Nat) : Int) := by unfold levI; split <;> omega
theorem all_nums {xs : List (List Int)} {l : Int} : ∀ {ds : List L2.D}, ds.all (fun e => placeLev xs e l) = true → ds = nums (ds.map toI)
  | [], _ => rfl
  | d :: ds, h => by
    simp only [List.all_cons, Bool.and_eq_true] at h
    cases d with
    | int i =>
      show L2.D.int i :: ds = L2.D.int i :: nums (ds.map toI)
      rw [← all_nums h.2]
    | _ => simp [placeLev] at h
end
end Hb

set_option Elab.async false
set_option linter.all false
set_option maxRecDepth 100000
set_option maxHeartbeats 4000000

namespace L2
open PySem PySem.Spec PyProof.Rows

theorem ObjOk.ob {P : Program} {w : World} {H : Hp} {h : Heap} {a : Addr} {o : HO} (x : ObjOk P w H h a o) : ∃ u, h.get? a = some u := by
  cases o with
  | lst xs => obtain ⟨_, _, _, _, e⟩ := x; exact ⟨_, e⟩
  | tup xs => obtain ⟨_, _, _, ob, e, _⟩ := x; exact ⟨_, e⟩
  | dK kvs => obtain ⟨_, _, _, _, ob, _, _, e, _⟩ := x; exact ⟨_, e⟩
  | dT kvs => obtain ⟨_, _, _, _, ob, _, _, e, _⟩ := x; exact ⟨_, e⟩
  | set S n => obtain ⟨ob, _, _, _, e, _⟩ := x; exact ⟨_, e⟩
  | ins C dx fs => obtain ⟨_, _, _, e, _⟩ := x; exact ⟨_, e⟩
  | own y => exact x
  | xd fs => obtain ⟨_, ⟨ob, _, _, e, _⟩, _⟩ := x; exact ⟨_, e⟩
  | rng lo hi => obtain ⟨_, _, _, e⟩ := x; exact ⟨_, e⟩
  | frz ob u => obtain ⟨e, _⟩ := x; exact ⟨_, e⟩
  | tbl ps => exact ⟨_, (show h.get? a = some _ from x)⟩
  | met f y => exact ⟨_, (show h.get? a = some _ from x)⟩
  | ext φ => obtain ⟨_, e, _⟩ := x; exact e


structure XUn (fs : List Addr) (H H' : Hp) (h B h' : Heap) : Prop where
  kp : ∀ b o, h.get? b = some o → H b = none → b ∉ fs → B.get? b = some o
  sl : ∀ b o, h.get? b = some o → H b = none → b ∈ fs → ∃ z, h'.get? b = some { o with slots := z }
  fr : ∀ b o, h.get? b = some o → H b = none → H' b = none
  th : ∀ b o, h.get? b = some o → b ∉ fs → ∃ z, B.get? b = some z
  tu : ∀ b xs, H b = some (.tup xs) → H' b = some (.tup xs)
  fz : ∀ b o u, H b = some (.frz o u) → H' b = some (.frz o u)
  tb : ∀ b ps, H b = some (.tbl ps) → ∃ more, H' b = some (.tbl (ps ++ more))
section
variable {fs : List Addr} {H H' : Hp} {h B h' h2 : Heap}
theorem XUn.un (x : XUn fs H H' h B h') (hB : B.StaysIn h2) (hf : ∀ b ∈ fs, H b = none) (hs : ∀ b o, h'.get? b = some o → b ∈ fs → ∃ z, h2.get? b = some { o with slots := z }) : Un fs [] H H' h h2 where
  keep := fun b o e n hb _ => hB b o (x.kp b o e n hb)
  slot := fun b o e n hb _ => by
    obtain ⟨z, e1⟩ := x.sl b o e n hb
    obtain ⟨z', e2⟩ := hs b _ e1 hb
    exact ⟨z', e2⟩
  free := fun b o e n _ => x.fr b o e n
  there := fun b o e _ => by
    by_cases hb : b ∈ fs
    · obtain ⟨z, e1⟩ := x.sl b o e (hf b hb) hb
      obtain ⟨z', e2⟩ := hs b _ e1 hb
      exact ⟨_, e2⟩
    · obtain ⟨z, e1⟩ := x.th b o e hb
      exact ⟨z, hB b z e1⟩
  tups := x.tu
  frzs := x.fz
  tbls := x.tb
theorem frames_up {l : List Env} (ff : h'.FunFrames B l) (up : h'.UpToSlots h2) : ∀ b o, h'.get? b = some o → b ∈ frs l → ∃ z, h2.get? b = some { o with slots := z } := fun b o e hb => by
  obtain ⟨_, o', e', hd⟩ := ff.mem hb
  rw [e] at e'
  cases e'
  exact up b o e hd
theorem XUn.next {l : List Env} (x : XUn (frs l) H H' h B h') (ff : h'.FunFrames B l) (up : h'.UpToSlots h2) : XUn (frs l) H H' h B h2 :=
  ⟨x.kp, fun b o e n hb => by
    obtain ⟨z, e1⟩ := x.sl b o e n hb
    obtain ⟨z', e2⟩ := frames_up ff up b _ e1 hb
    exact ⟨z', e2⟩, x.fr, x.th, x.tu, x.fz, x.tb⟩
end


def CX1 (P : Program) (w : World) : CXT := fun outer H s E u s' => ∃ (e : Addr) (cls a0 : Value) (B : Heap) (H' : Hp), u = .ref e ∧ s'.os = s.os ∧ AllBare s'.gens ∧ XUn (frs outer) H H' s.heap B s'.heap ∧ HOk P w H' B ∧ Heap.FlyingW B outer e cls a0 s'.heap ∧ E cls none H'

def FlyAt (X : Cx) (pins : List (Addr × Obj)) (e : Addr) (cls a0 : Value) (σ : St) (H' : Hp) (s' : Shared) : Prop :=
  ∃ (B : Heap) (H : Hp) (s : Shared), Inv X pins σ H s ∧ s'.os = s.os ∧ AllBare s'.gens ∧ XUn (frs X.stack) H H' s.heap B s'.heap ∧ HOk X.prog X.w H' B ∧ Heap.FlyingW B X.stack e cls a0 s'.heap

abbrev XJ := Value → St → Hp → Prop
def Fly (X : Cx) (J : XJ) (u : Value) (s' : Shared) : Prop := ∃ (e : Addr) (cls a0 : Value) (σ : St) (H' : Hp), u = .ref e ∧ FlyAt X [] e cls a0 σ H' s' ∧ J cls σ H'
def Flies (X : Cx) (J : XJ) : Prop := ∀ u s', Fly X J u s' → X.xe u s'
def Makes (X : Cx) (J : XJ) : Prop := ∀ (pins : List (Addr × Obj)) (σ : St) (H : Hp) (s : Shared) (e : Addr) (cls : Value) (vs : List Value) (h' : Heap), Inv X pins σ H s → Heap.MadeExcOf s.heap h' e cls vs → J cls σ H → X.xe (.ref e) { s with heap := h' }


def excO (e : Addr) (cls : Value) : HO := .ext fun h => ∃ o vs, h.get? e = some o ∧ o.cls = cls ∧ o.data = .fields vs

section
variable {X : Cx} {pins : List (Addr × Obj)} {σ : St} {H H' : Hp} {s s' : Shared} {e : Addr} {cls a0 : Value}
theorem FlyAt.step {B : Heap} {h2 : Heap} {S : Shared} (I : Inv X pins σ H S) (q1 : s'.os = S.os) (q2 : AllBare s'.gens) (q3 : XUn (frs X.stack) H H' S.heap B s'.heap) (q4 : HOk X.prog X.w H' B) (q5 : Heap.FlyingW B X.stack e cls a0 s'.heap)
    (f : Heap.FlyingW B X.stack e cls a0 h2) (up : s'.heap.UpToSlots h2) : FlyAt X pins e cls a0 σ H' { s' with heap := h2 } :=
  ⟨B, H, S, I, q1, q2, q3.next q5.2.2.1 up, q4, f⟩

theorem FlyAt.apart {B : Heap} {S : Shared} (q3 : XUn (frs X.stack) H H' S.heap B s'.heap) (q5 : Heap.FlyingW B X.stack e cls a0 s'.heap) : S.heap.get? e = none := by
  cases z : S.heap.get? e with
  | none => rfl
  | some o =>
    by_cases hb : e ∈ frs X.stack
    · obtain ⟨_, o', e1, hd⟩ := q5.2.2.1.mem hb
      obtain ⟨oe, vs, e2, _, d2, _⟩ := q5.first
      rw [e1] at e2
      cases e2
      exact absurd d2 (hd vs)
    · obtain ⟨o', e1⟩ := q3.th e o z hb
      have e2 := q5.2.1
      rw [e1] at e2
      cases e2
end


section
variable {P : Program} {w : World} {K : PySem.W.Frag} {mg : Str → Option Value} {base : Heap} {N : List Str} {qual : Str} {scope : Scope} {f : Addr} {cd : Value} {A : Around} {outer : List Env} {s : Shared} {H : Hp} {E : XK}
end
structure HasX (P : Program) (w : World) (K : PySem.W.Frag) (mg : Str → Option Value) (base : Heap) (x : Str) (ps : List Str) (k : Nat) (sp : Sp) : Prop where
  ex : ∃ (f : Addr) (fd : FuncData), mg x = some (.ref f) ∧ PySem.W.keepIn K (.ref f) = true ∧ Binds K fd ps [] ∧ FnOk P w K mg base (CX1 P w) k f fd ps sp

def tCallX (sp : Sp) (J : XJ) (t : TA) : TE := fun σ H Q => t σ H fun vs H1 => sp vs H1 Q (fun cls _ H2 => J cls σ H2)
section
variable {X : Cx} {J : XJ} {x : Str} {ps : List Str} {j k : Nat} {sp : Sp} {p pos : Pos} {e : Expr} {es : List Expr} {t : TA}
end


abbrev bmV : List Value := [.type "ValueError", .type "Exception", .type "BaseException", .type "object"]
def tRaise (J : XJ) (C : Addr) (t : TA) : TS := fun _ σ H => t σ H fun vs H1 => vs.length ≤ sizeLine ∧ J (.ref C) σ H1
theorem PS.nox {X : Cx} {st : Stmt} {t : TS} (h : PS X.nox st t) : PS X st t := fun pins s σ H D I hw =>
  wpAny_mono (h pins s σ H D (I.wish _) hw) (fun _ _ q => q.unwish) fun _ _ z => False.elim z
end L2

set_option Elab.async false
set_option linter.all false
set_option maxRecDepth 100000
set_option maxHeartbeats 4000000

namespace L2
open PySem PySem.Spec PyProof.Rows PySem.W

section
variable {X : Cx} {pins pn : List (Addr × Obj)} {σ : St} {H : Hp} {s : Shared} {J : XJ}
abbrev Cx.pinned (X : Cx) (pn : List (Addr × Obj)) : Cx := { X with pn := X.pn ++ pn }
theorem Cx.Ok.pinned (ok : X.Ok) (pn : List (Addr × Obj)) : (X.pinned pn).Ok :=
  ⟨ok.mod, ok.kind, ok.glob, ok.blt, ok.above, ok.inj, ok.has, ok.cab, ok.hd, ok.frames, ok.stk, ok.exf, ok.bs, ok.bsz, ok.noex, ok.exfs, ok.funs, ok.frf⟩
abbrev Cx.tried (X : Cx) (pn : List (Addr × Obj)) (J : XJ) : Cx := (X.pinned pn).wish (Fly (X.pinned pn) J)
abbrev Cx.suite (X : Cx) (e : Addr) : Cx := { X with A := X.A.mark (some (.ref e)), calm := false, xe := fun _ _ => False }
theorem Cx.Ok.suite (ok : X.Ok) (e : Addr) : (X.suite e).Ok :=
  ⟨ok.mod, ok.kind, ok.glob, ok.blt, ok.above, ok.inj, ok.has, ok.cab, fun z => Bool.noConfusion z, ok.frames, ok.stk, ok.exf, ok.bs, ok.bsz, ok.noex, ok.exfs, ok.funs, ok.frf⟩
theorem Inv.suite (I : Inv X pins σ H s) (e : Addr) : Inv (X.suite e) pins σ H s := ⟨I.ok.suite e, I.os, I.bare, I.base, I.loc, I.cell, I.free, I.freeC, I.pin, I.hok, I.len⟩
end


def PH (X : Cx) (hs : List ExceptHandler) (th : Ends → XJ) : Prop := ∀ (pins : List (Addr × Obj)) (s : Shared) (σ : St) (H : Hp) (D : Ends) (e : Addr) (cls a0 : Value), FlyAt X pins e cls a0 σ H s → th D cls σ H →
  wpAny (model X.prog X.w) X.A (handleBy (.ref e) X.env hs) (SP X pins D) X.xe s
def hNo : Ends → XJ := fun _ _ _ _ => False
def behind (i : Nat) (D : Ends) : Ends := { nx := fun σ H => D.nx (σ.set i none) H, rt := D.rt, bk := fun σ H => D.bk (σ.set i none) H, ct := fun σ H => D.ct (σ.set i none) H }
def hAs (K : Frag) (C : Addr) (i : Nat) (ts : TS) (th : Ends → XJ) : Ends → XJ := fun D cls σ H => ∃ (C' : Addr) (b : Bool), cls = .ref C' ∧ subIn K (.ref C') (.ref C) = some b ∧
  if b = true then ∀ e, H e = none → ts (behind i D) (σ.set i (some (.ref e))) (upd H e (excO e cls)) else th D cls σ H

section
variable {X : Cx} {th : Ends → XJ}
def tTry (tb : XJ → TS) (th : Ends → XJ) : TS := fun D σ H => tb (th D) D σ H
end


structure ExcC (K : Frag) (C : Addr) : Prop where
  cls : ktsIn K C "BaseException" = true
  ga : findIn K (.ref C) "__getattribute__" = some (some (.builtin "BaseException.__getattribute__"))
  gt : findIn K (.ref C) "__getattr__" = some none
  cl : findIn K (.ref C) "__class__" = some (some (.builtin "object.__class__"))
  ob : subIn K (.ref C) (.type "object") = some true
  be : subIn K (.ref C) (.type "BaseException") = some true
section
variable {prog : Program} {w : World} {A : Around} {E : Value → Shared → Prop} {h : Heap} {g : Array GenState} {d : Drawn} {t : Nat} {os : OsState} {a C : Addr} {o : Obj} {K : Frag}
end
section
variable {X : Cx} {K : Frag}

end
end L2

set_option Elab.async false
set_option linter.all false
set_option maxRecDepth 100000
set_option maxHeartbeats 4000000

namespace L2
open PySem PySem.Spec PyProof.Rows

def Ite (K : PySem.W.Frag) (a : Addr) : It :=
  ⟨fun i H => ∃ xs x, SqL K H a xs ∧ xs[i]? = some x, fun i H x H' => ∃ p v, H p = none ∧ x = .ref p ∧ H' = upd H p (.tup [.int i, v]) ∧ ∀ xs, SqL K H a xs → xs[i]? = some v, fun i H => ∃ xs, SqL K H a xs ∧ xs.length ≤ i⟩
theorem turn_enum {P : Program} {w : World} {K : PySem.W.Frag} {es : List Expr} {x1 : Nat} {tpos : Pos} (a e it : Addr) (hne : e ≠ it) : Turn P w K (.Tuple es x1 tpos) (Ite K a) [e, it] e (fun i h => (∃ old, IsEnum h e it (i : Int) old) ∧ h.IsListIter it a i) where
  mem := by simp
  obj := fun i h st b hb => by
    obtain ⟨⟨old, h1⟩, o, h2, c, d⟩ := st
    rcases List.mem_cons.mp hb with rfl | hb
    · exact ⟨_, h1, fun v z => by cases (show Data.fields _ = Data.cell v from z)⟩
    · have z : b = it := by simpa using hb
      subst z
      exact ⟨o, h2, fun v z => by rw [d] at z; cases z⟩
  keep := fun i h h' st k => by
    obtain ⟨⟨old, h1⟩, h2⟩ := st
    exact ⟨⟨old, k e (by simp) _ h1⟩, h2.at fun o z => k it (by simp) o z⟩
  item := by
    intro X hP hw hK hc i pins s σ H E I hf st hg
    subst hP hw hK
    obtain ⟨⟨old, h1⟩, h2⟩ := st
    obtain ⟨xs, x, hq, hx⟩ := hg
    obtain ⟨its, rv, p, hz⟩ := I.list hq
    obtain ⟨u, hu, ru⟩ := rv.get hx
    have fe := hf e (by simp)
    have fi := hf it (by simp)
    have lte : e < s.heap.objs.size := Heap.lt_size h1
    have hfresh : H s.heap.objs.size = none := I.hok.fresh (Nat.le_refl _)
    refine wpAny_pyNext_enum_item h1 h2 p.isList (x := u) (by simpa using hu) hne fun h' hout hit' htup hsz hk => ?_
    refine ⟨_, rfl, wpAny_letOwnedTupleGo_enum hout fun h3 hen hsb => ?_⟩
    replace hsb : Heap.SameBut e h' h3 := hsb
    have kk : ∀ b o, b ≠ e → b ≠ it → s.heap.get? b = some o → h3.get? b = some o := fun b o n1 n2 z => (hsb.2 b n1).trans (hk b o n1 n2 z)
    have ht3 : h3.get? s.heap.objs.size = some { cls := .type "tuple", data := .seq #[.int i s.toks, u] } := (hsb.2 _ (Nat.ne_of_gt lte)).trans htup
    have hi3 : h3.IsListIter it a (i + 1) := hit'.at fun o z => (hsb.2 it hne.symm).trans z
    have nch : ∀ b, b ∉ [e, it] → b ≠ e ∧ b ≠ it := fun b hb => by simpa using hb
    have ntr : ∀ b v, H b = some v → b ≠ e ∧ b ≠ it := fun b v z => ⟨ne_of_none z fe.1, ne_of_none z fi.1⟩
    have nsz : ∀ b v, H b = some v → b ≠ s.heap.objs.size := fun b v z => ne_of_none z hfresh
    refine ⟨.ref s.heap.objs.size, upd H s.heap.objs.size (.tup [.int i, x]), ?_, rfl, ⟨s.heap.objs.size, x, hfresh, rfl, rfl, fun ys hy => by rw [I.list_inj hy hq]; exact hx⟩, ⟨⟨_, hen⟩, hi3⟩, fun b hb => ?_⟩
    · refine Inv.step (s := s) (h' := h3) (t' := s.toks + 1) (H' := upd H s.heap.objs.size (.tup [.int i, x])) I (g' := s.gens) (d' := s.drawn) (ch := [e, it]) (fun b hb => ?_) (fun b o _ _ hb z _ => kk b o (nch b hb).1 (nch b hb).2 z) (fun b o _ _ hb z _ => ⟨o.slots, kk b o (nch b hb).1 (nch b hb).2 z⟩) (fun b o hb z n => ?_) (fun b o hb z => ⟨o, kk b o (nch b hb).1 (nch b hb).2 z⟩)
        (fun b ys z => by rw [upd_ne (nsz b _ z)]; exact z) (fun b o v z => by rw [upd_ne (nsz b _ z)]; exact z) (fun b ps z => ⟨#[], by rw [upd_ne (nsz b _ z), z]; simp⟩) (fun m hm => ?_) (fun b v z => ?_) I.bare
      · rcases List.mem_cons.mp hb with rfl | hb
        · exact ⟨fe.2.2.2.1, fe.2.1, fe.2.2.2.2.1, fe.2.2.2.2.2⟩
        · have z : b = it := by simpa using hb
          subst z
          exact ⟨fi.2.2.2.1, fi.2.1, fi.2.2.2.2.1, fi.2.2.2.2.2⟩
      · rw [upd_ne (Nat.ne_of_lt (Heap.lt_size z))]
        exact n
      · obtain ⟨o, es', ep, ho, r⟩ := hm
        exact ⟨o, es', ep, kk _ o fe.2.1.symm fi.2.1.symm ho, r⟩
      · by_cases hb : b = s.heap.objs.size
        · subst hb
          rw [upd_same] at z
          cases z
          exact ⟨(by show (2 : Nat) ≤ sizeLine; decide), [.int i s.toks, u], .cons ⟨_, rfl⟩ (.cons ru .nil), ⟨_, ht3, rfl, rfl, _, rfl⟩⟩
        · rw [upd_ne hb] at z
          refine (I.hok b v z).stay (fun c y hc' q => ?_) (fun c q => by rw [upd_ne (nsz c _ q)]; exact q) fun c ys q => by rw [upd_ne (nsz c _ q)]; exact q
          rcases hc' with rfl | hc'
          · exact kk _ _ (ntr _ _ z).1 (ntr _ _ z).2 q
          · exact kk _ _ (ntr _ _ hc').1 (ntr _ _ hc').2 q
    · have lb : b < s.heap.objs.size := by
        rcases List.mem_cons.mp hb with rfl | hb
        · exact lte
        · have z : b = it := by simpa using hb
          subst z
          obtain ⟨o, z, _⟩ := h2
          exact Heap.lt_size z
      rw [upd_ne (Nat.ne_of_lt lb)]
      exact (hf b hb).1
  done := by
    intro X hP hw hK hc i pins s σ H E I hf st hg
    subst hP hw hK
    obtain ⟨⟨old, h1⟩, h2⟩ := st
    obtain ⟨xs, hq, hx⟩ := hg
    obtain ⟨its, rv, p, hz⟩ := I.list hq
    obtain ⟨f0, f1, f2, f3, f4, f5⟩ := hf it (by simp)
    have hl := rv.length
    exact wpAny_pyNext_enum_end (I.ok.hd hc) h1 h2 p.isList (by simp; omega) fun h' eb => ⟨rfl, I.turned (t' := s.toks) (fun b o hb z => eb b o hb z) f0 f1 f3 f4 f5⟩
  self := fun _ _ _ _ _ st h => by
    obtain ⟨⟨old, h1⟩, h2⟩ := st
    exact wpAny_pyIter_enum h1 h

def iEnum (K : PySem.W.Frag) (ta : TA) : TI := fun σ H R => ta σ H fun vs H1 => ∃ a, vs = [.ref a] ∧ (∃ xs, SqL K H1 a xs) ∧ R (Ite K a) H1
theorem boot_enumerateT : bootBuiltins "enumerate" = some (.type "enumerate") := by decide +kernel
theorem pi_enum {X : Cx} {K : PySem.W.Frag} {es : List Expr} {x1 : Nat} {tpos : Pos} {a : Expr} {ta : TA} {p pos : Pos} (hg : Gl X "enumerate") (hm : X.mg "enumerate" = none) (ha : PA X [a] ta) (hK : X.K = K := by rfl) (hs : starEach [a] X.env = [(false, eval a X.env)] := by rfl) : PI X (.Tuple es x1 tpos) (.Call (.Name "enumerate" p) [a] [] pos) (iEnum K ta) := by
  subst hK
  intro pins s σ H R I h
  refine Call_ (ld_blt I hg hm boot_enumerateT (PyProof.Rows.callWith_type1 (thn (ha pos pins s σ H _ I h) fun us s1 ⟨vs, H1, I1, r1, q1⟩ => ?_) hs rfl))
  obtain ⟨l, e, ⟨xs, hq⟩, q⟩ := q1
  subst e
  cases r1 with
  | cons r rr =>
    cases rr
    cases r
    obtain ⟨its, rv, pl, hz⟩ := I1.list hq
    refine call_enumerate_list pl.isList fun h' hen hit hsz hk => ?_
    refine wpAny_pyIter_enum hen ⟨s1.heap.objs.size + 1, [s1.heap.objs.size + 1, s1.heap.objs.size], _, _, H1, rfl, I1.kept (t' := s1.toks) hk, turn_enum l _ _ (Nat.succ_ne_self _), ⟨⟨_, hen⟩, hit⟩, fun b hb => ?_, q⟩
    have lb : s1.heap.objs.size ≤ b := by
      rcases List.mem_cons.mp hb with rfl | hb
      · exact Nat.le_succ _
      · have z : b = s1.heap.objs.size := by simpa using hb
        rw [z]
        exact Nat.le_refl _
    exact I1.fpOk lb (I1.hok.fresh lb)
section
variable {g : TG} {tc : TT} {te : TE} {D : Addr} {Q : Hp → Prop} {τ : St} {H : Hp}
theorem comp_enum {K : PySem.W.Frag} {a : Addr} {xs : List V} (Pv : Nat → List V → St → Hp → Prop) (h0 : Pv 0 [] τ H) (hl : ∀ i ys τ H, i ≤ xs.length → Pv i ys τ H → SqL K H a xs)
    (hs : ∀ i x ys τ H p, xs[i]? = some x → Pv i ys τ H → H p = none → g (.ref p) τ (upd H p (.tup [.int i, x])) fun τ2 H2 => tc τ2 H2 fun b H3 => if b = true then te τ2 H3 fun y H4 => H4 D = some (.lst ys) ∧ ys.length < sizeLine ∧ Pv (i + 1) (ys ++ [y]) τ2 (upd H4 D (.lst (ys ++ [y]))) else Pv (i + 1) ys τ2 H3)
    (hd : ∀ ys τ H, Pv xs.length ys τ H → Q H) : RunC (Ite K a) g tc te D Q τ H := by
  refine ⟨fun i m ys τ H => m = xs.length - i ∧ i ≤ xs.length ∧ Pv i ys τ H, ⟨xs.length, by simp, Nat.zero_le _, h0⟩, ?_⟩
  rintro i m ys τ H ⟨rfl, hi, pp⟩
  have q := hl i ys τ H hi pp
  by_cases hlt : i < xs.length
  · refine .inr ⟨⟨xs, xs[i], q, by simp [hlt]⟩, Pv (i + 1), fun ys' τ' H' p' => ⟨xs.length - (i + 1), by omega, rfl, hlt, p'⟩, fun x H' y => ?_⟩
    obtain ⟨p, v, hp, rfl, rfl, y⟩ := y
    exact hs i v ys τ _ p (y xs q) pp hp
  · have e : i = xs.length := by omega
    subst e
    exact .inl ⟨⟨xs, q, Nat.le_refl _⟩, hd ys τ H pp⟩
theorem for_enum {K : PySem.W.Frag} {a : Addr} {xs : List V} {g : TG} {tb : TS} {D : Ends} {σ : St} {H : Hp} (Pv : Nat → St → Hp → Prop) (h0 : Pv 0 σ H) (hl : ∀ i σ H, i ≤ xs.length → Pv i σ H → SqL K H a xs)
    (hs : ∀ i x σ H p, xs[i]? = some x → Pv i σ H → H p = none → g (.ref p) σ (upd H p (.tup [.int i, x])) fun σ2 H2 => tb { D with nx := Pv (i + 1), ct := Pv (i + 1), bk := D.nx } σ2 H2) (hd : ∀ σ H, Pv xs.length σ H → D.nx σ H) :
    ∃ W : Nat → Nat → St → Hp → Prop, (∃ m, W 0 m σ H) ∧ ∀ i m σ H, W i m σ H →
      ((Ite K a).stop i H ∧ D.nx σ H) ∨ ((Ite K a).go i H ∧ ∃ N : St → Hp → Prop, (∀ σ' H', N σ' H' → ∃ m', m' < m ∧ W (i + 1) m' σ' H') ∧ ∀ x H', (Ite K a).yld i H x H' → g x σ H' fun σ2 H2 => tb { D with nx := N, ct := N, bk := D.nx } σ2 H2) := by
  refine ⟨fun i m σ H => m = xs.length - i ∧ i ≤ xs.length ∧ Pv i σ H, ⟨xs.length, by simp, Nat.zero_le _, h0⟩, ?_⟩
  rintro i m σ H ⟨rfl, hi, pp⟩
  have q := hl i σ H hi pp
  by_cases hlt : i < xs.length
  · refine .inr ⟨⟨xs, xs[i], q, by simp [hlt]⟩, Pv (i + 1), fun σ' H' p' => ⟨xs.length - (i + 1), by omega, rfl, hlt, p'⟩, fun x H' y => ?_⟩
    obtain ⟨p, v, hp, rfl, rfl, y⟩ := y
    exact hs i v σ _ p (y xs q) pp hp
  · have e : i = xs.length := by omega
    subst e
    exact .inl ⟨⟨xs, q, Nat.le_refl _⟩, hd σ H pp⟩
end
end L2

set_option Elab.async false
set_option linter.all false
set_option maxRecDepth 100000
set_option maxHeartbeats 4000000

namespace L2
open PySem PySem.Spec PyProof.Rows

def Itz (K : PySem.W.Frag) (a b : Addr) : It :=
  ⟨fun i H => ∃ xs ys x y, SqL K H a xs ∧ SqL K H b ys ∧ xs[i]? = some x ∧ ys[i]? = some y,
   fun i H v H' => ∃ p x y, H p = none ∧ v = .ref p ∧ H' = upd H p (.tup [x, y]) ∧ (∀ xs, SqL K H a xs → xs[i]? = some x) ∧ ∀ ys, SqL K H b ys → ys[i]? = some y,
   fun i H => ∃ xs ys, SqL K H a xs ∧ SqL K H b ys ∧ (xs.length ≤ i ∨ ys.length ≤ i)⟩
def iZip (K : PySem.W.Frag) (ta : TA) : TI := fun σ H R => ta σ H fun vs H1 => ∃ a b, vs = [.ref a, .ref b] ∧ (∃ xs, SqL K H1 a xs) ∧ (∃ ys, SqL K H1 b ys) ∧ R (Itz K a b) H1
section
variable {g : TG} {tc : TT} {te : TE} {D : Addr} {Q : Hp → Prop} {τ : St} {H : Hp}
end


end L2


namespace L2
open PySem PySem.W PySem.Calls PyProof.Rows
def cellBits : Nat := 1048576
end L2

set_option Elab.async false
set_option linter.all false
set_option maxRecDepth 100000
namespace L2
open PySem PySem.Spec PyProof.Rows


section
variable {κ : Type} [DecidableEq κ]
def valV (kvs : List (κ × V)) (k : κ) : Option V := (kvs.find? fun kv => decide (kv.1 = k)).map (·.2)

def putK (kvs : List (κ × V)) (k : κ) (v : V) : List (κ × V) :=
  if (kvs.any fun kv => decide (kv.1 = k)) = true then kvs.map (fun kv => if kv.1 = k then (kv.1, v) else kv) else kvs ++ [(k, v)]
def dropK (kvs : List (κ × V)) (k : κ) : List (κ × V) := kvs.filter fun kv => decide (kv.1 ≠ k)

theorem valV_pos {p : κ × V} {r : List (κ × V)} {k : κ} (e : p.1 = k) : valV (p :: r) k = some p.2 := by simp [valV, List.find?_cons, e]
theorem valV_neg {p : κ × V} {r : List (κ × V)} {k : κ} (e : ¬ p.1 = k) : valV (p :: r) k = valV r k := by simp [valV, List.find?_cons, e]
theorem valV_any (k : κ) : ∀ kvs : List (κ × V), (kvs.any fun kv => decide (kv.1 = k)) = (valV kvs k).isSome
  | [] => rfl
  | p :: r => by
    rw [List.any_cons]
    by_cases e : p.1 = k
    · simp only [valV_pos e, decide_eq_true e, Bool.true_or, Option.isSome_some]
    · rw [valV_neg e, decide_eq_false e, Bool.false_or]; exact valV_any k r
theorem valV_map (k j : κ) (y : V) : ∀ kvs : List (κ × V), valV (kvs.map fun kv => if kv.1 = k then (kv.1, y) else kv) j = (valV kvs j).map fun x => if j = k then y else x
  | [] => rfl
  | p :: r => by
    have ih := valV_map k j y r
    rw [List.map_cons]
    by_cases h : p.1 = k
    · rw [if_pos h]
      by_cases e : p.1 = j
      · rw [valV_pos (p := (p.1, y)) e, valV_pos e, Option.map_some, if_pos (e.symm.trans h)]
      · rw [valV_neg (p := (p.1, y)) e, valV_neg e, ih]
    · rw [if_neg h]
      by_cases e : p.1 = j
      · rw [valV_pos (p := p) e, valV_pos e, Option.map_some, if_neg (fun z => h (e.trans z))]
      · rw [valV_neg (p := p) e, valV_neg e, ih]
theorem valV_snoc (k j : κ) (y : V) : ∀ kvs : List (κ × V), valV kvs k = none → valV (kvs ++ [(k, y)]) j = if j = k then some y else valV kvs j
  | [], _ => by
    by_cases e : k = j
    · rw [if_pos e.symm]; exact valV_pos (p := (k, y)) e
    · rw [if_neg (fun z => e z.symm)]; exact valV_neg (p := (k, y)) e
  | p :: r, hn => by
    rw [List.cons_append]
    have hk : ¬ p.1 = k := fun z => by rw [valV_pos z] at hn; cases hn
    rw [valV_neg hk] at hn
    have ih := valV_snoc k j y r hn
    by_cases e : p.1 = j
    · rw [valV_pos e, valV_pos e, if_neg (fun z => hk (e.trans z))]
    · rw [valV_neg e, valV_neg e, ih]
theorem valV_put (kvs : List (κ × V)) (k j : κ) (y : V) : valV (putK kvs k y) j = if j = k then some y else valV kvs j := by
  unfold putK
  by_cases a : (kvs.any fun kv => decide (kv.1 = k)) = true
  · rw [if_pos a, valV_map]
    rw [valV_any] at a
    by_cases e : j = k
    · obtain ⟨x, hx⟩ := Option.isSome_iff_exists.mp a
      rw [if_pos e, e, hx, Option.map_some, if_pos rfl]
    · rw [if_neg e]
      cases valV kvs j with
      | none => rfl
      | some x => rw [Option.map_some, if_neg e]
  · rw [if_neg a]
    refine valV_snoc k j y kvs ?_
    rw [valV_any] at a
    cases q : valV kvs k with
    | none => rfl
    | some x => rw [q] at a; exact (a rfl).elim
theorem length_putK (kvs : List (κ × V)) (k : κ) (v : V) : (putK kvs k v).length ≤ kvs.length + 1 := by
  unfold putK
  split
  · rw [List.length_map]; omega
  · rw [List.length_append, List.length_cons, List.length_nil]; omega
theorem putK_new {kvs : List (κ × V)} {k : κ} (v : V) (h : valV kvs k = none) : putK kvs k v = kvs ++ [(k, v)] := by
  unfold putK
  rw [valV_any, h]
  exact if_neg (by decide)

theorem RelO.isSome_eq {o : Option V} {u : Option Value} (r : RelO o u) : o.isSome = u.isSome := by
  cases o with
  | none => cases u with
    | none => rfl
    | some _ => exact (show False from r).elim
  | some _ => cases u with
    | none => exact (show False from r).elim
    | some _ => rfl
theorem RelO.getD {o : Option V} {u : Option Value} {d : V} {d' : Value} (r : RelO o u) (rd : RelV d d') : RelV (o.getD d) (u.getD d') := by
  cases o with
  | none => cases u with
    | none => exact rd
    | some _ => exact (show False from r).elim
  | some _ => cases u with
    | none => exact (show False from r).elim
    | some _ => exact r


theorem KV.val {kvs : List (κ × V)} {vs : List (κ × Value)} (r : KV kvs vs) (k : κ) : RelO (valV kvs k) (valueAt vs k) := by
  unfold KV at r
  induction r with
  | nil => exact True.intro
  | @cons p q ps qs h t ih =>
    obtain ⟨h1, h2⟩ := h
    by_cases e : p.1 = k
    · have e' : q.1 = k := h1.symm.trans e
      have b : valueAt (q :: qs) k = some q.2 := by simp [valueAt, List.find?_cons, e']
      rw [valV_pos e, b]; exact h2
    · have e' : ¬ q.1 = k := fun z => e (h1.trans z)
      have b : valueAt (q :: qs) k = valueAt qs k := by simp [valueAt, List.find?_cons, e']
      rw [valV_neg e, b]; exact ih
theorem KV.any {kvs : List (κ × V)} {vs : List (κ × Value)} (r : KV kvs vs) (k : κ) : (kvs.any fun kv => decide (kv.1 = k)) = vs.any fun kv => decide (kv.1 = k) := by
  unfold KV at r
  induction r with
  | nil => rfl
  | cons h t ih => rw [List.any_cons, List.any_cons, ih, h.1]
theorem KV.repl {kvs : List (κ × V)} {vs : List (κ × Value)} (r : KV kvs vs) (k : κ) {y : V} {u : Value} (ry : RelV y u) :
    KV (kvs.map fun kv => if kv.1 = k then (kv.1, y) else kv) (vs.map fun kv => if kv.1 = k then (kv.1, u) else kv) := by
  unfold KV at r ⊢
  induction r with
  | nil => exact .nil
  | @cons p q ps qs h t ih =>
    rw [List.map_cons, List.map_cons]
    refine .cons ?_ ih
    obtain ⟨h1, h2⟩ := h
    by_cases e : p.1 = k
    · rw [if_pos e, if_pos (h1.symm.trans e)]; exact ⟨h1, ry⟩
    · rw [if_neg e, if_neg (fun z => e (h1.trans z))]; exact ⟨h1, h2⟩
theorem KV.put {kvs : List (κ × V)} {vs : List (κ × Value)} (r : KV kvs vs) (k : κ) {y : V} {u : Value} (ry : RelV y u) : KV (putK kvs k y) (stored vs k u) := by
  unfold putK stored
  rw [r.any k]
  by_cases e : (vs.any fun kv => decide (kv.1 = k)) = true
  · rw [if_pos e, if_pos e]; exact r.repl k ry
  · rw [if_neg e, if_neg e]; exact Paired.snoc r ⟨rfl, ry⟩
theorem KV.drop {kvs : List (κ × V)} {vs : List (κ × Value)} (r : KV kvs vs) (k : κ) : KV (dropK kvs k) (without vs k) := by
  unfold KV at r ⊢
  unfold dropK without
  induction r with
  | nil => exact .nil
  | @cons p q ps qs h t ih =>
    obtain ⟨h1, h2⟩ := h
    rw [List.filter_cons, List.filter_cons]
    by_cases e : p.1 = k
    · have a : ¬ decide (p.1 ≠ k) = true := by simp [e]
      have b : ¬ decide (q.1 ≠ k) = true := by simp [h1.symm.trans e]
      rw [if_neg a, if_neg b]; exact ih
    · have e' : ¬ q.1 = k := fun z => e (h1.trans z)
      have a : decide (p.1 ≠ k) = true := by simp [e]
      have b : decide (q.1 ≠ k) = true := by simp [e']
      rw [if_pos a, if_pos b]; exact .cons ⟨h1, h2⟩ ih
theorem KV.keys {kvs : List (κ × V)} {vs : List (κ × Value)} (r : KV kvs vs) : kvs.map (·.1) = vs.map (·.1) := by
  unfold KV at r
  induction r with
  | nil => rfl
  | cons h t ih => rw [List.map_cons, List.map_cons, ih, h.1]
theorem KV.length {kvs : List (κ × V)} {vs : List (κ × Value)} (r : KV kvs vs) : kvs.length = vs.length := Paired.length r
end



theorem kV_is {P : Program} {w : World} {k : Key} {u : Value} (r : RelV (kV k) u) : (mixKind P w).is k u = true := by
  cases k with
  | inl i => obtain ⟨t, e⟩ := (show ∃ t, u = Value.int i t from r); subst e; exact mixKind_int P w i t
  | inr x => obtain ⟨t, e⟩ := (show ∃ t, u = Value.str x t from r); subst e; exact mixKind_str P w x t
theorem items_are {P : Program} {w : World} : ∀ {ks : List Key} {us : List Value}, Vals (ks.map kV) us → ItemsAre (mixKind P w) ks us
  | [], _, r => by rw [List.map_nil] at r; cases r; exact .nil
  | k :: ks, _, r => by
    rw [List.map_cons] at r
    cases r with
    | cons h t => exact .cons (kV_is h) (items_are t)


abbrev KT (H : Hp) : List (List Key × V) → List (List Key × Addr × Value) → Prop := Paired fun p q => p.1 = q.1 ∧ H q.2.1 = some (.tup (p.1.map kV)) ∧ RelV p.2 q.2.2
theorem KT.val {H : Hp} {kvs : List (List Key × V)} {xs : List (List Key × Addr × Value)} (r : KT H kvs xs) (k : List Key) : RelO (valV kvs k) ((atKey xs k).map (·.2)) := by
  induction r with
  | nil => exact True.intro
  | @cons p q ps qs h t ih =>
    obtain ⟨h1, _, h2⟩ := h
    by_cases e : p.1 = k
    · have e' : q.1 = k := h1.symm.trans e
      have b : atKey (q :: qs) k = some q.2 := by simp [atKey, List.find?_cons, e']
      rw [valV_pos e, b]; exact h2
    · have e' : ¬ q.1 = k := fun z => e (h1.trans z)
      have b : atKey (q :: qs) k = atKey qs k := by simp [atKey, List.find?_cons, e']
      rw [valV_neg e, b]; exact ih
theorem KT.repl {H : Hp} {kvs : List (List Key × V)} {xs : List (List Key × Addr × Value)} (r : KT H kvs xs) (k : List Key) {y : V} {u : Value} (ry : RelV y u) :
    KT H (kvs.map fun kv => if kv.1 = k then (kv.1, y) else kv) (xs.map (putAt k u)) := by
  induction r with
  | nil => exact .nil
  | @cons p q ps qs h t ih =>
    rw [List.map_cons, List.map_cons]
    refine .cons ?_ ih
    obtain ⟨h1, h2, h3⟩ := h
    unfold putAt
    by_cases e : p.1 = k
    · rw [if_pos e, if_pos (h1.symm.trans e)]; exact ⟨h1, h2, ry⟩
    · rw [if_neg e, if_neg (fun z => e (h1.trans z))]; exact ⟨h1, h2, h3⟩
theorem KT.put {H : Hp} {kvs : List (List Key × V)} {xs : List (List Key × Addr × Value)} (r : KT H kvs xs) (k : List Key) {b : Addr} {y : V} {u : Value} (hb : H b = some (.tup (k.map kV))) (ry : RelV y u) :
    KT H (putK kvs k y) (storedH xs k b u) := by
  have e : (kvs.any fun kv => decide (kv.1 = k)) = (atKey xs k).isSome := by
    rw [valV_any, (r.val k).isSome_eq, Option.isSome_map]
  unfold putK storedH
  rw [e]
  by_cases q : (atKey xs k).isSome = true
  · rw [if_pos q, if_pos q]; exact r.repl k ry
  · rw [if_neg q, if_neg q]; exact Paired.snoc r ⟨rfl, hb, ry⟩
theorem KT.keeps {H H' : Hp} {kvs : List (List Key × V)} {xs : List (List Key × Addr × Value)} (r : KT H kvs xs) (ht : ∀ b ys, H b = some (.tup ys) → H' b = some (.tup ys)) : KT H' kvs xs :=
  Paired.mapP r fun _ _ z => ⟨z.1, ht _ _ z.2.1, z.2.2⟩

section
variable {P : Program} {w : World} {H : Hp} {h : Heap} {a : Addr}
theorem rd_of {u : HO} (ok : HOk P w H h) (e : Rd H a u) : ObjOk P w H h a u := e.ok ok
theorem dk_rd {kvs : List (Key × V)} (ok : HOk P w H h) (e : Rd H a (.dK kvs)) : kvs.length ≤ sizeLine ∧ (a == sysModules) = false ∧ ∃ vs, KV kvs vs ∧ h.DictOf (mixKind P w) a vs :=
  show ObjOk P w H h a (.dK kvs) from rd_of ok e
theorem dk_of {kvs : List (Key × V)} (ok : HOk P w H h) (e : H a = some (.dK kvs)) : kvs.length ≤ sizeLine ∧ (a == sysModules) = false ∧ ∃ vs, KV kvs vs ∧ h.DictOf (mixKind P w) a vs := dk_rd ok (.inl e)

theorem key_of {ks : List Key} (ok : HOk P w H h) (e : H a = some (.tup (ks.map kV))) : (tupleKind (mixKind P w)).is h ks a := by
  obtain ⟨_, its, r, o, h1, h2, _, n, h3⟩ := (show ObjOk P w H h a (.tup (ks.map kV)) from ok a _ e)
  exact ⟨o, its.toArray, n, h1, h2, h3, by simpa using items_are r⟩
theorem dt_rd {kvs : List (List Key × V)} (ok : HOk P w H h) (e : Rd H a (.dT kvs)) : kvs.length ≤ sizeLine ∧ (a == sysModules) = false ∧
    ∃ xs, KT H kvs xs ∧ h.DictOfH (tupleKind (mixKind P w)) a xs := by
  obtain ⟨z, y, xs, r, o, es, ep, h1, h2, h3, h4, h5⟩ := (show ObjOk P w H h a (.dT kvs) from rd_of ok e)
  refine ⟨z, y, xs, r, o, es, ep, h1, h2, h3, h4, fun x hx => ?_, h5⟩
  have all : ∀ {l : List (List Key × V)} {m : List (List Key × Addr × Value)}, KT H l m → ∀ x ∈ m, (tupleKind (mixKind P w)).is h x.1 x.2.1 := by
    intro l m q
    induction q with
    | nil => intro x hx; exact nomatch hx
    | @cons p q ps qs hq t ih =>
      intro x hx
      rcases List.mem_cons.mp hx with e | hx
      · subst e
        exact key_of ok (by rw [← hq.1]; exact hq.2.1)
      · exact ih x hx
  exact all r x hx
theorem dt_of {kvs : List (List Key × V)} (ok : HOk P w H h) (e : H a = some (.dT kvs)) : kvs.length ≤ sizeLine ∧ (a == sysModules) = false ∧
    ∃ xs, KT H kvs xs ∧ h.DictOfH (tupleKind (mixKind P w)) a xs := dt_rd ok (.inl e)
end


def DGet (H : Hp) (a : Addr) (y : V) (r : Option V) : Prop :=
  (∃ kvs k, Rd H a (.dK kvs) ∧ y = kV k ∧ r = valV kvs k) ∨ ∃ kvs k b, Rd H a (.dT kvs) ∧ y = .ref b ∧ H b = some (.tup (k.map kV)) ∧ r = valV kvs k

def DPut (H : Hp) (a : Addr) (y v : V) (H' : Hp) : Prop :=
  (∃ kvs k, H a = some (.dK kvs) ∧ y = kV k ∧ kvs.length < sizeLine ∧ H' = upd H a (.dK (putK kvs k v))) ∨
  ∃ kvs k b, H a = some (.dT kvs) ∧ y = .ref b ∧ H b = some (.tup (k.map kV)) ∧ kvs.length < sizeLine ∧ H' = upd H a (.dT (putK kvs k v))
theorem DGet.k {H : Hp} {a : Addr} {kvs : List (Key × V)} {k : Key} (e : H a = some (.dK kvs)) : DGet H a (kV k) (valV kvs k) := .inl ⟨kvs, k, .inl e, rfl, rfl⟩
theorem DGet.t {H : Hp} {a b : Addr} {kvs : List (List Key × V)} {k : List Key} (e : H a = some (.dT kvs)) (eb : H b = some (.tup (k.map kV))) : DGet H a (.ref b) (valV kvs k) := .inr ⟨kvs, k, b, .inl e, rfl, eb, rfl⟩
theorem DPut.k {H : Hp} {a : Addr} {kvs : List (Key × V)} {k : Key} {v : V} (e : H a = some (.dK kvs)) (hl : kvs.length < sizeLine) : DPut H a (kV k) v (upd H a (.dK (putK kvs k v))) := .inl ⟨kvs, k, e, rfl, hl, rfl⟩
theorem DPut.t {H : Hp} {a b : Addr} {kvs : List (List Key × V)} {k : List Key} {v : V} (e : H a = some (.dT kvs)) (eb : H b = some (.tup (k.map kV))) (hl : kvs.length < sizeLine) :
    DPut H a (.ref b) v (upd H a (.dT (putK kvs k v))) := .inr ⟨kvs, k, b, e, rfl, eb, hl, rfl⟩


section
variable {X : Cx} {pins : List (Addr × Obj)} {σ : St} {H : Hp} {s : Shared} {a : Addr} {y v : V} {u r : Value} {o : Option V} {A : Around} {E : Value → Shared → Prop}

theorem Inv.big (I : Inv X pins σ H s) : sysModules < s.heap.objs.size := by
  have h : mainGlobals < s.heap.objs.size := (I.mod.glob.keeps I.bk).lt
  exact Nat.lt_trans (by decide) h


theorem d_getItem {Q : Value → Shared → Prop} (hu : A.units + 1 < cLine) (I : Inv X pins σ H s) (g : DGet H a y (some v)) (ry : RelV y u) (h : ∀ w' s', Inv X pins σ H s' → RelV v w' → Q w' s') :
    wpAny (model X.prog X.w) A (getItem (.ref a) u) Q E s := by
  rcases g with ⟨kvs, k, e, ey, l⟩ | ⟨kvs, k, b, e, ey, eb, l⟩
  · subst ey
    obtain ⟨z, hd, vs, rel, dd⟩ := dk_rd I.hok e
    obtain ⟨w', hw, rw'⟩ := RelO.some_of (v := v) (o := valueAt vs k) (by rw [l]; exact rel.val k)
    exact wpAny_getItem_of (kV_is ry) dd.mapOf hw (h w' _ (I.tok _) rw')
  · subst ey
    cases (show u = Value.ref b from ry)
    obtain ⟨z, hd, xs, rel, dd⟩ := dt_rd I.hok e
    obtain ⟨w', hw, rw'⟩ := RelO.some_of (v := v) (o := (atKey xs k).map (·.2)) (by rw [l]; exact rel.val k)
    obtain ⟨p, hp, hp2⟩ := Option.map_eq_some_iff.mp hw
    refine wpAny_getItem_heap (tupleKind_room_in1 hu) (key_of I.hok eb) dd hp ?_
    rw [hp2]
    exact h w' _ (I.tok _) rw'

theorem d_in {Q : Value → Shared → Prop} (hu : A.units + 1 < cLine) (I : Inv X pins σ H s) (g : DGet H a y o) (ry : RelV y u) (h : ∀ s', Inv X pins σ H s' → Q (.bool o.isSome) s') :
    wpAny (model X.prog X.w) A (compareOp .In u (.ref a)) Q E s := by
  rcases g with ⟨kvs, k, e, ey, l⟩ | ⟨kvs, k, b, e, ey, eb, l⟩
  · subst ey
    obtain ⟨z, hd, vs, rel, dd⟩ := dk_rd I.hok e
    refine wpAny_in_of (kV_is ry) hd dd.mapOf ?_
    rw [← (rel.val k).isSome_eq, ← l]
    exact h _ (I.tok _)
  · subst ey
    cases (show u = Value.ref b from ry)
    obtain ⟨z, hd, xs, rel, dd⟩ := dt_rd I.hok e
    refine wpAny_in_heap (tupleKind_room_in1 hu) (key_of I.hok eb) hd dd ?_
    have q := (rel.val k).isSome_eq
    rw [Option.isSome_map] at q
    rw [← q, ← l]
    exact h _ (I.tok _)
theorem d_notIn {Q : Value → Shared → Prop} (hu : A.units + 1 < cLine) (I : Inv X pins σ H s) (g : DGet H a y o) (ry : RelV y u) (h : ∀ s', Inv X pins σ H s' → Q (.bool (!o.isSome)) s') :
    wpAny (model X.prog X.w) A (compareOp .NotIn u (.ref a)) Q E s := by
  rcases g with ⟨kvs, k, e, ey, l⟩ | ⟨kvs, k, b, e, ey, eb, l⟩
  · subst ey
    obtain ⟨z, hd, vs, rel, dd⟩ := dk_rd I.hok e
    refine wpAny_notIn_of (kV_is ry) hd dd.mapOf ?_
    rw [← (rel.val k).isSome_eq, ← l]
    exact h _ (I.tok _)
  · subst ey
    cases (show u = Value.ref b from ry)
    obtain ⟨z, hd, xs, rel, dd⟩ := dt_rd I.hok e
    refine wpAny_notIn_heap (tupleKind_room_in1 hu) (key_of I.hok eb) hd dd ?_
    have q := (rel.val k).isSome_eq
    rw [Option.isSome_map] at q
    rw [← q, ← l]
    exact h _ (I.tok _)

theorem d_write {h' : Heap} {t' : Nat} {ob : HO} (I : Inv X pins σ H s) (mu : Mut (H a)) (hs : Heap.SameBut a s.heap h') (he : ∃ q, h'.get? a = some q) (new : ObjOk X.prog X.w (upd H a ob) h' a ob) :
    Inv X pins σ (upd H a ob) { s with heap := h', toks := t' } :=
  I.write (x := a) (e := a) mu (.inl rfl) (fun b q hb z => (hs.2 b hb).trans z) he new
theorem dk_new {P : Program} {w : World} {H' : Hp} {h' : Heap} {kvs : List (Key × V)} {vs : List (Key × Value)} (z : kvs.length ≤ sizeLine) (hd : (a == sysModules) = false) (rel : KV kvs vs) (dd : h'.DictOf (mixKind P w) a vs) :
    ObjOk P w H' h' a (.dK kvs) := ⟨z, hd, vs, rel, dd⟩

theorem d_setItem {H' : Hp} {Q : Unit → Shared → Prop} (hu : A.units + 1 < cLine) (I : Inv X pins σ H s) (g : DPut H a y v H') (ry : RelV y u) (rv : RelV v r) (h : ∀ s', Inv X pins σ H' s' → Q () s') :
    wpAny (model X.prog X.w) A (setItem (.ref a) u r) Q E s := by
  rcases g with ⟨kvs, k, e, ey, l, eH⟩ | ⟨kvs, k, b, e, ey, eb, l, eH⟩
  · subst ey eH
    obtain ⟨z, hd, vs, rel, dd⟩ := dk_of I.hok e
    have hz : vs.length ≤ sizeLine := by rw [← rel.length]; exact z
    have hl : (putK kvs k v).length ≤ sizeLine := by have := length_putK kvs k v; omega
    refine wpAny_setItem_pairs (hsz := hz) (kV_is ry) dd fun h' dd' hs => h _ ?_
    have he : ∃ q, h'.get? a = some q := let ⟨q, _, _, hq, _⟩ := dd'; ⟨q, hq⟩
    exact d_write I (by rw [e]; exact True.intro) hs he (dk_new hl hd (rel.put k rv) dd')
  · subst ey eH
    cases (show u = Value.ref b from ry)
    obtain ⟨z, hd, xs, rel, dd⟩ := dt_of I.hok e
    have hz : xs.length ≤ sizeLine := by rw [← Paired.length rel]; exact z
    have hl : (putK kvs k v).length ≤ sizeLine := by have := length_putK kvs k v; omega
    refine wpAny_setItem_heap (hsz := hz) (tupleKind_room_in1 hu) (key_of I.hok eb) dd fun h' dd' hs => h _ ?_
    obtain ⟨q, es, ep, hq, h2, h3, h4, _, h5⟩ := dd'
    refine d_write I (by rw [e]; exact True.intro) hs ⟨q, hq⟩ ⟨hl, hd, _, (rel.put k eb rv).keeps fun c ys ec => ?_, q, es, ep, hq, h2, h3, h4, h5⟩
    rw [upd_ne (ne_of ec e (fun z => nomatch z))]
    exact ec
end

section
variable {X : Cx} {pins : List (Addr × Obj)} {σ : St} {H : Hp} {s : Shared} {a : Addr} {kvs : List (Key × V)} {k : Key} {u : Value} {A : Around} {E : Value → Shared → Prop}

end




def NoSl (i : Expr) : Prop := ∀ ov iv, subscripted i false ov iv = operate [ov, iv] (getItem ov iv)
theorem subD_of {prog : Program} {w : World} {A : Around} {E : Value → Shared → Prop} {s : Shared} {env : Env} {value slice : Expr} {pos : Pos} {T id : String} {Q : Value → Shared → Prop}
    (hl : typeLookup (.type T) "__getitem__" = pure (some (.builtin id))) (hs : NoSl slice)
    (h : wpAny (model prog w) A (eval value env) (fun o s₁ => wpAny (model prog w) A (eval slice env) (fun i s₂ => s₂.TypeIs o T ∧ wpAny (model prog w) A (getItem o i) Q E s₂) E s₁) E s) :
    wpAny (model prog w) A (eval (.Subscript value slice pos) env) Q E s := by
  refine Subscript_ (wpAny_mono h (fun o s₁ h₁ => wpAny_mono h₁ (fun i s₂ h₂ => ?_) fun _ _ x => x) fun _ _ x => x)
  obtain ⟨hT, h₂⟩ := h₂
  unfold subscriptTail
  refine wpAny_bind ?_
  rw [getitemInPython_of_ne hT.not_modules]
  refine wpAny_bind (wpAny_specialOf hT hl ?_)
  have fin : wpAny (model prog w) A (subscripted slice false o i) (fun r s₃ => wpAny (model prog w) A (letTemporaryGo value o r >>= fun _ => pure r) Q E s₃) E s₂ := by
    rw [hs o i]
    exact wpAny_operating (wpAny_mono h₂ (fun r s₃ h₃ => wpAny_bind (wpAny_letTemporaryGo (wpAny_pure h₃))) fun _ _ x => x)
  first
    | exact wpAny_pure (wpAny_bind fin)
    | exact wpAny_bind (wpAny_pure (wpAny_bind fin))
    | exact wpAny_bind fin

theorem dict_typeIs {X : Cx} {pins : List (Addr × Obj)} {σ : St} {H : Hp} {s : Shared} {a : Addr} {y : V} {o : Option V} (I : Inv X pins σ H s) (g : DGet H a y o) : s.TypeIs (.ref a) "dict" := by
  rcases g with ⟨kvs, k, e, _, _⟩ | ⟨kvs, k, b, e, _, _, _⟩
  · obtain ⟨_, _, vs, _, dd⟩ := dk_rd I.hok e
    exact dd.typeIs
  · obtain ⟨_, _, xs, _, dd⟩ := dt_rd I.hok e
    exact dd.typeIs
def tDGet (td ty : TE) : TE := fun σ H Q => td σ H fun x H1 => ty σ H1 fun y H2 => ∃ a v, x = .ref a ∧ DGet H2 a y (some v) ∧ Q v H2

def tDIn (ty td : TE) : TE := fun σ H Q => ty σ H fun y H1 => td σ H1 fun x H2 => ∃ a o, x = .ref a ∧ DGet H2 a y o ∧ Q (.bl o.isSome) H2
def tDNotIn (ty td : TE) : TE := fun σ H Q => ty σ H fun y H1 => td σ H1 fun x H2 => ∃ a o, x = .ref a ∧ DGet H2 a y o ∧ Q (.bl (!o.isSome)) H2

def sDPut (td ty tv : TE) : TS := fun D σ H => tv σ H fun v H1 => td σ H1 fun x H2 => ty σ H2 fun y H3 => ∃ a H4, x = .ref a ∧ DPut H3 a y v H4 ∧ D.nx σ H4

def sDAug (td ty tv : TE) (rd : V → V → Hp → VK → Prop) : TS := fun D σ H => td σ H fun x H1 => ty σ H1 fun y H2 => ∃ a v, x = .ref a ∧ DGet H2 a y (some v) ∧
  tv σ H2 fun y2 H3 => rd v y2 H3 fun z H4 => ∃ H5, DPut H4 a y z H5 ∧ D.nx σ H5

def sDDel (td ty : TE) : TS := fun D σ H => td σ H fun x H1 => ty σ H1 fun y H2 => ∃ a kvs k, x = .ref a ∧ H2 a = some (.dK kvs) ∧ y = kV k ∧ (valV kvs k).isSome = true ∧ D.nx σ (upd H2 a (.dK (dropK kvs k)))

section
variable {X : Cx} {o i e value : Expr} {pos pos' tpos : Pos} {td ty tv : TE}
theorem pe_dget (hu : X.A.units + 1 < cLine) (ho : PE X o td) (hi : PE X i ty) (hs : NoSl i) : PE X (.Subscript o i pos) (tDGet td ty) := by
  intro pins s σ H Q I h
  refine subD_of PySem.F.slot_dict_getitem.lookup hs (thn (ho pins s σ H _ I h) fun u s1 ⟨x, H1, I1, rx, q1⟩ => thn (hi pins s1 σ H1 _ I1 q1) fun iv s2 ⟨y, H2, I2, ry, a, v, ex, g, q2⟩ => ?_)
  subst ex
  obtain rfl : u = Value.ref a := rx
  exact ⟨dict_typeIs I2 g, d_getItem hu I2 g ry fun w' s3 I3 rw' => ⟨v, H2, I3, rw', q2⟩⟩
theorem ps_dput (hu : X.A.units + 1 < cLine) (ho : PE X o td) (hi : PE X i ty) (hv : PE X value tv) (hs : swapsWith value (some (.Subscript o i pos')) pos.line X.env = pure false) :
    PS X (.Assign [.Subscript o i pos'] value pos) (sDPut td ty tv) := by
  intro pins s σ H D I h
  refine wpAny_Assign_Subscript (thn (hv pins s σ H _ I h) fun r s1 ⟨v, H1, I1, rv, q1⟩ => thn (ho pins s1 σ H1 _ I1 q1) fun u s2 ⟨x, H2, I2, rx, q2⟩ => thn (hi pins s2 σ H2 _ I2 q2) fun iv s3 ⟨y, H3, I3, ry, a, H4, ex, g, q3⟩ => ?_) hs
  subst ex
  obtain rfl : u = Value.ref a := rx
  exact d_setItem hu I3 g ry rv fun s4 I4 => ⟨σ, H4, I4, q3⟩
end



theorem dk_empty {P : Program} {w : World} {H : Hp} (h : Heap) (hb : sysModules < h.objs.size) : ObjOk P w H (h.push { cls := .type "dict", data := .dict #[] }) h.objs.size (.dK []) :=
  ⟨Nat.zero_le _, beq_eq_false_iff_ne.mpr (Ne.symm (Nat.ne_of_lt hb)), [], .nil, Heap.DictOf.new h⟩
def tDNewK : TE := fun _ H Q => ∀ p, H p = none → Q (.ref p) (upd H p (.dK []))
def tDNewT : TE := fun _ H Q => ∀ p, H p = none → Q (.ref p) (upd H p (.dT []))
section
variable {X : Cx} {pos : Pos}
theorem pe_dnewK : PE X (.Dict [] [] pos) tDNewK := fun pins s σ H Q I h =>
  wpAny_Dict_empty ⟨.ref s.heap.objs.size, _, I.laid (a := s.heap.objs.size) (o := .dK []) (t' := s.toks) (fun _ _ q => Heap.get?_push_of_some _ q) (Nat.le_refl _) (dk_empty s.heap I.big), rfl, h _ (I.hok.fresh (Nat.le_refl _))⟩
end


def tPairs : List (TE × TE) → St → Hp → (List (V × V) → Hp → Prop) → Prop
  | [], _, H, Q => Q [] H
  | (tk, tv) :: r, σ, H, Q => tk σ H fun x H1 => tv σ H1 fun y H2 => tPairs r σ H2 fun ps H3 => Q ((x, y) :: ps) H3
abbrev VV : List (V × V) → List (Value × Value) → Prop := Paired fun p q => RelV p.1 q.1 ∧ RelV p.2 q.2
def PPs (X : Cx) (pos : Pos) (keys : List (Option Expr)) (values : List Expr) (trs : List (TE × TE)) : Prop :=
  ∀ (pins : List (Addr × Obj)) (s : Shared) (σ : St) (H : Hp) (Q : List (V × V) → Hp → Prop), Inv X pins σ H s → tPairs trs σ H Q →
    wpAny (model X.prog X.w) X.A (evalPairs (pairTrees keys values X.env pos)) (fun vs s' => ∃ ps H', Inv X pins σ H' s' ∧ VV ps vs ∧ Q ps H') X.xe s
def mergeK (kvs more : List (Key × V)) : List (Key × V) := more.foldl (fun acc kv => putK acc kv.1 kv.2) kvs
def tDisp (trs : List (TE × TE)) : TE := fun σ H Q => ∀ p, H p = none → tPairs trs σ (upd H p (.dK [])) fun ps H2 => H2 p = some (.dK []) ∧ ∃ kvs : List (Key × V), ps = kvs.map (fun kv => (kV kv.1, kv.2)) ∧ kvs.length ≤ 15 ∧ Q (.ref p) (upd H2 p (.dK (mergeK [] kvs)))
structure M1 (X : Cx) (o : Expr) (m : Str) (apos : Pos) (e : Expr) (cpos : Pos) : Prop where
  base : attributeBase o m X.env (eval o X.env) = eval o X.env
  few : ((backTo cpos (starEach [e] X.env)).all (fun x => !x.1) && (backToKw cpos (keywordEach [] X.env)).all (fun x => x.1.isSome)
    && decide (([e] : List Expr).length + ([] : List Keyword).length + (if ([] : List Keyword).isEmpty then 0 else 1) < 30)) = true
  line : (apos.endLine == cpos.line) = true
  trees : backTo cpos (starEach [e] X.env) = [(false, eval e X.env)]
structure M2 (X : Cx) (o : Expr) (m : Str) (apos : Pos) (e f : Expr) (cpos : Pos) : Prop where
  base : attributeBase o m X.env (eval o X.env) = eval o X.env
  few : ((backTo cpos (starEach [e, f] X.env)).all (fun x => !x.1) && (backToKw cpos (keywordEach [] X.env)).all (fun x => x.1.isSome)
    && decide (([e, f] : List Expr).length + ([] : List Keyword).length + (if ([] : List Keyword).isEmpty then 0 else 1) < 30)) = true
  line : (apos.endLine == cpos.line) = true
  trees : backTo cpos (starEach [e, f] X.env) = [(false, eval e X.env), (false, eval f X.env)]


def IsD (H : Hp) (a : Addr) : Prop := (∃ kvs, Rd H a (.dK kvs)) ∨ ∃ kvs, Rd H a (.dT kvs)
section
variable {X : Cx} {pins : List (Addr × Obj)} {σ : St} {H : Hp} {s : Shared} {a : Addr} {y d : V} {u r : Value} {o : Option V} {A : Around} {E : Value → Shared → Prop}

end

def tDGet1 (td ty : TE) : TE := fun σ H Q => td σ H fun x H1 => ∃ a, x = .ref a ∧ IsD H1 a ∧ ty σ H1 fun y H2 => ∃ o, DGet H2 a y o ∧ Q (o.getD .non) H2
def tDGet2 (td ty tx : TE) : TE := fun σ H Q => td σ H fun x H1 => ∃ a, x = .ref a ∧ IsD H1 a ∧ ty σ H1 fun y H2 => tx σ H2 fun z H3 => ∃ o, DGet H3 a y o ∧ Q (o.getD z) H3

def tDPop1 (td ty : TE) : TE := fun σ H Q => td σ H fun x H1 => ∃ a, x = .ref a ∧ IsD H1 a ∧ ty σ H1 fun y H2 => ∃ kvs k v, H2 a = some (.dK kvs) ∧ y = kV k ∧ valV kvs k = some v ∧ Q v (upd H2 a (.dK (dropK kvs k)))
def tDPop2 (td ty tx : TE) : TE := fun σ H Q => td σ H fun x H1 => ∃ a, x = .ref a ∧ IsD H1 a ∧ ty σ H1 fun y H2 => tx σ H2 fun z H3 => ∃ kvs k, H3 a = some (.dK kvs) ∧ y = kV k ∧
  (∀ v, valV kvs k = some v → Q v (upd H3 a (.dK (dropK kvs k)))) ∧ (valV kvs k = none → Q z H3)
section
variable {X : Cx} {o e f : Expr} {apos cpos : Pos} {td ty tx : TE}
end


section
variable {X : Cx} {pins : List (Addr × Obj)} {σ : St} {H : Hp} {s : Shared} {a : Addr} {kvs : List (Key × V)} {A : Around} {E : Value → Shared → Prop}
end


section
variable {X : Cx} {pins : List (Addr × Obj)} {σ : St} {H : Hp} {s : Shared} {a : Addr} {y : V} {u : Value} {A : Around} {E : Value → Shared → Prop}

end
end L2
namespace L2
open PySem PySem.Spec PyProof.Rows
section
variable {X : Cx}
end
end L2

set_option Elab.async false
set_option linter.all false
set_option maxRecDepth 100000
set_option maxHeartbeats 4000000

namespace L2
open PySem PySem.Spec PyProof.Rows PySem.SeqAt

def cK (ms : List (Int × Int)) : List (Key × V) := ms.map fun p => (Sum.inl p.1, V.int p.2)
def lookI (ms : List (Int × Int)) (k : Int) : Option Int := (ms.find? fun p => decide (p.1 = k)).map (·.2)
def eqC (a b : List (Int × Int)) : Bool := decide (a = b) || (a.length == b.length && a.all fun p => decide (lookI b p.1 = some p.2))
inductive IEnts : List DictEntry → List (Int × Int) → Prop
  | nil : IEnts [] []
  | cons {e : DictEntry} {k v : Int} {es : List DictEntry} {ms : List (Int × Int)} {t t' : Tok} : e.key = .int k t → e.hash = hashInt k → e.val = .int v t' → IEnts es ms → IEnts (e :: es) ((k, v) :: ms)
theorem IEnts.length {es : List DictEntry} {ms : List (Int × Int)} (h : IEnts es ms) : es.length = ms.length := by
  induction h with
  | nil => rfl
  | cons _ _ _ _ ih => simp [ih]
theorem IEnts.get {es : List DictEntry} {ms : List (Int × Int)} (h : IEnts es ms) : ∀ {i : Nat} {e : DictEntry}, es[i]? = some e → ∃ k v t t', ms[i]? = some (k, v) ∧ e.key = .int k t ∧ e.hash = hashInt k ∧ e.val = .int v t' := by
  induction h with
  | nil => intro i e q; simp at q
  | @cons e0 k v es ms t t' h1 h2 h3 _ ih =>
    intro i e q
    cases i with
    | zero =>
      have : e0 = e := by simpa using q
      subst this
      exact ⟨k, v, t, t', by simp, h1, h2, h3⟩
    | succ i =>
      obtain ⟨k', v', t1, t2, q1, q2⟩ := ih (i := i) (e := e) (by simpa using q)
      exact ⟨k', v', t1, t2, by simpa using q1, q2⟩
structure IDict (h : Heap) (a : Addr) (ms : List (Int × Int)) : Prop where
  ex : ∃ o es ep, h.get? a = some o ∧ o.ExactDict ∧ o.data = .dict es ep ∧ IEnts es.toList ms
  sys : (a == sysModules) = false
  nd : (ms.map (·.1)).Nodup
theorem IDict.typeIs {s : Shared} {a : Addr} {ms : List (Int × Int)} (x : IDict s.heap a ms) : s.TypeIs (.ref a) "dict" := let ⟨o, _, _, ho, hc, _⟩ := x.ex; ⟨o, ho, hc.1⟩
end L2

set_option Elab.async false
set_option linter.all false
set_option maxRecDepth 100000
set_option maxHeartbeats 4000000

namespace L2
open PySem PySem.Spec PyProof.Rows
section
variable {prog : Program} {w : World} {A : Around} {E : Value → Shared → Prop}
variable {KT : Type} [DecidableEq KT] {knd : KeyKind prog w KT}

def But2 (d it : Addr) (h0 h : Heap) : Prop := ∀ b o, b ≠ d → b ≠ it → h0.get? b = some o → h.get? b = some o
end

end L2
namespace L2
open PySem PySem.Spec PyProof.Rows PySem.SeqAt
end L2

set_option Elab.async false
set_option linter.all false
set_option maxRecDepth 100000
set_option maxHeartbeats 4000000

namespace L2
open PySem PySem.Spec PyProof.Rows

section
variable {X : Cx} {pins : List (Addr × Obj)} {σ : St} {H : Hp} {s : Shared} {a : Addr} {kvs : List (Key × V)}
end


def tFrz (t : TE) : TE := fun σ H Q => t σ H Q ∨ ∃ (a : Addr) (kvs : List (Key × V)), H a = some (.dK kvs) ∧ ((kvs.map (·.1)).Nodup → ∀ o : Obj, t σ (upd H a (.frz o (.dK kvs))) fun v H' => H' a = some (.frz o (.dK kvs)) ∧ Q v (upd H' a (.dK kvs)))
def sFrz (t : TS) : TS := fun D σ H => t D σ H ∨ ∃ (a : Addr) (kvs : List (Key × V)), H a = some (.dK kvs) ∧ ((kvs.map (·.1)).Nodup → ∀ o : Obj, t ⟨fun σ' H' => H' a = some (.frz o (.dK kvs)) ∧ D.nx σ' (upd H' a (.dK kvs)), fun v H' => H' a = some (.frz o (.dK kvs)) ∧ D.rt v (upd H' a (.dK kvs)),
  fun σ' H' => H' a = some (.frz o (.dK kvs)) ∧ D.bk σ' (upd H' a (.dK kvs)), fun σ' H' => H' a = some (.frz o (.dK kvs)) ∧ D.ct σ' (upd H' a (.dK kvs))⟩ σ (upd H a (.frz o (.dK kvs))))
theorem KV.getV : ∀ {kvs : List (Key × V)} {vs : List (Key × Value)} {i : Nat} {k : Key} {v : V}, KV kvs vs → kvs[i]? = some (k, v) → ∃ u, vs[i]? = some (k, u) ∧ RelV v u
  | _, _, i, k, v, .nil, e => by simp at e
  | _, _, 0, k, v, .cons (b := q) r t, e => by
    simp only [List.getElem?_cons_zero, Option.some.injEq] at e
    subst e
    obtain ⟨k', u⟩ := q
    have e1 : k = k' := r.1
    subst e1
    exact ⟨u, by simp, r.2⟩
  | _, _, i + 1, k, v, .cons r t, e => by
    obtain ⟨u, e1, e2⟩ := KV.getV (i := i) t (by simpa using e)
    exact ⟨u, by simpa using e1, e2⟩
def Itm (d : Addr) (o : Obj) : It :=
  ⟨fun i H => ∃ kvs k v, H d = some (.frz o (.dK kvs)) ∧ kvs[i]? = some (k, v),
   fun i H x H' => ∃ p k v, H p = none ∧ x = .ref p ∧ H' = upd H p (.tup [kV k, v]) ∧ ∀ kvs, H d = some (.frz o (.dK kvs)) → kvs[i]? = some (k, v),
   fun i H => ∃ kvs, H d = some (.frz o (.dK kvs)) ∧ kvs.length ≤ i⟩
def iItems (td : TE) : TI := fun σ H R => td σ H fun x H1 => ∃ d o kvs, x = .ref d ∧ H1 d = some (.frz o (.dK kvs)) ∧ R (Itm d o) H1
def Itk (d : Addr) (o : Obj) : It :=
  ⟨fun i H => ∃ kvs k v, H d = some (.frz o (.dK kvs)) ∧ kvs[i]? = some (k, v),
   fun i H x H' => H' = H ∧ ∃ k v, x = kV k ∧ ∀ kvs, H d = some (.frz o (.dK kvs)) → kvs[i]? = some (k, v),
   fun i H => ∃ kvs, H d = some (.frz o (.dK kvs)) ∧ kvs.length ≤ i⟩
def iKeys (td : TE) : TI := fun σ H R => td σ H fun x H1 => ∃ d o kvs, x = .ref d ∧ H1 d = some (.frz o (.dK kvs)) ∧ R (Itk d o) H1
section
variable {g : TG} {tc : TT} {te : TE} {D : Addr} {Q : Hp → Prop} {τ : St} {H : Hp}
end
end L2

set_option Elab.async false
set_option linter.all false
set_option maxRecDepth 100000
set_option maxHeartbeats 4000000

namespace L2
open PySem PySem.Spec PyProof.Rows PySem.SeqAt
section
variable {X : Cx} {pins : List (Addr × Obj)} {σ : St} {H : Hp} {s : Shared} {a : Addr} {ms : List (Int × Int)}
end
def sameC (ms ns : List (Int × Int)) : Bool := ms.length == ns.length && ms.all fun p => decide (lookI ns p.1 = some p.2)
def rEqC : R2 := fun x y H Q => ∃ a b ms ns, x = .ref a ∧ y = .ref b ∧ Rd H a (.dK (cK ms)) ∧ Rd H b (.dK (cK ns)) ∧ Q (.bl (sameC ms ns)) H
section
variable {X : Cx} {n : Nat} {K : PySem.W.Frag}
def rEqCL (K : PySem.W.Frag) : R2 := fun x y H Q => ∃ (l m : Addr) (as bs : List Addr), x = .ref l ∧ y = .ref m ∧ SqL K H l (as.map V.ref) ∧ SqL K H m (bs.map V.ref) ∧ as.length = bs.length ∧
  (∀ (i : Nat) a b, as[i]? = some a → bs[i]? = some b → ∃ ms ns, Rd H a (.dK (cK ms)) ∧ Rd H b (.dK (cK ns)) ∧ sameC ms ns = true) ∧ Q (.bl true) H
end
end L2
namespace L2
open PySem PySem.Spec PyProof.Rows
theorem u1 {n c : Nat} (h : n + 8 < c) : n + 1 < c := by omega

def getI (ms : List (Int × Int)) (k : Int) : Int := (lookI ms k).getD 0
def putI (ms : List (Int × Int)) (k v : Int) : List (Int × Int) := if (ms.any fun p => decide (p.1 = k)) = true then ms.map (fun p => if p.1 = k then (p.1, v) else p) else ms ++ [(k, v)]
def dropI (ms : List (Int × Int)) (k : Int) : List (Int × Int) := ms.filter fun p => decide (p.1 ≠ k)
end L2

set_option Elab.async false
set_option linter.all false
set_option maxRecDepth 100000
set_option maxHeartbeats 4000000

namespace L2
open PySem PySem.Spec PyProof.Rows
structure RoomN (k : Nat) (A : Around) : Prop where
  dp : A.depth + 3 * k + 5 < recursionLimit
  un : A.units + 16 * k + 200 < cLine
theorem RoomN.mono {j k : Nat} {A : Around} (r : RoomN k A) (h : j ≤ k) : RoomN j A := ⟨by have := r.dp; omega, by have := r.un; omega⟩
theorem RoomN.deeper {k : Nat} {A : Around} (r : RoomN (k + 1) A) (env : Env) : RoomN k (A.deeper env) :=
  ⟨by have := r.dp; show A.depth + 1 + 3 * k + 5 < _; omega, by have := r.un; show A.units + 3 + 16 * k + 200 < _; omega⟩
theorem RoomN.depth {k : Nat} {A : Around} (r : RoomN k A) : A.depth < recursionLimit := by have := r.dp; omega
theorem RoomN.units {k : Nat} {A : Around} (r : RoomN k A) : A.units + 64 < cLine := by have := r.un; omega
theorem Room.n {k : Nat} {A : Around} {v : Option Value} (r : Room k A) : RoomN k (A.mark v) := ⟨r.dp, r.un⟩
structure FnOkN (P : Program) (w : World) (K : PySem.W.Frag) (mg : Str → Option Value) (base : Heap) (k : Nat) (f : Addr) (fd : FuncData) (ps : List Str) (sp : Sp) : Prop where
  len : ∀ vs H Q E, sp vs H Q E → vs.length = ps.length
  run : ∀ (A : Around) (outer : List Env) (s : Shared) (H : Hp) (args : Args) (us : List Value) (vs : List V) (Q : VK) (E : XK), RoomN k A → Env0 P w K mg base A outer s H → BindsTo s fd args (ps.zip us) → Vals vs us → sp vs H Q E →
    codeAny (model P w) A (.call (.ref f) args) (CR CX0 outer P w H s Q E) s
abbrev cxN (P : Program) (w : World) (K : PySem.W.Frag) (mg : Str → Option Value) (base : Heap) (N : List Str) (qual : Str) (scope : Scope) (f : Addr) (cd : Value) (A : Around) (outer : List Env) (s : Shared) (H : Hp) (E : XK) : Cx :=
  { cxOf CX0 P w K mg base N qual scope f cd A outer s H E with calm := false, xe := fun _ _ => False }
section
variable {P : Program} {w : World} {K : PySem.W.Frag} {mg : Str → Option Value} {base : Heap}
end
structure HasN (P : Program) (w : World) (K : PySem.W.Frag) (mg : Str → Option Value) (base : Heap) (x : Str) (ps : List Str) (k : Nat) (sp : Sp) : Prop where
  ex : ∃ (f : Addr) (fd : FuncData), mg x = some (.ref f) ∧ PySem.W.keepIn K (.ref f) = true ∧ Binds K fd ps [] ∧ FnOkN P w K mg base k f fd ps sp
section
variable {X : Cx} {x : Str} {ps : List Str} {j k : Nat} {sp : Sp} {p pos : Pos} {e : Expr} {es : List Expr} {t : TA}
end
end L2

set_option Elab.async false
set_option linter.all false
set_option maxRecDepth 100000
set_option maxHeartbeats 4000000

namespace L2
open PySem PySem.Spec PyProof.Rows
def upN (n : Nat) : List Int := (List.range n).map fun (i : Nat) => (i : Int)
def tLRng (ta : TA) : TE := fun σ H Q => ta σ H fun vs H1 => ∃ n : Nat, vs = [.int (n : Int)] ∧ n ≤ 1000000 ∧ ∀ l, H1 l = none → Q (.ref l) (upd H1 l (.lst ((upN n).map V.int)))
end L2

set_option Elab.async false
set_option linter.all false
set_option maxRecDepth 100000
set_option maxHeartbeats 4000000

namespace L2
open PySem PySem.Spec PyProof.Rows
end L2

set_option Elab.async false
set_option linter.all false
set_option maxRecDepth 100000
set_option maxHeartbeats 4000000

namespace L2
open PySem PySem.Spec PyProof.Rows
def Itd (hi : Int) (n : Nat) : It := ⟨fun i _ => i < n, fun i H x H' => H' = H ∧ x = .int (hi - i), fun i _ => n ≤ i⟩
def iDown (ta : TA) : TI := fun σ H R => ta σ H fun vs H1 => ∃ (n : Nat), vs = [.int ((n : Int) - 1), .int (-1), .int (-1)] ∧ n ≤ 1000000 ∧ R (Itd ((n : Int) - 1) n) H1
def rInK : R2 := fun x y H Q => ∃ a kvs k, y = .ref a ∧ H a = some (.dK kvs) ∧ x = kV k ∧ Q (.bl (valV kvs k).isSome) H
theorem op_inK {X : Cx} (hu : X.A.units + 1 < cLine) : OpR X (compareOp .In) rInK := by
  intro pins s σ H x y v u Q I rx ry h
  obtain ⟨a, kvs, k, rfl, ha, rfl, q⟩ := h
  obtain rfl : u = Value.ref a := ry
  exact d_in hu I (.k ha) rx fun s3 I3 => ⟨.bl (valV kvs k).isSome, H, I3, rfl, q⟩
end L2

set_option Elab.async false
set_option linter.all false
set_option maxRecDepth 100000
set_option maxHeartbeats 4000000

namespace L2
open PySem PySem.Spec PyProof.Rows
section
variable {X : Cx} {K : PySem.W.Frag}
theorem op_le_str : OpR X (compareOp .LtE) (fun x y H Q => ∃ i j, x = .str i ∧ y = .str j ∧ Q (.bl (!decide (j.cps.toList < i.cps.toList))) H) := by
  intro pins s σ H x y v u Q I rx ry h
  obtain ⟨i, j, rfl, rfl, q⟩ := h
  obtain ⟨t, rfl⟩ := rx
  obtain ⟨t', rfl⟩ := ry
  exact PySem.P.le_str (fin_bl I q rfl)
theorem strs_vals : ∀ {ys : List Str} {us : List Value}, Vals (ys.map V.str) us → StrsAre us ys
  | [], _, h => by
    cases h
    exact .nil
  | y :: ys, _, h => by
    cases h with
    | cons r q =>
      obtain ⟨t, rfl⟩ := r
      exact .cons y t (strs_vals q)
theorem vals_strs : ∀ (l : List (Str × Tok)), Vals ((l.map (·.1)).map V.str) (strValues l)
  | [] => .nil
  | (y, t) :: l => .cons ⟨t, rfl⟩ (vals_strs l)
def rJoin (K : PySem.W.Frag) : V → List V → Hp → VK → Prop := fun x vs H Q => ∃ sep a ys, x = .str sep ∧ vs = [.ref a] ∧ SqL K H a (ys.map V.str) ∧ (ys.map (·.length)).sum + ys.length * sep.length ≤ 16777216 ∧ Q (.str (Txt.join sep ys)) H
theorem kmt_join (hK : X.K = K := by rfl) : MtM X "str.join" (rJoin K) := by
  subst hK
  intro pins s σ H x vs v us Q I rx rv h
  obtain ⟨sep, a, ys, rfl, rfl, hq, hz, q⟩ := h
  obtain ⟨t, rfl⟩ := rx
  obtain ⟨u, rfl, ru⟩ := rv.one
  cases ru
  obtain ⟨its, rl, p, _⟩ := I.list hq
  exact join_list p.isList (by simpa using strs_vals rl) hz fun t' k => ⟨.str (Txt.join sep ys), H, I.tok k, ⟨t', rfl⟩, q⟩
def rSplit : V → List V → Hp → VK → Prop := fun x vs H Q => ∃ z y, x = .str z ∧ vs = [.str y] ∧ (y.length == 0) = false ∧ z.length + 2 ≤ sizeLine ∧ ∀ l, H l = none → Q (.ref l) (upd H l (.lst ((Txt.split z y).map V.str)))
theorem kmt_split : MtM X "str.split" rSplit := by
  intro pins s σ H x vs v us Q I rx rv h
  obtain ⟨z, y, rfl, rfl, hy, hz, q⟩ := h
  obtain ⟨t, rfl⟩ := rx
  obtain ⟨u, rfl, ru⟩ := rv.one
  obtain ⟨t', rfl⟩ := ru
  have fin : ∀ (l : List (Str × Tok)) (k : Nat), l.map (·.1) = Txt.split z y → l.length ≤ sizeLine → EP X pins σ Q (.ref s.heap.objs.size) { s with heap := s.heap.push { cls := .type "list", data := .seq (strValues l).toArray }, toks := k } := fun l k e hl => by
    refine ⟨.ref s.heap.objs.size, upd H s.heap.objs.size (.lst ((Txt.split z y).map V.str)), I.laid (t' := k) (fun b u e => Heap.get?_push_of_some _ e) (Nat.le_refl _) ?_, rfl, q _ (I.hok.fresh (Nat.le_refl _))⟩
    rw [← e]
    exact ⟨by simpa using hl, strValues l, 0, vals_strs l, Heap.get?_push_size _ rfl⟩
  have hn : (Builtin.Str.partsBetween z (Builtin.Str.occurrences z y 0 z.length (z.length + 1)) y.length).length ≤ sizeLine := by
    have e1 := StrLaws.occ_length_le z y 0 z.length (z.length + 1)
    rw [length_partsBetween]; omega
  have one : [(z, t)].length ≤ sizeLine := by show 1 ≤ sizeLine; decide
  cases h1 : (decide (z.length < y.length) || decide (Builtin.Str.strKind z < Builtin.Str.strKind y))
  · cases hf : (Builtin.Str.occurrences z y 0 z.length (z.length + 1)).isEmpty
    · refine call_meets F.slot_str_split (typeIs_str _ _ _) F.entry_str_split (F.args_str_split_2 _ _) (meets_str_split_sep z y t t' h1 hy hf (by omega) hn) ?_
      show wants _ _ _ { s with toks := _, heap := s.heap.push { cls := .type "list", data := .seq (strsFrom s.toks (Builtin.Str.partsBetween z (Builtin.Str.occurrences z y 0 z.length (z.length + 1)) y.length)).toArray } }
      rw [strsFrom_eq]
      have e2 := numbered_texts s.toks (Builtin.Str.partsBetween z (Builtin.Str.occurrences z y 0 z.length (z.length + 1)) y.length)
      refine fin (numbered s.toks _) _ (e2.trans ((if_neg (ne_true_of_eq_false h1)).trans (if_neg (ne_true_of_eq_false hf))).symm) ?_
      have e3 := congrArg List.length e2
      rw [List.length_map] at e3
      rw [e3]
      exact hn
    · exact call_meets F.slot_str_split (typeIs_str _ _ _) F.entry_str_split (F.args_str_split_2 _ _) (meets_str_split_not_found z y t t' h1 hy hf)
        (fin [(z, t)] s.toks ((if_neg (ne_true_of_eq_false h1)).trans (if_pos hf)).symm one)
  · exact call_meets F.slot_str_split (typeIs_str _ _ _) F.entry_str_split (F.args_str_split_2 _ _) (meets_str_split_cannot_occur z y t t' h1)
      (fin [(z, t)] s.toks (if_pos h1).symm one)

def Its (x : Str) : It := ⟨fun i _ => i < x.cps.size, fun i H v H' => H' = H ∧ ∃ c, x.cps[i]? = some c ∧ v = .str ⟨#[c]⟩, fun i _ => x.cps.size ≤ i⟩
theorem turn_str {P : Program} {w : World} {K : PySem.W.Frag} {tg : Expr} (it : Addr) (x : Str) (t : Tok) : Turn P w K tg (Its x) [it] it (fun i h => h.IsStrIter it "str_ascii_iterator" x t i) where
  mem := by simp
  obj := fun i h st b hb => by
    have e : b = it := by simpa using hb
    subst e
    obtain ⟨o, e, c, d⟩ := st
    exact ⟨o, e, fun v z => by rw [d] at z; cases z⟩
  keep := fun i h h' st k => by
    obtain ⟨o, e, c, d⟩ := st
    exact ⟨o, k it (by simp) _ e, c, d⟩
  item := by
    intro X hP hw hK hc i pins s σ H E I hf st hg
    subst hP hw hK
    obtain ⟨f0, f1, f2, f3, f4, f5⟩ := hf it (by simp)
    have hi : i < x.cps.size := hg
    refine wpAny_pyNext_ascii_item st (c := x.cps[i]) (by simp [hi]) fun h' st' sb => ?_
    have I1 : Inv X pins σ H { s with heap := h', toks := s.toks + 1 } := I.turned (fun b o hb e => (sb.2 b hb).trans e) f0 f1 f3 f4 f5
    obtain ⟨o, e, c, d⟩ := id st'
    exact ⟨_, rfl, go_of (s := { s with heap := h', toks := s.toks + 1 }) e c d (by decide) ⟨.str ⟨#[x.cps[i]]⟩, H, I1, ⟨_, rfl⟩, ⟨rfl, _, by simp [hi], rfl⟩, st', fun b hb => (hf b hb).1⟩⟩
  done := by
    intro X hP hw hK hc i pins s σ H E I hf st hg
    subst hP hw hK
    obtain ⟨f0, f1, f2, f3, f4, f5⟩ := hf it (by simp)
    have hi : x.cps.size ≤ i := hg
    exact wpAny_pyNext_ascii_end (I.ok.hd hc) st (by simp [hi]) fun h' eb => ⟨rfl, I.turned (t' := s.toks) (fun b o hb e => eb b o hb e) f0 f1 f3 f4 f5⟩
  self := fun _ _ _ _ _ st h => wpAny_pyIter_striter_ascii st h
def iStr (tl : TE) : TI := fun σ H R => tl σ H fun v H1 => ∃ x, v = .str x ∧ x.cps.all (· < 128) = true ∧ R (Its x) H1
theorem pi_str {tg l : Expr} {tl : TE} (hl : PE X l tl) : PI X tg l (iStr tl) := by
  intro pins s σ H R I h
  refine thn (hl pins s σ H _ I h) fun v s1 ⟨x, H1, I1, r1, q1⟩ => ?_
  obtain ⟨z, rfl, ha, q⟩ := q1
  obtain ⟨t, rfl⟩ := r1
  refine wpAny_pyIter_ascii ha ?_
  refine ⟨s1.heap.objs.size, [s1.heap.objs.size], _, _, H1, rfl, I1.kept (t' := s1.toks) fun b o e => Heap.get?_push_of_some _ e, turn_str _ z t, ⟨_, Heap.get?_push_size _ rfl, rfl, rfl⟩, fun b hb => ?_, q⟩
  have e : b = s1.heap.objs.size := by simpa using hb
  subst e
  exact I1.fpOk (Nat.le_refl _) (I1.hok.fresh (Nat.le_refl _))
theorem comp_str {g : TG} {te : TE} {D : Addr} {Q : Hp → Prop} {τ : St} {H : Hp} {x : Str} (Pv : Nat → List V → St → Hp → Prop) (h0 : Pv 0 [] τ H)
    (hs : ∀ i c ys τ H, x.cps[i]? = some c → Pv i ys τ H → g (.str ⟨#[c]⟩) τ H fun τ2 H2 => te τ2 H2 fun y H4 => H4 D = some (.lst ys) ∧ ys.length < sizeLine ∧ Pv (i + 1) (ys ++ [y]) τ2 (upd H4 D (.lst (ys ++ [y]))))
    (hd : ∀ ys τ H, Pv x.cps.size ys τ H → Q H) : RunC (Its x) g tYes te D Q τ H := by
  refine ⟨fun i m ys τ H => m = x.cps.size - i ∧ i ≤ x.cps.size ∧ Pv i ys τ H, ⟨x.cps.size, by simp, Nat.zero_le _, h0⟩, ?_⟩
  rintro i m ys τ H ⟨rfl, hi, p⟩
  by_cases hlt : i < x.cps.size
  · refine .inr ⟨hlt, Pv (i + 1), fun ys' τ' H' p' => ⟨x.cps.size - (i + 1), by omega, rfl, hlt, p'⟩, fun v H' y => ?_⟩
    obtain ⟨e, c, hc, y⟩ := y
    subst e y
    exact hs i c ys τ _ hc p
  · have e : i = x.cps.size := by omega
    subst e
    exact .inl ⟨Nat.le_refl _, hd ys τ H p⟩
def slS (z : Str) (lo hi : Option Int) : Str := if ((Builtin.Str.strSliceIndices lo hi 1 z.length).length == z.length) = true then z else ⟨((Builtin.Str.strSliceIndices lo hi 1 z.length).filterMap (z.cps[·]?)).toArray⟩
def rSlS : V → Option Int → Option Int → Hp → VK → Prop := fun x lo hi H Q => ∃ z, x = .str z ∧ (slS z lo hi).length ≤ sizeLine ∧ Q (.str (slS z lo hi)) H
theorem part_tok {v : Value} {o : Option Int} (h : IsPart v o) : ∃ p : Option (Int × Tok), v = partValue p ∧ p.map (·.1) = o := by
  cases h with
  | none => exact ⟨none, rfl, rfl⟩
  | int i t => exact ⟨some (i, t), rfl, rfl⟩
theorem sl_str : SlR X rSlS := by
  intro pins s σ H x v vl vu lo hi sl Q I rx hs pl pu h
  obtain ⟨z, rfl, hz, q⟩ := h
  obtain ⟨t, rfl⟩ := rx
  obtain ⟨l, rfl, rfl⟩ := part_tok pl
  obtain ⟨u, rfl, rfl⟩ := part_tok pu
  refine ⟨"str", _, F.slot_str_getitem.lookup, typeIs_str _ _ _, ?_⟩
  refine wpAny_getItem_str_slice (l := l) (u := u) (st := none) hs rfl ?_
  unfold sliceMade slicePicked
  unfold slS at hz q
  simp only [Option.map_none, Option.getD_none, beq_self_eq_true, Bool.true_and]
  split
  · rename_i e
    rw [if_pos e] at q
    exact ⟨.str z, H, I, ⟨t, rfl⟩, q⟩
  · rename_i e
    rw [if_neg e] at q hz
    exact ⟨hz, ⟨.str _, H, I.tok _, ⟨_, rfl⟩, q⟩⟩

def rNotInK : R2 := fun x y H Q => ∃ a kvs k, y = .ref a ∧ H a = some (.dK kvs) ∧ x = kV k ∧ Q (.bl (!(valV kvs k).isSome)) H
theorem op_notInK (hu : X.A.units + 1 < cLine) : OpR X (compareOp .NotIn) rNotInK := by
  intro pins s σ H x y v u Q I rx ry h
  obtain ⟨a, kvs, k, rfl, ha, rfl, q⟩ := h
  obtain rfl : u = Value.ref a := ry
  exact d_notIn hu I (.k ha) rx fun s3 I3 => ⟨.bl (!(valV kvs k).isSome), H, I3, rfl, q⟩
end
end L2

set_option Elab.async false
set_option linter.all false
set_option maxHeartbeats 1000000

namespace Tx
open PySem PySem.Builtin PySem.Builtin.Str PySem.StrLaws

def J (y : List Nat) : List (List Nat) → List Nat
  | [] => []
  | [p] => p
  | p :: q :: r => p ++ (y ++ J y (q :: r))
theorem at_drop {x y : Str} {k : Nat} (h : At x y x.length k) : (x.cps.toList.drop k).take y.length = y.cps.toList := by
  have := h.2
  rw [subAt_eq] at this
  exact eq_of_beq this
theorem at_head {x y : Str} {k c0 : Nat} {ys : List Nat} (e : y.cps.toList = c0 :: ys) (h : At x y x.length k) : x.cps.toList[k]? = some c0 := by
  have h1 := at_drop h
  rw [e] at h1
  have h2 := congrArg (fun l => l[0]?) h1
  simp only [List.getElem?_cons_zero] at h2
  have hy : 0 < y.length := by
    have : y.cps.toList.length = y.length := by simp [Str.length]
    rw [← this, e]; simp
  rw [List.getElem?_take_of_lt hy, List.getElem?_drop] at h2
  simpa using h2
theorem parts_J {x y : Str} {c0 : Nat} {ys : List Nat} (e : y.cps.toList = c0 :: ys) : ∀ (ps : List Str) (cuts : List Nat) (a f : Nat), ChainG x y x.length a cuts f → (∀ k, f ≤ k → ¬ At x y x.length k) → ps ≠ [] →
    x.cps.toList.drop a = J y.cps.toList (ps.map (·.cps.toList)) → (∀ p ∈ ps, c0 ∉ p.cps.toList) → a ≤ x.length → partsFrom x y.length a cuts = ps
  | [], _, _, _, _, _, h, _, _, _ => absurd rfl h
  | [p], cuts, a, f, hc, hn, _, hd, hp, ha => by
    have hl : x.cps.toList.length = x.length := by simp [Str.length]
    have hyl : y.cps.toList.length = y.length := by simp [Str.length]
    have hd' : x.cps.toList.drop a = p.cps.toList := hd
    have no : ∀ k, a ≤ k → ¬ At x y x.length k := fun k hk hA => by
      have h1 := at_head e hA
      have h2 : (x.cps.toList.drop a)[k - a]? = some c0 := by rw [List.getElem?_drop, show a + (k - a) = k by omega]; exact h1
      rw [hd'] at h2
      exact hp p List.mem_cons_self (List.mem_of_getElem? h2)
    cases cuts with
    | cons c r => exact absurd hc.2.1 (no c hc.1)
    | nil =>
      show [strSub x a x.length] = [p]
      congr 1
      apply Str.ext'
      apply Array.toList_inj.mp
      rw [strSub_toList, hd', List.take_of_length_le]
      have := congrArg List.length hd'
      rw [List.length_drop] at this
      omega
  | p :: q :: r, cuts, a, f, hc, hn, _, hd, hp, ha => by
    have hl : x.cps.toList.length = x.length := by simp [Str.length]
    have hyl : y.cps.toList.length = y.length := by simp [Str.length]
    have hpl : p.cps.toList.length = p.length := by simp [Str.length]
    have hd' : x.cps.toList.drop a = p.cps.toList ++ (y.cps.toList ++ J y.cps.toList ((q :: r).map (·.cps.toList))) := hd
    have hlen := congrArg List.length hd'
    rw [List.length_drop, List.length_append, List.length_append] at hlen
    have no : ∀ k, a ≤ k → k < a + p.length → ¬ At x y x.length k := fun k hk hk2 hA => by
      have h1 := at_head e hA
      have h2 : (x.cps.toList.drop a)[k - a]? = some c0 := by rw [List.getElem?_drop, show a + (k - a) = k by omega]; exact h1
      rw [hd', List.getElem?_append_left (by omega)] at h2
      exact hp p List.mem_cons_self (List.mem_of_getElem? h2)
    have d2 : x.cps.toList.drop (a + p.length) = y.cps.toList ++ J y.cps.toList ((q :: r).map (·.cps.toList)) := by
      rw [← List.drop_drop, hd', ← hpl, List.drop_left]
    have yes : At x y x.length (a + p.length) := by
      refine ⟨by omega, ?_⟩
      rw [subAt_eq, d2, ← hyl, List.take_left]
      exact beq_self_eq_true _
    have d3 : x.cps.toList.drop (a + p.length + y.length) = J y.cps.toList ((q :: r).map (·.cps.toList)) := by
      rw [← List.drop_drop, d2, ← hyl, List.drop_left]
    cases cuts with
    | nil =>
      have e1 : f = a := hc
      exact absurd yes (hn _ (by omega))
    | cons c cs =>
      have e2 : c = a + p.length := by
        have h1 := hc.2.2.1
        have h2 := hc.2.1
        by_cases h3 : c < a + p.length
        · exact absurd h2 (no c hc.1 h3)
        · by_cases h4 : a + p.length < c
          · exact absurd yes (h1 _ (by omega) h4)
          · omega
      subst e2
      have ih := parts_J e (q :: r) cs (a + p.length + y.length) f hc.2.2.2 hn (by simp) d3 (fun z hz => hp z (List.mem_cons_of_mem _ hz)) (by omega)
      show strSub x a (a + p.length) :: partsFrom x y.length (a + p.length + y.length) cs = p :: q :: r
      rw [ih]
      congr 1
      apply Str.ext'
      apply Array.toList_inj.mp
      rw [strSub_toList, hd', show a + p.length - a = p.length by omega, ← hpl, List.take_left]
theorem join_J (y : Str) : ∀ ps : List Str, (Str.join y ps).cps.toList = J y.cps.toList (ps.map (·.cps.toList))
  | [] => by rfl
  | [p] => by rfl
  | p :: q :: r => by
    show (p ++ y ++ Str.join y (q :: r)).cps.toList = p.cps.toList ++ (y.cps.toList ++ J y.cps.toList ((q :: r).map (·.cps.toList)))
    simp only [Str.cps_append, Array.toList_append]
    rw [join_J y (q :: r), List.append_assoc]

theorem split_join {y : Str} {c0 : Nat} {ys : List Nat} (e : y.cps.toList = c0 :: ys) (hk : PySem.Builtin.Str.strKind y = 1) {ps : List Str} (h0 : ps ≠ []) (hp : ∀ p ∈ ps, c0 ∉ p.cps.toList) : Txt.split (Str.join y ps) y = ps := by
  have hy : 1 ≤ y.length := by
    have : y.cps.toList.length = y.length := by simp [Str.length]
    rw [← this, e]; simp
  obtain ⟨f, hc, hn⟩ := occ_tight (Str.join y ps) y hy
  have key := parts_J e ps _ 0 f hc hn h0 (by rw [List.drop_zero, join_J]) hp (Nat.zero_le _)
  have hcase : ∀ {l : List Nat}, occurrences (Str.join y ps) y 0 (Str.join y ps).length ((Str.join y ps).length + 1) = l → l = [] → [Str.join y ps] = ps := fun {l} e1 e2 => by
    rw [e1, e2] at key
    have : partsFrom (Str.join y ps) y.length 0 [] = [Str.join y ps] := by
      show [strSub (Str.join y ps) 0 (Str.join y ps).length] = _
      rw [sub_whole]
    rw [this] at key
    exact key
  unfold Txt.split
  have hkx : 1 ≤ PySem.Builtin.Str.strKind (Str.join y ps) := by
    unfold PySem.Builtin.Str.strKind
    split
    · decide
    · split <;> decide
  split
  · rename_i h1
    have h2 : (Str.join y ps).length < y.length := by
      rcases Bool.or_eq_true_iff.mp h1 with h | h
      · exact of_decide_eq_true h
      · have := of_decide_eq_true h
        omega
    refine hcase rfl ?_
    cases ho : occurrences (Str.join y ps) y 0 (Str.join y ps).length ((Str.join y ps).length + 1) with
    | nil => rfl
    | cons c r =>
      rw [ho] at hc
      have := hc.2.1.1
      omega
  · split
    · rename_i h1
      exact hcase rfl (List.isEmpty_iff.mp h1)
    · rw [partsBetween_eq]
      exact key
end Tx

set_option Elab.async false
set_option linter.all false
set_option maxRecDepth 100000
set_option maxHeartbeats 4000000
namespace Hb
open PySem L2
theorem levI_nat (n : Nat) : levI n = ((n - 1 : Nat) : Int) := by
  unfold levI
  split <;> omega
theorem fitsD_of {xs : List (List Int)} {p : List Int} (h : Fits xs p) : fitsD xs (tI p) = true := by
  have bl : ∀ f ∈ p, ∃ q, xs[f.toNat]? = some q ∧ xs.getD f.toNat [] = q ∧ f.toNat < xs.length ∧ q.length - 1 + 1 = p.length - 1 := fun f hf => by
    obtain ⟨q, e, l⟩ := h.bel f hf
    obtain ⟨hlt, _⟩ := List.getElem?_eq_some_iff.mp e
    exact ⟨q, e, by rw [List.getD_eq_getElem?_getD, e]; rfl, hlt, l⟩
  show fitsD xs (.tup (nums p)) = true
  rw [fitsD_tup]
  have hl : (nums p).length = p.length := by simp [nums]
  rw [hl]
  simp only [Bool.and_eq_true, Bool.or_eq_true]
  refine ⟨⟨?_, ?_⟩, ?_⟩
  · rcases h.cnt with e | e | e | e <;> rw [e] <;> rfl
  · rw [List.all_eq_true]
    intro d hd
    obtain ⟨f, hf, rfl⟩ := List.mem_map.mp hd
    obtain ⟨q, e, eq, hlt, l⟩ := bl f hf
    have h0 := h.low f hf
    show (decide (0 ≤ f) && decide (f < (xs.length : Int)) && decide (levI (xs.getD f.toNat []).length = levI p.length - 1)) = true
    rw [eq, levI_nat, levI_nat]
    simp only [Bool.and_eq_true, decide_eq_true_eq]
    omega
  · by_cases h3 : 3 ≤ p.length
    · right
      have e0 : (nums p).map toI = p := by
        unfold nums
        rw [List.map_map]
        exact List.map_id p
      rw [e0]
      unfold agreeB
      rw [List.all_eq_true]
      intro j hj
      rw [List.all_eq_true]
      intro i hi
      have hj := List.mem_range.mp hj
      have hi := List.mem_range.mp hi
      unfold agreeAt
      rw [decide_eq_true_eq]
      have ej : p[j]? = some p[j] := List.getElem?_eq_getElem hj
      have ei : p[i]? = some (p[i]'(by omega)) := List.getElem?_eq_getElem (by omega)
      obtain ⟨q, e1, e2, _⟩ := bl p[j] (List.getElem_mem hj)
      obtain ⟨r, e3, e4, _⟩ := bl (p[i]'(by omega)) (List.getElem_mem _)
      have key := h.agr h3 i j _ _ q r hi ej ei e1 e3
      rw [show p.getD j 0 = p[j] by rw [List.getD_eq_getElem?_getD, ej]; rfl, show p.getD i 0 = p[i]'(by omega) by rw [List.getD_eq_getElem?_getD, ei]; rfl, e2, e4, List.getD_eq_getElem?_getD, List.getD_eq_getElem?_getD, key]
    · left
      rw [levI_nat]
      simp
      omega
theorem lt1 {a b : Nat} : (([a] : List Nat) < [b]) ↔ a < b := by
  rw [List.cons_lt_cons_iff]
  simp
theorem az_lo {c : Nat} (h : 97 ≤ c) : (!decide ((⟨#[c]⟩ : Str).cps.toList < (Str.ofString "a").cps.toList)) = true := by
  rw [show (Str.ofString "a").cps.toList = [97] by decide +kernel, show (⟨#[c]⟩ : Str).cps.toList = [c] from rfl, decide_eq_false (by rw [lt1]; omega)]
  rfl
theorem az_hi {c : Nat} (h : c ≤ 122) : (!decide ((Str.ofString "z").cps.toList < (⟨#[c]⟩ : Str).cps.toList)) = true := by
  rw [show (Str.ofString "z").cps.toList = [122] by decide +kernel, show (⟨#[c]⟩ : Str).cps.toList = [c] from rfl, decide_eq_false (by rw [lt1]; omega)]
  rfl
structure NameOk (x : Str) : Prop where
  pos : 1 ≤ x.length
  le : x.length ≤ 8
  az : ∀ c ∈ x.cps.toList, 97 ≤ c ∧ c ≤ 122
abbrev nmAt (names : List Str) (k : Nat) : Str := names.getD k Str.empty
def rowW (names : List Str) (k : Nat) (p : List Int) : List Str := nmAt names k :: p.map fun f => nmAt names f.toNat
def rowT (names : List Str) (k : Nat) (p : List Int) : Str := Str.join (Str.ofString " ") (rowW names k p)
def rowsW (xs : List (List Int)) (names : List Str) : List (List Str) := (List.range xs.length).map fun k => rowW names k (xs.getD k [])
def textT (xs : List (List Int)) (names : List Str) : Str := Str.join (Str.ofString "; ") ((rowsW xs names).map (Str.join (Str.ofString " ")))
def dRows (rs : List (List Str)) : L2.D := .lst (rs.map fun r => .lst (r.map L2.D.str))
section
variable (K : PySem.W.Frag)
def sp_is_list_of_few : Sp := fun vs H Q _ => ∃ (v : V) (xs : List (List Int)), vs = [v] ∧ LT K H v xs ∧ xs.length ≤ 40 ∧ Q (.bl true) H
def sp_first_misfit : Sp := fun vs H Q _ => ∃ (v : V) (xs : List (List Int)), vs = [v] ∧ LT K H v xs ∧ IsShape xs ∧ xs.length ≤ 40 ∧ ∀ H', Same H H' → Q .non H'
def sp_shape_of : Sp := fun vs H Q _ => ∃ (v : V) (xs : List (List Int)), vs = [v] ∧ LT K H v xs ∧ IsShape xs ∧ xs.length ≤ 40 ∧ ∀ (l : Addr) (us : List V) (H' : Hp), H l = none → Same H H' → H' l = some (.lst us) → Reps K H' us (xs.map tI) → Q (.ref l) H'
def sp_spot_of (_K : PySem.W.Frag) : Sp := fun vs H Q _ => ∃ (d : Addr) (kvs : List (Key × V)) (x : Str) (i : Int), vs = [.ref d, .str x] ∧ H d = some (.dK kvs) ∧ valV kvs (.inr x) = some (.int i) ∧ Q (.int i) H
def sp_is_name (_K : PySem.W.Frag) : Sp := fun vs H Q _ => ∃ x : Str, vs = [.str x] ∧ NameOk x ∧ ∀ H', Same H H' → Q (.bl true) H'
def sp_row_text : Sp := fun vs H Q _ => ∃ (n : Addr) (k : Nat) (v : V) (names : List Str) (p : List Int), vs = [.ref n, .int k, v] ∧ SqL K H n (names.map V.str) ∧ k < names.length ∧ TI K H v p ∧ (∀ f ∈ p, 0 ≤ f ∧ f < (names.length : Int)) ∧ p.length ≤ 4 ∧ (∀ x ∈ names, NameOk x) ∧ ∀ H', Same H H' → Q (.str (rowT names k p)) H'
def sp_written : Sp := fun vs H Q _ => ∃ (v : V) (n : Addr) (xs : List (List Int)) (names : List Str), vs = [v, .ref n] ∧ LT K H v xs ∧ SqL K H n (names.map V.str) ∧ IsShape xs ∧ xs.length ≤ 40 ∧ names.length = xs.length ∧ (∀ x ∈ names, NameOk x) ∧ ∀ H', Same H H' → Q (.str (textT xs names)) H'
def sp_L_text_by : Sp := sp_written K
def sp_rows_of : Sp := fun vs H Q _ => ∃ (xs : List (List Int)) (names : List Str), vs = [.str (textT xs names)] ∧ IsShape xs ∧ xs.length ≤ 40 ∧ names.length = xs.length ∧ (∀ x ∈ names, NameOk x) ∧ ∀ (v : V) (H' : Hp), Same H H' → Rep K H' v (dRows (rowsW xs names)) → Q v H'
def sp_pieces_of : Sp := fun vs H Q _ => ∃ (v : V) (xs : List (List Int)) (names : List Str), vs = [v] ∧ Rep K H v (dRows (rowsW xs names)) ∧ IsShape xs ∧ xs.length ≤ 40 ∧ names.length = xs.length ∧ names.Nodup ∧ ∀ (u : V) (H' : Hp), Same H H' → LT K H' u xs → Q u H'
def sp_read : Sp := fun vs H Q _ => ∃ (xs : List (List Int)) (names : List Str), vs = [.str (textT xs names)] ∧ IsShape xs ∧ xs.length ≤ 40 ∧ names.length = xs.length ∧ names.Nodup ∧ (∀ x ∈ names, NameOk x) ∧
  ∀ (t l1 l2 : Addr) (us : List V) (H' : Hp), H l1 = none → H l2 = none → l1 ≠ l2 → t ≠ l1 → t ≠ l2 → Same H H' → H' t = some (.tup [.ref l1, .ref l2]) → H' l1 = some (.lst us) → Reps K H' us (xs.map tI) → H' l2 = some (.lst (names.map V.str)) → Q (.ref t) H'
end
end Hb
namespace Hb
open PySem L2
theorem comp_enum0 {g : TG} {te : TE} {D : Addr} {Q : Hp → Prop} {τ : St} {H : Hp} {K : PySem.W.Frag} {a : Addr} {xs : List V} (Pv : Nat → List V → St → Hp → Prop) (h0 : Pv 0 [] τ H) (hl : ∀ i ys τ H, i ≤ xs.length → Pv i ys τ H → SqL K H a xs)
    (hs : ∀ i x ys τ H p, xs[i]? = some x → Pv i ys τ H → H p = none → g (.ref p) τ (upd H p (.tup [.int i, x])) fun τ2 H2 => te τ2 H2 fun y H4 => H4 D = some (.lst ys) ∧ ys.length < sizeLine ∧ Pv (i + 1) (ys ++ [y]) τ2 (upd H4 D (.lst (ys ++ [y]))))
    (hd : ∀ ys τ H, Pv xs.length ys τ H → Q H) : RunC (Ite K a) g tYes te D Q τ H := comp_enum Pv h0 hl (fun i x ys τ H p e q hp => hs i x ys τ H p e q hp) hd
theorem tjoin (sep : Str) (ys : List Str) : Txt.join sep ys = Str.join sep ys := StrLaws.glued_eq_join sep ys
theorem nm_at {names : List Str} {f : Int} (h0 : 0 ≤ f) (h1 : f < (names.length : Int)) : atI (names.map V.str) f = some (.str (nmAt names f.toNat)) := by
  obtain ⟨j, rfl⟩ := Int.eq_ofNat_of_zero_le h0
  have hj : j < names.length := by omega
  refine atI_nat ?_
  rw [List.getElem?_map, List.getElem?_eq_getElem hj]
  simp [nmAt, hj]
theorem nm_ok {names : List Str} (h : ∀ x ∈ names, NameOk x) {k : Nat} (hk : k < names.length) : NameOk (nmAt names k) := by
  refine h _ ?_
  unfold nmAt
  rw [List.getD_eq_getElem?_getD, List.getElem?_eq_getElem hk]
  exact List.getElem_mem hk
theorem rowW_ok {names : List Str} (h : ∀ x ∈ names, NameOk x) {k : Nat} (hk : k < names.length) {p : List Int} (hp : ∀ f ∈ p, 0 ≤ f ∧ f < (names.length : Int)) : ∀ x ∈ rowW names k p, NameOk x := fun x hx => by
  rcases List.mem_cons.mp hx with rfl | hx
  · exact nm_ok h hk
  · obtain ⟨f, hf, rfl⟩ := List.mem_map.mp hx
    have := hp f hf
    exact nm_ok h (by omega)
theorem sum_le {ys : List Str} {B : Nat} (h : ∀ y ∈ ys, y.length ≤ B) : (ys.map (·.length)).sum ≤ ys.length * B := by
  induction ys with
  | nil => simp
  | cons y ys ih =>
    have h1 := h y List.mem_cons_self
    have h2 := ih fun z hz => h z (List.mem_cons_of_mem _ hz)
    rw [List.map_cons, List.sum_cons, List.length_cons, Nat.add_mul]
    omega
theorem join_len (sep : Str) : ∀ ys : List Str, (Str.join sep ys).length ≤ (ys.map (·.length)).sum + ys.length * sep.length
  | [] => by simp [Str.join, Str.empty, Str.length]
  | [y] => by
    show y.length ≤ _
    simp
  | y :: z :: r => by
    have ih := join_len sep (z :: r)
    show (y ++ sep ++ Str.join sep (z :: r)).length ≤ _
    have e : (y ++ sep ++ Str.join sep (z :: r)).length = y.length + sep.length + (Str.join sep (z :: r)).length := by
      simp [Str.length, Str.cps_append]
      omega
    rw [e, List.map_cons, List.sum_cons, List.length_cons, Nat.add_mul]
    omega
theorem row_len {names : List Str} (h : ∀ x ∈ names, NameOk x) {k : Nat} (hk : k < names.length) {p : List Int} (hp : ∀ f ∈ p, 0 ≤ f ∧ f < (names.length : Int)) (h4 : p.length ≤ 4) :
    ((rowW names k p).map (·.length)).sum ≤ 40 ∧ (rowW names k p).length ≤ 5 ∧ (rowT names k p).length ≤ 50 := by
  have h1 : (rowW names k p).length ≤ 5 := by simp [rowW]; omega
  have h2 := sum_le (ys := rowW names k p) (B := 8) fun y hy => (rowW_ok h hk hp y hy).le
  have h3 := join_len (Str.ofString " ") (rowW names k p)
  have e : (Str.ofString " ").length = 1 := by decide +kernel
  rw [e] at h3
  refine ⟨by omega, h1, ?_⟩
  show (Str.join (Str.ofString " ") (rowW names k p)).length ≤ 50
  omega
theorem face_ok {xs : List (List Int)} (hs : IsShape xs) {k : Nat} (hk : k < xs.length) : (∀ f ∈ xs.getD k [], 0 ≤ f ∧ f < (k : Int)) ∧ (xs.getD k []).length ≤ 4 := by
  have e : xs[k]? = some xs[k] := List.getElem?_eq_getElem hk
  have e2 : xs.getD k [] = xs[k] := by rw [List.getD_eq_getElem?_getD, e]; rfl
  have F := hs k _ e
  rw [e2]
  refine ⟨fun f hf => ⟨F.low f hf, ?_⟩, by rcases F.cnt with e | e | e | e <;> omega⟩
  obtain ⟨q, h1, _⟩ := F.bel f hf
  have := (List.getElem?_eq_some_iff.mp h1).1
  rw [List.length_take] at this
  have := F.low f hf
  omega
theorem sp_split {ws : List Str} (h0 : ws ≠ []) (h : ∀ x ∈ ws, NameOk x) : Txt.split (Str.join (Str.ofString " ") ws) (Str.ofString " ") = ws :=
  Tx.split_join (c0 := 32) (ys := []) (by decide +kernel) (by decide +kernel) h0 fun p hp hc => by have := (h p hp).az 32 hc; omega
theorem join_mem {sep : Str} {c : Nat} : ∀ {ws : List Str}, c ∈ (Str.join sep ws).cps.toList → c ∈ sep.cps.toList ∨ ∃ w ∈ ws, c ∈ w.cps.toList
  | [], h => by
    have : c ∈ ([] : List Nat) := h
    simp at this
  | [w], h => .inr ⟨w, List.mem_cons_self, h⟩
  | w :: z :: r, h => by
    have h' : c ∈ (w ++ sep ++ Str.join sep (z :: r)).cps.toList := h
    simp only [Str.cps_append, Array.toList_append, List.mem_append] at h'
    rcases h' with (h | h) | h
    · exact .inr ⟨w, List.mem_cons_self, h⟩
    · exact .inl h
    · rcases join_mem h with h | ⟨q, hq, h⟩
      · exact .inl h
      · exact .inr ⟨q, List.mem_cons_of_mem _ hq, h⟩
theorem rows_split {rs : List (List Str)} (h0 : rs ≠ []) (h : ∀ r ∈ rs, ∀ x ∈ r, NameOk x) : Txt.split (Str.join (Str.ofString "; ") (rs.map (Str.join (Str.ofString " ")))) (Str.ofString "; ") = rs.map (Str.join (Str.ofString " ")) :=
  Tx.split_join (c0 := 59) (ys := [32]) (by decide +kernel) (by decide +kernel) (by simpa using h0) fun p hp hc => by
    obtain ⟨r, hr, rfl⟩ := List.mem_map.mp hp
    rcases join_mem hc with h1 | ⟨w, hw, h1⟩
    · have e : (Str.ofString " ").cps.toList = [32] := by decide +kernel
      rw [e] at h1
      simp at h1
    · have := (h r hr w hw).az 59 h1
      omega
theorem rowsW_ok {xs : List (List Int)} {names : List Str} (hs : IsShape xs) (hnl : names.length = xs.length) (hn : ∀ x ∈ names, NameOk x) : ∀ r ∈ rowsW xs names, (∀ x ∈ r, NameOk x) ∧ r ≠ [] ∧ r.length ≤ 5 := fun r hr => by
  obtain ⟨k, hk, rfl⟩ := List.mem_map.mp hr
  have hk := List.mem_range.mp hk
  obtain ⟨fk, f4⟩ := face_ok hs hk
  exact ⟨rowW_ok hn (by omega) fun f hf => ⟨(fk f hf).1, by have := (fk f hf).2; omega⟩, by simp [rowW], by show (_ :: List.map _ _).length ≤ 5; rw [List.length_cons, List.length_map]; omega⟩
theorem join_pos {sep : Str} {w : Str} {ws : List Str} (h : 1 ≤ w.length) : 1 ≤ (Str.join sep (w :: ws)).length := by
  cases ws with
  | nil => exact h
  | cons z r =>
    show 1 ≤ (w ++ sep ++ Str.join sep (z :: r)).length
    have e : (w ++ sep ++ Str.join sep (z :: r)).length = w.length + sep.length + (Str.join sep (z :: r)).length := by
      simp [Str.length, Str.cps_append]
      omega
    omega
theorem text_len {xs : List (List Int)} {names : List Str} (hs : IsShape xs) (hx : xs.length ≤ 40) (hnl : names.length = xs.length) (hn : ∀ x ∈ names, NameOk x) : (textT xs names).length ≤ 2100 ∧ (1 ≤ xs.length → 1 ≤ (textT xs names).length) ∧ (xs.length = 0 → (textT xs names).length = 0) := by
  refine ⟨?_, fun h1 => ?_, fun h0 => ?_⟩
  · have h3 := join_len (Str.ofString "; ") ((rowsW xs names).map (Str.join (Str.ofString " ")))
    have e : (Str.ofString "; ").length = 2 := by decide +kernel
    have h1 := sum_le (ys := (rowsW xs names).map (Str.join (Str.ofString " "))) (B := 50) fun y hy => by
      obtain ⟨r, hr, rfl⟩ := List.mem_map.mp hy
      obtain ⟨k, hk, rfl⟩ := List.mem_map.mp hr
      have hk := List.mem_range.mp hk
      obtain ⟨fk, f4⟩ := face_ok hs hk
      exact (row_len hn (by omega) (fun f hf => ⟨(fk f hf).1, by have := (fk f hf).2; omega⟩) f4).2.2
    have hl : ((rowsW xs names).map (Str.join (Str.ofString " "))).length = xs.length := by simp [rowsW]
    rw [e] at h3
    rw [hl] at h1 h3
    show (Str.join _ _).length ≤ 2100
    omega
  · unfold textT rowsW
    cases hx0 : xs.length with
    | zero => omega
    | succ m =>
      rw [List.range_succ_eq_map, List.map_cons, List.map_cons]
      exact join_pos (join_pos (nm_ok hn (by omega)).pos)
  · unfold textT rowsW
    rw [h0]
    rfl
theorem reps_by {K : PySem.W.Frag} {H : Hp} : ∀ {ds : List L2.D} {vs : List V}, vs.length = ds.length → (∀ (i : Nat) v d, vs[i]? = some v → ds[i]? = some d → Rep K H v d) → Reps K H vs ds
  | [], vs, hl, _ => by
    cases vs with
    | nil => rfl
    | cons _ _ => simp at hl
  | d :: ds, vs, hl, h => by
    cases vs with
    | nil => simp at hl
    | cons v vs => exact ⟨v, vs, rfl, h 0 v d rfl rfl, reps_by (by simpa using hl) fun i v d h1 h2 => h (i + 1) v d (by simpa using h1) (by simpa using h2)⟩
theorem reps_strs {K : PySem.W.Frag} {H : Hp} : ∀ {ws : List Str} {vs : List V}, Reps K H vs (ws.map L2.D.str) ↔ vs = ws.map V.str
  | [], vs => Iff.rfl
  | w :: ws, vs => by
    constructor
    · rintro ⟨v, q, rfl, hv, hq⟩
      rw [reps_strs.mp hq, show v = .str w from hv]
      rfl
    · rintro rfl
      exact ⟨_, _, rfl, rfl, reps_strs.mpr rfl⟩
theorem rows_sq {K : PySem.W.Frag} {H : Hp} {v : V} {rs : List (List Str)} (h : Rep K H v (dRows rs)) : ∃ a us, v = .ref a ∧ SqL K H a us ∧ us.length = rs.length ∧ ∀ (i : Nat) u, us[i]? = some u → ∃ b r, u = .ref b ∧ rs[i]? = some r ∧ SqL K H b (r.map V.str) := by
  obtain ⟨a, us, rfl, hq, r⟩ := h
  refine ⟨a, us, rfl, hq, by have := r.length; simpa using this, fun i u hu => ?_⟩
  obtain ⟨d, hd, hr⟩ := r.getV hu
  rw [List.getElem?_map] at hd
  obtain ⟨w, hw, rfl⟩ := Option.map_eq_some_iff.mp hd
  obtain ⟨b, vs, rfl, hb, hv⟩ := hr
  cases (reps_strs.mp hv)
  exact ⟨b, w, rfl, hw, hb⟩
theorem rows_mk {K : PySem.W.Frag} {H : Hp} {D : Addr} {bs : List Addr} {rs : List (List Str)} (hD : H D = some (.lst (bs.map V.ref))) (hl : bs.length = rs.length) (h : ∀ (j : Nat) b, bs[j]? = some b → H b = some (.lst ((rs.getD j []).map V.str))) : Rep K H (.ref D) (dRows rs) := by
  refine ⟨D, _, rfl, .of hD, reps_by (by simp [hl]) fun i v d h1 h2 => ?_⟩
  rw [List.getElem?_map] at h1 h2
  obtain ⟨b, hb, rfl⟩ := Option.map_eq_some_iff.mp h1
  obtain ⟨r, hr, rfl⟩ := Option.map_eq_some_iff.mp h2
  have e : rs.getD i [] = r := by rw [List.getD_eq_getElem?_getD, hr]; rfl
  have hb := h i b hb
  rw [e] at hb
  exact ⟨b, _, rfl, .of hb, reps_strs.mpr rfl⟩
theorem nm_inj {names : List Str} (h : names.Nodup) {i j : Nat} (hi : i < names.length) (hj : j < names.length) (e : nmAt names i = nmAt names j) : i = j := by
  unfold nmAt at e
  rw [List.getD_eq_getElem?_getD, List.getD_eq_getElem?_getD, List.getElem?_eq_getElem hi, List.getElem?_eq_getElem hj] at e
  exact (List.getElem_inj h).mp e
theorem rowsW_at {xs : List (List Int)} {names : List Str} {i : Nat} {r : List Str} (h : (rowsW xs names)[i]? = some r) : i < xs.length ∧ r = rowW names i (xs.getD i []) := by
  unfold rowsW at h
  rw [List.getElem?_map] at h
  obtain ⟨k, hk, rfl⟩ := Option.map_eq_some_iff.mp h
  obtain ⟨h1, h2⟩ := List.getElem?_eq_some_iff.mp hk
  rw [List.length_range] at h1
  rw [List.getElem_range] at h2
  subst h2
  exact ⟨h1, rfl⟩
theorem lt_mk {K : PySem.W.Frag} {H : Hp} {q : Addr} {ts : List Addr} {xs : List (List Int)} (hq : H q = some (.lst (ts.map V.ref))) (hl : ts.length = xs.length) (h : ∀ (j : Nat) t, ts[j]? = some t → H t = some (.tup ((xs.getD j []).map V.int))) : LT K H (.ref q) xs := by
  refine ⟨q, _, rfl, .of hq, reps_by (by simp [hl]) fun i v d h1 h2 => ?_⟩
  rw [List.getElem?_map] at h1 h2
  obtain ⟨b, hb, rfl⟩ := Option.map_eq_some_iff.mp h1
  obtain ⟨r, hr, rfl⟩ := Option.map_eq_some_iff.mp h2
  have e : xs.getD i [] = r := by rw [List.getD_eq_getElem?_getD, hr]; rfl
  have hb := h i b hb
  rw [e] at hb
  exact ⟨b, _, rfl, .of hb, reps_nums.mpr rfl⟩
theorem cut1 (us : List V) : L2.cutV us (some 1) none = us.drop 1 := by
  unfold L2.cutV
  have e1 : HT.sIx us.length 0 (some (1 : Int)) = min 1 us.length := by
    have := HT.sIx_nat us.length 0 1
    simpa using this
  rw [e1, HT.sIx_none]
  cases us with
  | nil => rfl
  | cons u us =>
    rw [show min 1 (u :: us).length = 1 by simp, List.take_of_length_le (by simp)]
end Hb
namespace Hb
open PySem L2

def lets : Nat → Nat → List Nat
  | 0, _ => []
  | s + 1, m => (97 + m % 26) :: lets s (m / 26)
theorem lets_len : ∀ (s m : Nat), (lets s m).length = s
  | 0, _ => rfl
  | s + 1, m => by show ((97 + m % 26) :: lets s (m / 26)).length = s + 1; rw [List.length_cons, lets_len s]
theorem lets_snoc : ∀ (s m : Nat), lets (s + 1) m = lets s m ++ [97 + m / 26 ^ s % 26]
  | 0, m => by simp [lets]
  | s + 1, m => by
    show (97 + m % 26) :: lets (s + 1) (m / 26) = ((97 + m % 26) :: lets s (m / 26)) ++ _
    rw [lets_snoc s (m / 26), List.cons_append, Nat.div_div_eq_div_mul, Nat.pow_succ, Nat.mul_comm]
theorem lets_az : ∀ (s m : Nat), ∀ c ∈ lets s m, 97 ≤ c ∧ c ≤ 122
  | 0, _, c, h => by simp [lets] at h
  | s + 1, m, c, h => by
    rcases List.mem_cons.mp h with rfl | h
    · have := Nat.mod_lt m (by decide : 0 < 26)
      omega
    · exact lets_az s _ c h
theorem lets_inj : ∀ (s m m' : Nat), lets s m = lets s m' → m % 26 ^ s = m' % 26 ^ s
  | 0, m, m', _ => by simp [Nat.mod_one]
  | s + 1, m, m', h => by
    have h1 : 97 + m % 26 = 97 + m' % 26 := (List.cons.inj h).1
    have h2 := lets_inj s _ _ (List.cons.inj h).2
    have e : ∀ k : Nat, k % 26 ^ (s + 1) = k % 26 + 26 * (k / 26 % 26 ^ s) := fun k => by
      rw [Nat.pow_succ, Nat.mul_comm, Nat.mod_mul]
    rw [e, e, h2]
    omega
def stemL (s : Nat) : List Nat := (List.range s).map (97 + ·)
def nm (stem n : Nat) : Str := ⟨(stemL stem ++ lets (1 + n % 4) (n / 4)).toArray⟩
theorem nm_name {stem n : Nat} (h : stem ≤ 4) : NameOk (nm stem n) := by
  have e : (nm stem n).cps.toList = stemL stem ++ lets (1 + n % 4) (n / 4) := rfl
  have el : (nm stem n).length = stem + (1 + n % 4) := by
    show (stemL stem ++ lets (1 + n % 4) (n / 4)).toArray.size = _
    simp [stemL, lets_len]
  have := Nat.mod_lt n (by decide : 0 < 4)
  refine ⟨by omega, by omega, fun c hc => ?_⟩
  rw [e] at hc
  rcases List.mem_append.mp hc with hc | hc
  · obtain ⟨j, hj, rfl⟩ := List.mem_map.mp hc
    have := List.mem_range.mp hj
    omega
  · exact lets_az _ _ c hc
theorem nm_far {stem k k' : Nat} (h : k < k') (h2 : k' < k + 1000) : nm stem (4 * k + 3) ≠ nm stem (4 * k' + 3) := fun e => by
  have e1 : (stemL stem ++ lets (1 + (4 * k + 3) % 4) ((4 * k + 3) / 4)) = stemL stem ++ lets (1 + (4 * k' + 3) % 4) ((4 * k' + 3) / 4) := by
    have := congrArg (fun s : Str => s.cps.toList) e
    exact this
  have e2 := List.append_cancel_left e1
  rw [show (4 * k + 3) % 4 = 3 by omega, show (4 * k' + 3) % 4 = 3 by omega, show (4 * k + 3) / 4 = k by omega, show (4 * k' + 3) / 4 = k' by omega] at e2
  have e3 := lets_inj 4 _ _ e2
  have e4 : 26 ^ 4 = 456976 := by decide
  rw [e4] at e3
  omega

theorem nm_new {stem n0 : Nat} {ns : List Str} (h : ∀ n, n0 ≤ n → n < n0 + 400 → nm stem n ∈ ns) : 41 ≤ ns.length := by
  have sub : ((List.range 41).map fun j => nm stem (4 * (n0 / 4 + 1 + j) + 3)) ⊆ ns := fun x hx => by
    obtain ⟨j, hj, rfl⟩ := List.mem_map.mp hx
    have := List.mem_range.mp hj
    exact h _ (by omega) (by omega)
  have nd : ((List.range 41).map fun j => nm stem (4 * (n0 / 4 + 1 + j) + 3)).Nodup := by
    rw [List.nodup_iff_pairwise_ne, List.pairwise_map]
    refine List.Pairwise.imp_of_mem ?_ (List.pairwise_lt_range (n := 41))
    intro a b ha hb hab
    have := List.mem_range.mp hb
    exact nm_far (by omega) (by omega)
  have := nd.length_le_of_subset sub
  simpa using this
theorem stem_cut {s : Nat} (h : s ≤ 4) : slS (Str.ofString "abcdefghijklmnopq") none (some (s : Int)) = ⟨(stemL s).toArray⟩ := by
  match s, h with
  | 0, _ => decide +kernel
  | 1, _ => decide +kernel
  | 2, _ => decide +kernel
  | 3, _ => decide +kernel
  | 4, _ => decide +kernel
theorem abc_at {r : Nat} (h : r < 26) : (Str.ofString "abcdefghijklmnopqrstuvwxyz").cps.toList[r]? = some (97 + r) := by
  have key : ∀ r : Fin 26, (Str.ofString "abcdefghijklmnopqrstuvwxyz").cps.toList[r.val]? = some (97 + r.val) := by decide +kernel
  exact key ⟨r, h⟩
section
variable (K : PySem.W.Frag)
def sp_L_name_by (_K : PySem.W.Frag) : Sp := fun vs H Q _ => ∃ n stem : Nat, vs = [.int n, .int stem] ∧ stem ≤ 4 ∧ Q (.str (nm stem n)) H
def sp_L_names_by (_K : PySem.W.Frag) : Sp := fun vs H Q _ => ∃ (c : Int) (many : Nat), vs = [.int c, .int many] ∧ many ≤ 40 ∧ ∀ (l : Addr) (names : List Str) (H' : Hp), H l = none → Same H H' → H' l = some (.lst (names.map V.str)) → names.length = many → names.Nodup → (∀ x ∈ names, NameOk x) → Q (.ref l) H'
end
theorem deps_strs : ∀ ws : List Str, deps (ws.map L2.D.str) = 0
  | [] => rfl
  | w :: ws => by
    show max 0 (deps (ws.map L2.D.str)) = 0
    rw [deps_strs ws]
    rfl
theorem any_str {w : Str} : ∀ {ws : List Str}, ((ws.map L2.D.str).any fun e => eqD e (.str w)) = decide (w ∈ ws)
  | [] => by simp
  | v :: ws => by
    rw [List.map_cons, List.any_cons, any_str (ws := ws)]
    have e : eqD (.str v) (.str w) = decide (v = w) := by
      show (v == w) = _
      rw [Bool.eq_iff_iff, beq_iff_eq, decide_eq_true_iff]
    rw [e]
    by_cases h : v = w
    · subst h; simp
    · have h' : ¬ w = v := fun z => h z.symm
      simp [h, h']
theorem str_snoc (A : List Nat) (c : Nat) : (⟨A.toArray⟩ : Str) ++ (⟨#[c]⟩ : Str) = ⟨(A ++ [c]).toArray⟩ := by
  apply Str.ext'
  rw [Str.cps_append]
  simp
theorem fold_join (sep : Str) : ∀ (ws : List Str) (w : Str), ws.foldl (fun acc x => acc ++ sep ++ x) w = Str.join sep (w :: ws)
  | [], w => rfl
  | x :: ws, w => by
    rw [List.foldl_cons, fold_join sep ws]
    cases ws with
    | nil => rfl
    | cons y r =>
      show (w ++ sep ++ x) ++ sep ++ Str.join sep (y :: r) = w ++ sep ++ (x ++ sep ++ Str.join sep (y :: r))
      apply Str.ext'
      simp only [Str.cps_append, Array.append_assoc]
theorem cutInts (ns : List Int) (lo hi : Option Int) : ∃ cs : List Int, L2.cutV (ns.map L2.V.int) lo hi = cs.map L2.V.int ∧ cs.length ≤ ns.length := by
  refine ⟨(ns.drop (HT.sIx ns.length 0 lo)).take (HT.sIx ns.length ns.length hi - HT.sIx ns.length 0 lo), ?_, ?_⟩
  · unfold L2.cutV
    rw [List.length_map, List.map_take, List.map_drop]
  · rw [List.length_take, List.length_drop]
    omega
theorem dep_sh (xs : List (List Int)) : dep (.lst (xs.map tI)) ≤ 2 := by
  have := deps_tIs xs
  show deps (xs.map tI) + 1 ≤ 2
  omega
theorem dep_nm (ws : List Str) : dep (.lst (ws.map L2.D.str)) ≤ 2 := by
  show deps (ws.map L2.D.str) + 1 ≤ 2
  rw [deps_strs]
  decide
end Hb

set_option Elab.async false
set_option linter.all false
set_option maxRecDepth 100000
set_option maxHeartbeats 4000000
namespace Hb
open PySem L2
def top (i : Nat) : Stmt := PySem.Challenge.pw_holebook_k07_text_there_and_back.main.body.getD i (.Pass ⟨0, 0, 0, 0⟩)
structure Txt (K : PySem.W.Frag) (mg : Str → Option Value) : Prop where
  x_FACE_COUNTS : ∃ a, mg "FACE_COUNTS" = some (.ref a) ∧ ∀ H, SqT K H a (([0, 2, 3, 4] : List Int).map V.int)
  x_MOST_PIECES : ∃ t, mg "MOST_PIECES" = some (.int 40 t)
  x_LONGEST_NAME : ∃ t, mg "LONGEST_NAME" = some (.int 8 t)
  n_isinstance : mg "isinstance" = none
  n_int : mg "int" = none
  n_bool : mg "bool" = none
  n_max : mg "max" = none
  n_len : mg "len" = none
  n_all : mg "all" = none
  n_tuple : mg "tuple" = none
  n_range : mg "range" = none
  n_list : mg "list" = none
  n_enumerate : mg "enumerate" = none
  n_str : mg "str" = none

theorem ndc_0 : (["face", "shape", "level"] : List Str).Nodup := by decide +kernel
theorem ndc_1 : (["row"] : List Str).Nodup := by decide +kernel
theorem ndc_2 : (["place", "piece", "names"] : List Str).Nodup := by decide +kernel
theorem ndc_3 : (["face", "names"] : List Str).Nodup := by decide +kernel
theorem ndc_4 : (["word"] : List Str).Nodup := by decide +kernel
theorem ndc_5 : (["sign"] : List Str).Nodup := by decide +kernel
theorem ndc_6 : (["name", "spots"] : List Str).Nodup := by decide +kernel
theorem ndc_7 : (["_law_letter"] : List Str).Nodup := by decide +kernel
theorem ndc_8 : (["_law_i", "_law_word"] : List Str).Nodup := by decide +kernel
theorem ndc_9 : (["_law_word", "_law_family", "_law_words"] : List Str).Nodup := by decide +kernel
theorem ndc_10 : (["_law_face", "_law_words"] : List Str).Nodup := by decide +kernel
section
variable {P : Program} {w : World} {K : PySem.W.Frag} {mg : Str → Option Value} {base : Heap}
abbrev s_is_whole : Stmt := top 7
theorem sc_is_whole : FnScope ["thing"] ["thing"] (defScope s_is_whole) := ⟨rfl, rfl, rfl, by decide +kernel, rfl, by decide +kernel, by decide +kernel⟩
theorem ok_is_whole {f : Addr} {fd : FuncData} (F : Fun K "is_whole" "is_whole" s_is_whole f fd) (T : Txt K mg)  : FnOk P w K mg base CX0 1 f fd ["thing"] (sp_is_whole K) := by
  refine F.ok sc_is_whole (fun vs H Q E h => ?_) (fun cdv A outer s H vs Q E hr h => ?_)
  · obtain ⟨x, d, rfl, hx, k⟩ := h
    rfl
  · obtain ⟨x, d, rfl, hx, k⟩ := h
    refine ⟨_, (pss_one (ps_ret (pe_and (pe_callB (kcall_isinst (K := K)) (by rfl) T.n_isinstance boot_isinstanceB (pa_cons (pv 0) (pa_cons (pe_bltn (v := .ty "int") rfl T.n_int boot_intT rfl) pa_nil))) (pe_one (pe_not (pe_callB (kcall_isinst (K := K)) (by rfl) T.n_isinstance boot_isinstanceB (pa_cons (pv 0) (pa_cons (pe_bltn (v := .ty "bool") rfl T.n_bool boot_boolT rfl) pa_nil)))))))), ?_⟩
    refine ⟨_, rfl, _, _, d, rfl, .inl rfl, hx, _, rfl, ?_⟩
    refine ite2 (fun e => ?_) (fun e => ?_)
    · refine ⟨_, rfl, _, _, d, rfl, .inr (.inl rfl), hx, _, rfl, ?_⟩
      have e2 : wholeD d = !isD "bool" d := by unfold wholeD; rw [e]; rfl
      rw [e2] at k
      exact k
    · have e2 : wholeD d = false := by unfold wholeD; simp [e]
      rw [e2] at k
      exact k
abbrev s_level_of : Stmt := top 11
theorem sc_level_of : FnScope ["piece"] ["piece"] (defScope s_level_of) := ⟨rfl, rfl, rfl, by decide +kernel, rfl, by decide +kernel, by decide +kernel⟩
theorem ok_level_of {f : Addr} {fd : FuncData} (F : Fun K "level_of" "level_of" s_level_of f fd) (T : Txt K mg)  : FnOk P w K mg base CX0 1 f fd ["piece"] (sp_level_of K) := by
  refine F.ok sc_level_of (fun vs H Q E h => ?_) (fun cdv A outer s H vs Q E hr h => ?_)
  · obtain ⟨x, ds, rfl, hx, k⟩ := h
    rfl
  · obtain ⟨x, ds, rfl, hx, k⟩ := h
    refine ⟨_, (pss_one (ps_ret (pe_callB (call_max2 (by rfl)) (by rfl) T.n_max boot_maxB (pa_cons (pe_op op_sub (pe_callB (kcall_len_seq (K := K)) (by rfl) T.n_len PySem.boot_len (pa_cons (pv 0) pa_nil)) pe_int) (pa_cons pe_int pa_nil))))), ?_⟩
    obtain ⟨p, us, e, hq, hl⟩ : ∃ (p : Addr) (us : List V), x = .ref p ∧ (SqL K H p us ∨ SqT K H p us) ∧ us.length = ds.length := by
      rcases hx with ⟨p, us, e, hq, r⟩ | ⟨p, us, e, hq, r⟩
      · exact ⟨p, us, e, .inl hq, r.length⟩
      · exact ⟨p, us, e, .inr hq, r.length⟩
    subst e
    refine ⟨_, rfl, p, us, rfl, hq, _, _, rfl, rfl, _, _, rfl, ?_⟩
    rw [hl]
    exact k
abbrev s_faces_agree : Stmt := top 14
theorem sc_faces_agree : FnScope ["shape", "faces", "j", "i"] ["shape", "faces"] (defScope s_faces_agree) := ⟨rfl, rfl, rfl, by decide +kernel, rfl, by decide +kernel, by decide +kernel⟩
theorem nd_faces_agree : (["shape", "faces", "j", "i"] : List Str).Nodup := by decide +kernel

theorem ok_faces_agree {f : Addr} {fd : FuncData} (F : Fun K "faces_agree" "faces_agree" s_faces_agree f fd) (T : Txt K mg)  : FnOk P w K mg base CX0 1 f fd ["shape", "faces"] (sp_faces_agree K) := by
  refine F.ok sc_faces_agree (fun vs H Q E h => ?_) (fun cdv A outer s H vs Q E hr h => ?_)
  · obtain ⟨a, v, xs, p, rfl, hL, hv, hp4, hf, k⟩ := h
    rfl
  · obtain ⟨a, v, xs, p, rfl, hL, hv, hp4, hf, k⟩ := h
    refine ⟨_, (pss_cons (ps_for PassesOwn.never rfl (pi_range1 (by rfl) T.n_range (pa_cons (pe_callB (kcall_len_seq (K := K)) (by rfl) T.n_len PySem.boot_len (pa_cons (pv 1) pa_nil)) pa_nil)) (pg_name (i := 2) nd_faces_agree (by rfl) (by first | exact Or.inl rfl | exact Or.inr rfl)) (pss_one (ps_for PassesOwn.never rfl (pi_range1 (by rfl) T.n_range (pa_cons (pv 2) pa_nil)) (pg_name (i := 3) nd_faces_agree (by rfl) (by first | exact Or.inl rfl | exact Or.inr rfl)) (pss_one (ps_if (pt_cmpR op_ne (pe_ix (kix_tup (K := K)) (pe_ix (kix_list (K := K)) (pv 0) (pe_ix (kix_tup (K := K)) (pv 1) (pv 2) (fun _ _ => rfl)) (fun _ _ => rfl)) (pv 3) (fun _ _ => rfl)) (pe_ix (kix_tup (K := K)) (pe_ix (kix_list (K := K)) (pv 0) (pe_ix (kix_tup (K := K)) (pv 1) (pv 3) (fun _ _ => rfl)) (fun _ _ => rfl)) (pe_op op_sub (pv 2) pe_int) (fun _ _ => rfl)) (nomark _)) (pss_one (ps_ret pe_bl)) pss_nil)))))
      (pss_one (ps_ret pe_bl))), ?_⟩
    obtain ⟨pa, rfl, hq⟩ := hv.sq
    have hpl : (p.map V.int).length = p.length := List.length_map ..
    refine ⟨_, rfl, pa, _, rfl, .inr hq, _, rfl, by omega, by omega, ?_⟩
    rw [hpl]
    refine for_range (lo := 0) (n := ((p.length : Nat) : Int).toNat) (fun j σ H2 => H = H2 ∧ (∃ o2 o3, σ = [some (.ref a), some (.ref pa), o2, o3]) ∧ ∀ j' i', j' < j → i' < j' → agreeAt xs p j' i' = true)
      ⟨rfl, ⟨none, none, rfl⟩, fun j' i' h => absurd h (by omega)⟩ ?_ ?_
    · rintro j σ H2 hj ⟨rfl, ⟨o2, o3, rfl⟩, hall⟩
      have hj' : j < p.length := by omega
      refine ⟨_, rfl, _, rfl, by omega, by omega, ?_⟩
      refine for_range (lo := 0) (n := ((0 : Int) + (j : Int)).toNat) (fun i σ H2 => H = H2 ∧ (∃ o3, σ = [some (.ref a), some (.ref pa), some (.int (0 + j)), o3]) ∧ ∀ i', i' < i → agreeAt xs p j i' = true)
        ⟨rfl, ⟨_, rfl⟩, fun i' h => absurd h (by omega)⟩ ?_ ?_
      · rintro i σ H2 hi ⟨rfl, ⟨o3, rfl⟩, hall2⟩
        have hij : i < j := by omega
        have mj : p.getD j 0 ∈ p := by rw [List.getD_eq_getElem?_getD, List.getElem?_eq_getElem hj']; exact List.getElem_mem _
        have mi : p.getD i 0 ∈ p := by rw [List.getD_eq_getElem?_getD, List.getElem?_eq_getElem (by omega)]; exact List.getElem_mem _
        obtain ⟨j0, j1, j2⟩ := hf _ mj
        obtain ⟨i0, i1, i2⟩ := hf _ mi
        obtain ⟨_, z, hq1, at1⟩ := TI.get (i := (0 : Int) + (j : Int)) hv (by omega) (by omega)
        cases z
        rw [show ((0 : Int) + (j : Int)).toNat = j by omega] at at1
        obtain ⟨_, z, hq2, at2⟩ := TI.get (i := (0 : Int) + (i : Int)) hv (by omega) (by omega)
        cases z
        rw [show ((0 : Int) + (i : Int)).toNat = i by omega] at at2
        obtain ⟨us1, v1, hu1, av1, tv1⟩ := LT.get hL j0 j1
        obtain ⟨us2, v2, hu2, av2, tv2⟩ := LT.get hL i0 i1
        obtain ⟨b1, e1, hb1, ab1⟩ := TI.get (i := (0 : Int) + (i : Int)) tv1 (by omega) (by omega)
        obtain ⟨b2, e2, hb2, ab2⟩ := TI.get (i := (0 : Int) + (j : Int) - 1) tv2 (by omega) (by omega)
        subst e1 e2
        rw [show ((0 : Int) + (i : Int)).toNat = i by omega] at ab1
        rw [show ((0 : Int) + (j : Int) - 1).toNat = j - 1 by omega] at ab2
        refine ⟨_, rfl, _, rfl, _, rfl, pa, _, _, _, rfl, rfl, hq1, at1, a, us1, _, _, rfl, rfl, hu1, av1, _, rfl, b1, _, _, _, rfl, rfl, hb1, ab1, ?_⟩
        refine ⟨_, rfl, _, rfl, _, rfl, pa, _, _, _, rfl, rfl, hq2, at2, a, us2, _, _, rfl, rfl, hu2, av2, _, rfl, _, _, rfl, rfl, b2, _, _, _, rfl, rfl, hb2, ab2, ?_⟩
        refine ⟨rfl, _, rfl, ?_⟩
        by_cases hag : (xs.getD (p.getD j 0).toNat []).getD i 0 = (xs.getD (p.getD i 0).toNat []).getD (j - 1) 0
        · refine ifN (eqI hag) ?_
          refine ⟨rfl, ⟨_, rfl⟩, fun i' h => ?_⟩
          by_cases hz : i' = i
          · subst hz; unfold agreeAt; exact decide_eq_true hag
          · exact hall2 i' (by omega)
        · refine ifP (neI hag) ?_
          have e2 : agreeB xs p = false := by
            cases q : agreeB xs p with
            | false => rfl
            | true =>
              unfold agreeB at q
              rw [List.all_eq_true] at q
              have q2 := q j (List.mem_range.mpr hj')
              rw [List.all_eq_true] at q2
              have q3 := q2 i (List.mem_range.mpr hij)
              exact absurd (of_decide_eq_true q3) hag
          rw [e2] at k
          exact k
      · rintro σ H2 ⟨rfl, ⟨o3, rfl⟩, hall2⟩
        refine ⟨rfl, ⟨_, _, rfl⟩, fun j' i' h1 h2 => ?_⟩
        by_cases hz : j' = j
        · subst hz; exact hall2 i' (by omega)
        · exact hall j' i' (by omega) h2
    · rintro σ H2 ⟨rfl, ⟨o2, o3, rfl⟩, hall⟩
      have e2 : agreeB xs p = true := by
        unfold agreeB
        rw [List.all_eq_true]
        intro j hj
        rw [List.all_eq_true]
        intro i hi
        have := List.mem_range.mp hj
        exact hall j i (by omega) (List.mem_range.mp hi)
      rw [e2] at k
      exact k
abbrev s_is_list_of_few : Stmt := top 18
theorem sc_is_list_of_few : FnScope ["thing"] ["thing"] (defScope s_is_list_of_few) := ⟨rfl, rfl, rfl, by decide +kernel, rfl, by decide +kernel, by decide +kernel⟩
theorem ok_is_list_of_few {f : Addr} {fd : FuncData} (F : Fun K "is_list_of_few" "is_list_of_few" s_is_list_of_few f fd) (T : Txt K mg)  : FnOk P w K mg base CX0 1 f fd ["thing"] (sp_is_list_of_few K) := by
  refine F.ok sc_is_list_of_few (fun vs H Q E h => ?_) (fun cdv A outer s H vs Q E hr h => ?_)
  · obtain ⟨v, xs, rfl, hL, hx, k⟩ := h
    rfl
  · obtain ⟨v, xs, rfl, hL, hx, k⟩ := h
    obtain ⟨t_MOST_PIECES, c_MOST_PIECES⟩ := T.x_MOST_PIECES
    refine ⟨_, (pss_one (ps_ret (pe_and (pe_callB (kcall_isinst (K := K)) (by rfl) T.n_isinstance boot_isinstanceB (pa_cons (pv 0) (pa_cons (pe_bltn (v := .ty "list") rfl T.n_list boot_listT rfl) pa_nil))) (pe_one (pe_cmpR op_le (pe_callB (kcall_len_seq (K := K)) (by rfl) T.n_len PySem.boot_len (pa_cons (pv 0) pa_nil)) (pe_glob (v := .int 40) (by rfl) c_MOST_PIECES ⟨_, rfl⟩) (nomark _)))))), ?_⟩
    obtain ⟨a, us, rfl, hq, r⟩ := id hL
    have hl : us.length = xs.length := by have := r.length; simpa using this
    refine ⟨_, rfl, .ref a, "list", _, rfl, .inr (.inr (.inr (.inr (.inl rfl)))), hL, _, rfl, ?_⟩
    refine ifP (by rfl) ?_
    refine ⟨_, rfl, a, _, rfl, .inl hq, _, _, rfl, rfl, ?_⟩
    show Q (.bl (decide ((us.length : Int) ≤ 40))) H
    rw [decide_eq_true (by omega)]
    exact k
abbrev s_row_text : Stmt := top 24
theorem sc_row_text : FnScope ["names", "place", "piece"] ["names", "place", "piece"] (defScope s_row_text) := ⟨rfl, rfl, rfl, by decide +kernel, rfl, by decide +kernel, by decide +kernel⟩
theorem ok_row_text {f : Addr} {fd : FuncData} (F : Fun K "row_text" "row_text" s_row_text f fd) (T : Txt K mg)  : FnOk P w K mg base CX0 1 f fd ["names", "place", "piece"] (sp_row_text K) := by
  refine F.ok sc_row_text (fun vs H Q E h => ?_) (fun cdv A outer s H vs Q E hr h => ?_)
  · obtain ⟨n, k0, v, names, p, rfl, hq, hk0, hv, hp, h4, hn, k⟩ := h
    rfl
  · obtain ⟨n, k0, v, names, p, rfl, hq, hk0, hv, hp, h4, hn, k⟩ := h
    refine ⟨_, (pss_one (ps_ret (kpe_bm (K := K) PySem.F.plainAttrs_str PySem.F.slot_str_join PySem.F.type_str_join (kmt_join (K := K)) pe_str (pa_cons (pe_op (kop_catLW (K := K)) (pe_lst (pa_cons (pe_ix (kix_list (K := K)) (pv 0) (pv 1) (fun _ _ => rfl)) pa_nil)) (pe_comp (N' := ["face", "names"]) (cap := [none, some 0]) (by rfl) (by kernel_rfl) (kpi_tup (K := K) (pv 2)) (fun _ _ _ _ => (pg_name (i := 0) ndc_3 (by rfl) (by first | exact Or.inl rfl | exact Or.inr rfl))) (fun _ _ _ _ => pts_nil) (fun _ _ _ _ => (pe_ix (kix_list (K := K)) (pv 1) (pv 0) (fun _ _ => rfl))))) pa_nil)))), ?_⟩
    obtain ⟨a, us, rfl, ht, r⟩ := id hv
    cases (reps_nums.mp r)
    obtain ⟨z1, z2, z3⟩ := row_len hn hk0 hp h4
    refine ⟨rfl, _, rfl, _, rfl, n, _, _, _, rfl, rfl, hq, nm_at (by omega) (by omega), smallE (by simp), fun l1 hl1 => ?_⟩
    have s1 : Same H (upd H l1 (.lst [.str (nmAt names k0)])) := Same.new hl1
    have e1 : upd H l1 (.lst [.str (nmAt names k0)]) l1 = some (.lst [.str (nmAt names k0)]) := upd_same
    rw [show ((k0 : Int)).toNat = k0 from Int.toNat_natCast k0]
    generalize upd H l1 (.lst [.str (nmAt names k0)]) = H1 at s1 e1
    refine ⟨_, rfl, a, rfl, ⟨_, s1.seqT ht⟩, fun D hD => ?_⟩
    refine comp_tup0 (K := K) (a := a) (xs := p.map V.int) (fun i ys τ G => Same H1 G ∧ G D = some (.lst ys) ∧ ys = ((p.take i).map fun f => nmAt names f.toNat).map V.str ∧ ∃ o, τ = [o, some (.ref n)])
      ⟨Same.new hD, upd_same, rfl, none, rfl⟩ (fun i ys τ G _ ⟨s2, _⟩ => (s1.trans s2).seqT ht) ?_ ?_
    · rintro i x ys τ G hx ⟨s2, hD2, rfl, o, rfl⟩
      rw [List.getElem?_map] at hx
      obtain ⟨f, hf, rfl⟩ := Option.map_eq_some_iff.mp hx
      have hi : i < p.length := (List.getElem?_eq_some_iff.mp hf).1
      obtain ⟨f0, f1⟩ := hp f (List.mem_of_getElem? hf)
      refine ⟨_, rfl, _, rfl, n, _, _, _, rfl, rfl, (s1.trans s2).seq hq, nm_at f0 f1, hD2, small (by simp; omega), s2.turn hD, upd_same, ?_, _, rfl⟩
      rw [List.take_add_one, hf, List.map_append, List.map_append]
      rfl
    · rintro ys τ G ⟨s2, hD2, rfl, _⟩
      rw [List.length_map, List.take_length] at hD2
      refine ⟨l1, D, _, _, rfl, rfl, .of (s2 _ _ e1), .of hD2, smallE (by simp; omega), fun c hc => ?_⟩
      have s3 := (s1.trans s2).trans (Same.new (o := .lst ([V.str (nmAt names k0)] ++ (p.map fun f => nmAt names f.toNat).map V.str)) hc)
      refine ⟨Str.ofString " ", c, rowW names k0 p, rfl, rfl, .of upd_same, ?_, ?_⟩
      · have e : (Str.ofString " ").length = 1 := by decide +kernel
        rw [e]
        omega
      · rw [tjoin]
        exact k _ s3
abbrev s_is_name : Stmt := top 26
theorem sc_is_name : FnScope ["word"] ["word"] (defScope s_is_name) := ⟨rfl, rfl, rfl, by decide +kernel, rfl, by decide +kernel, by decide +kernel⟩
theorem ok_is_name {f : Addr} {fd : FuncData} (F : Fun K "is_name" "is_name" s_is_name f fd) (T : Txt K mg)  : FnOk P w K mg base CX0 1 f fd ["word"] (sp_is_name K) := by
  refine F.ok sc_is_name (fun vs H Q E h => ?_) (fun cdv A outer s H vs Q E hr h => ?_)
  · obtain ⟨x, rfl, hn, k⟩ := h
    rfl
  · obtain ⟨x, rfl, hn, k⟩ := h
    obtain ⟨t_LONGEST_NAME, c_LONGEST_NAME⟩ := T.x_LONGEST_NAME
    refine ⟨_, (pss_one (ps_ret (pe_and (pe_chain op_le op_le pe_int (pe_callB call_len_str (by rfl) T.n_len PySem.boot_len (pa_cons (pv 0) pa_nil)) (pe_glob (v := .int 8) (by rfl) c_LONGEST_NAME ⟨_, rfl⟩)) (pe_one (pe_callB (kcall_allB (K := K) (by rfl)) (by rfl) T.n_all boot_allB (pa_cons (pe_comp (N' := ["sign"]) (cap := [none]) (by rfl) (by kernel_rfl) (pi_str (pv 0)) (fun _ _ _ _ => (pg_name (i := 0) ndc_5 (by rfl) (by first | exact Or.inl rfl | exact Or.inr rfl))) (fun _ _ _ _ => pts_nil) (fun _ _ _ _ => (pe_chain op_le_str op_le_str pe_str (pv 0) pe_str))) pa_nil)))))), ?_⟩
    have hz : x.length ≤ sizeLine := smallE (by have := hn.le; omega)
    refine ⟨_, rfl, x, rfl, hz, _, _, rfl, rfl, _, rfl, ?_⟩
    refine ifP (by have := hn.pos; simp; omega) ?_
    refine ⟨_, _, rfl, rfl, _, rfl, ?_⟩
    refine ifP (by have := hn.le; simp; omega) ?_
    refine ⟨_, rfl, x, rfl, ?_, fun D hD => ?_⟩
    · rw [← Array.all_toList, List.all_eq_true]
      intro c hc
      have := hn.az c hc
      exact decide_eq_true (by omega)
    refine comp_str (x := x) (fun i ys τ H1 => Same H H1 ∧ H1 D = some (.lst ys) ∧ ys = (List.replicate i true).map V.bl ∧ ∃ o, τ = [o])
      ⟨Same.new hD, upd_same, rfl, none, rfl⟩ ?_ ?_
    · rintro i c ys τ H1 hc ⟨s1, hD1, rfl, o, rfl⟩
      have hi : i < x.cps.size := (Array.getElem?_eq_some_iff.mp hc).1
      have hx8 : x.cps.size ≤ 8 := hn.le
      obtain ⟨h97, h122⟩ := hn.az c (by rw [Array.mem_toList_iff]; exact Array.mem_of_getElem? hc)
      refine ⟨_, rfl, _, _, rfl, rfl, _, rfl, ?_⟩
      refine ifP (az_lo h97) ?_
      refine ⟨_, _, rfl, rfl, hD1, small (by simp; omega), s1.turn hD, upd_same, ?_, _, rfl⟩
      rw [List.replicate_succ', List.map_append]
      congr 2
      exact congrArg V.bl (az_hi h122)
    · rintro ys τ H1 ⟨s1, hD1, rfl, _⟩
      refine ⟨D, List.replicate x.cps.size true, rfl, .of hD1, ?_⟩
      rw [show (List.replicate x.cps.size true).all id = true by simp]
      exact k H1 s1
abbrev s_spot_of : Stmt := top 28
theorem sc_spot_of : FnScope ["spots", "name"] ["spots", "name"] (defScope s_spot_of) := ⟨rfl, rfl, rfl, by decide +kernel, rfl, by decide +kernel, by decide +kernel⟩
theorem ok_spot_of {f : Addr} {fd : FuncData} (F : Fun K "spot_of" "spot_of" s_spot_of f fd) (T : Txt K mg)  : FnOk P w K mg base CX0 1 f fd ["spots", "name"] (sp_spot_of K) := by
  refine F.ok sc_spot_of (fun vs H Q E h => ?_) (fun cdv A outer s H vs Q E hr h => ?_)
  · obtain ⟨d, kvs, x, i, rfl, hd, hv, k⟩ := h
    rfl
  · obtain ⟨d, kvs, x, i, rfl, hd, hv, k⟩ := h
    have hu8 : (A.deeper (PyProof.Rows.envOfC "spot_of" (defScope s_spot_of) s.heap.objs.size f cdv)).units + 8 < cLine := by have := hr.units; omega
    refine ⟨_, (pss_cons (ps_if (pt_cmpR (op_notInK (u1 hu8)) (pv 1) (pv 0) rfl) (pss_one ps_never) pss_nil)
      (pss_one (ps_ret (pe_dget (u1 hu8) (pv 0) (pv 1) (fun _ _ => rfl))))), ?_⟩
    refine ⟨_, rfl, _, rfl, d, kvs, .inr x, rfl, hd, rfl, _, rfl, ?_⟩
    refine ifN (by rw [hv]; simp) ?_
    exact ⟨_, rfl, _, rfl, d, .int i, rfl, .inl ⟨kvs, .inr x, .inl hd, rfl, hv.symm⟩, k⟩
abbrev s_L_name_by : Stmt := top 30
theorem sc_L_name_by : FnScope ["_law_number", "_law_stem", "_law_word", "_law_size", "_law_k"] ["_law_number", "_law_stem"] (defScope s_L_name_by) := ⟨rfl, rfl, rfl, by decide +kernel, rfl, by decide +kernel, by decide +kernel⟩
theorem nd_L_name_by : (["_law_number", "_law_stem", "_law_word", "_law_size", "_law_k"] : List Str).Nodup := by decide +kernel

theorem ok_L_name_by {f : Addr} {fd : FuncData} (F : Fun K "_law_name_by" "_law_name_by" s_L_name_by f fd) (T : Txt K mg)  : FnOk P w K mg base CX0 1 f fd ["_law_number", "_law_stem"] (sp_L_name_by K) := by
  refine F.ok sc_L_name_by (fun vs H Q E h => ?_) (fun cdv A outer s H vs Q E hr h => ?_)
  · obtain ⟨n, stem, rfl, h4, k⟩ := h
    rfl
  · obtain ⟨n, stem, rfl, h4, k⟩ := h
    refine ⟨_, (pss_cons (ps_set (i := 2) nd_L_name_by (by rfl) (by first | exact Or.inl rfl | exact Or.inr rfl) (pe_slice sl_str pe_str po_none (po_some (pv 1))))
      (pss_cons (ps_set (i := 3) nd_L_name_by (by rfl) (by first | exact Or.inl rfl | exact Or.inr rfl) (pe_op op_add pe_int (pe_op op_mod (pv 0) pe_int)))
      (pss_cons (ps_set (i := 0) nd_L_name_by (by rfl) (by first | exact Or.inl rfl | exact Or.inr rfl) (pe_op op_fdiv (pv 0) pe_int))
      (pss_cons (ps_for PassesOwn.never rfl (pi_range1 (by rfl) T.n_range (pa_cons (pv 3) pa_nil)) (pg_name (i := 4) nd_L_name_by (by rfl) (by first | exact Or.inl rfl | exact Or.inr rfl)) (pss_cons (ps_set (i := 2) nd_L_name_by (by rfl) (by first | exact Or.inl rfl | exact Or.inr rfl) (pe_op op_add_str (pv 2) (pe_ix ix_str pe_str (pe_op op_mod (pv 0) pe_int) (fun _ _ => rfl))))
      (pss_one (ps_set (i := 0) nd_L_name_by (by rfl) (by first | exact Or.inl rfl | exact Or.inr rfl) (pe_op op_fdiv (pv 0) pe_int)))))
      (pss_one (ps_ret (pv 2))))))), ?_⟩
    refine tSeq_cut (fun σ' H' => σ' = [some (.int n), some (.int stem), some (.str ⟨(stemL stem).toArray⟩), none, none] ∧ H = H') ?_ fun key => ?_
    rotate_left
    · refine ⟨_, rfl, _, rfl, _, rfl, ?_⟩
      rw [stem_cut h4]
      exact ⟨smallE (by show (stemL stem).toArray.size ≤ _; simp [stemL]; omega), key _ _ ⟨rfl, rfl⟩⟩
    rintro _ _ ⟨rfl, rfl⟩
    refine tSeq_cut (fun σ' H' => σ' = [some (.int n), some (.int stem), some (.str ⟨(stemL stem).toArray⟩), some (.int ((1 + n % 4 : Nat) : Int)), none] ∧ H = H') ?_ fun key => ?_
    rotate_left
    · refine ⟨_, rfl, _, _, rfl, rfl, (by decide : (0 : Int) < 4), _, _, rfl, rfl, key _ _ ⟨?_, rfl⟩⟩
      rw [show ((1 + n % 4 : Nat) : Int) = 1 + (n : Int) % 4 by omega]
      rfl
    rintro _ _ ⟨rfl, rfl⟩
    refine tSeq_cut (fun σ' H' => σ' = [some (.int ((n / 4 : Nat) : Int)), some (.int stem), some (.str ⟨(stemL stem).toArray⟩), some (.int ((1 + n % 4 : Nat) : Int)), none] ∧ H = H') ?_ fun key => ?_
    rotate_left
    · refine ⟨_, rfl, _, _, rfl, rfl, ⟨by decide, by decide⟩, key _ _ ⟨?_, rfl⟩⟩
      rw [show ((n / 4 : Nat) : Int) = (n : Int) / 4 by omega]
      rfl
    rintro _ _ ⟨rfl, rfl⟩
    have hm := Nat.mod_lt n (by decide : 0 < 4)
    refine ⟨_, rfl, _, rfl, by omega, by omega, ?_⟩
    refine for_range (fun i σ G => ∃ o, σ = [some (.int ((n / 4 / 26 ^ i : Nat) : Int)), some (.int stem), some (.str ⟨(stemL stem ++ lets i (n / 4)).toArray⟩), some (.int ((1 + n % 4 : Nat) : Int)), o] ∧ H = G)
      ⟨none, by simp [lets], rfl⟩ ?_ ?_
    · rintro i σ G hi ⟨o, rfl, rfl⟩
      have hi2 : i < 1 + n % 4 := by omega
      have hr := Nat.mod_lt (n / 4 / 26 ^ i) (by decide : 0 < 26)
      refine tSeq_cut (fun σ' H' => ∃ o, σ' = [some (.int ((n / 4 / 26 ^ i : Nat) : Int)), some (.int stem), some (.str ⟨(stemL stem ++ lets (i + 1) (n / 4)).toArray⟩), some (.int ((1 + n % 4 : Nat) : Int)), o] ∧ H = H') ?_ fun key => ?_
      rotate_left
      · refine ⟨_, rfl, _, rfl, _, _, rfl, rfl, (by decide : (0 : Int) < 26), _, _, 97 + n / 4 / 26 ^ i % 26, rfl, rfl, by decide +kernel, ?_, _, _, rfl, rfl, ?_, ?_⟩
        · rw [show ((n / 4 / 26 ^ i : Nat) : Int) % 26 = ((n / 4 / 26 ^ i % 26 : Nat) : Int) by omega]
          exact atI_nat (abc_at hr)
        · refine smallE ?_
          show (stemL stem ++ lets i (n / 4)).toArray.size + 1 ≤ _
          simp [stemL, lets_len]
          omega
        · rw [str_snoc, List.append_assoc, ← lets_snoc]
          exact key _ _ ⟨_, rfl, rfl⟩
      rintro _ _ ⟨o, rfl, rfl⟩
      refine ⟨_, rfl, _, _, rfl, rfl, ⟨by decide, by decide⟩, o, ?_, rfl⟩
      rw [show ((n / 4 / 26 ^ (i + 1) : Nat) : Int) = ((n / 4 / 26 ^ i : Nat) : Int) / 26 by rw [Nat.pow_succ, ← Nat.div_div_eq_div_mul]; omega]
      rfl
    · rintro σ G ⟨o, rfl, rfl⟩
      exact ⟨_, rfl, k⟩
abbrev s_L_text_by : Stmt := top 32
theorem sc_L_text_by : FnScope ["_law_shape", "_law_names", "_law_rows", "_law_place", "_law_row", "_law_face"] ["_law_shape", "_law_names"] (defScope s_L_text_by) := ⟨rfl, rfl, rfl, by decide +kernel, rfl, by decide +kernel, by decide +kernel⟩
theorem nd_L_text_by : (["_law_shape", "_law_names", "_law_rows", "_law_place", "_law_row", "_law_face"] : List Str).Nodup := by decide +kernel

theorem ok_L_text_by {f : Addr} {fd : FuncData} (F : Fun K "_law_text_by" "_law_text_by" s_L_text_by f fd) (T : Txt K mg)  : FnOk P w K mg base CX0 1 f fd ["_law_shape", "_law_names"] (sp_L_text_by K) := by
  refine F.ok sc_L_text_by (fun vs H Q E h => ?_) (fun cdv A outer s H vs Q E hr h => ?_)
  · obtain ⟨v, n, xs, names, rfl, hL, hq, hs, hx, hnl, hn, k⟩ := h
    rfl
  · obtain ⟨v, n, xs, names, rfl, hL, hq, hs, hx, hnl, hn, k⟩ := h
    refine ⟨_, (pss_cons (ps_set (i := 2) nd_L_text_by (by rfl) (by first | exact Or.inl rfl | exact Or.inr rfl) (pe_lst pa_nil))
      (pss_cons (ps_for PassesOwn.never rfl (pi_range1 (by rfl) T.n_range (pa_cons (pe_callB (kcall_len_seq (K := K)) (by rfl) T.n_len PySem.boot_len (pa_cons (pv 0) pa_nil)) pa_nil)) (pg_name (i := 3) nd_L_text_by (by rfl) (by first | exact Or.inl rfl | exact Or.inr rfl)) (pss_cons (ps_set (i := 4) nd_L_text_by (by rfl) (by first | exact Or.inl rfl | exact Or.inr rfl) (pe_ix (kix_list (K := K)) (pv 1) (pv 3) (fun _ _ => rfl)))
      (pss_cons (ps_for PassesOwn.never rfl (kpi_tup (K := K) (pe_ix (kix_list (K := K)) (pv 0) (pv 3) (fun _ _ => rfl))) (pg_name (i := 5) nd_L_text_by (by rfl) (by first | exact Or.inl rfl | exact Or.inr rfl)) (pss_one (ps_set (i := 4) nd_L_text_by (by rfl) (by first | exact Or.inl rfl | exact Or.inr rfl) (pe_op op_add_str (pe_op op_add_str (pv 4) pe_str) (pe_ix (kix_list (K := K)) (pv 1) (pv 5) (fun _ _ => rfl))))))
      (pss_one (ps_expr (kpe_bm (K := K) PySem.F.plainAttrs_list PySem.F.slot_list_append PySem.F.type_list_append mt_append (pv 2) (pa_cons (pv 4) pa_nil)))))))
      (pss_one (ps_ret (kpe_bm (K := K) PySem.F.plainAttrs_str PySem.F.slot_str_join PySem.F.type_str_join (kmt_join (K := K)) pe_str (pa_cons (pv 2) pa_nil)))))), ?_⟩
    obtain ⟨a, us, rfl, ha, r⟩ := id hL
    have hl : us.length = xs.length := by have := r.length; simpa using this
    refine tSeq_cut (fun σ' H' => ∃ D : Addr, σ' = [some (.ref a), some (.ref n), some (.ref D), none, none, none] ∧ H D = none ∧ Same H H' ∧ H' D = some (.lst [])) ?_ fun key => ?_
    rotate_left
    · exact ⟨Nat.zero_le _, fun D hD => key _ _ ⟨D, rfl, hD, Same.new hD, upd_same⟩⟩
    rintro _ H1 ⟨D, rfl, hD, s1, h1⟩
    refine ⟨_, rfl, a, _, rfl, .inl (s1.seq ha), _, rfl, by omega, by omega, ?_⟩
    refine for_range (fun i σ G => ∃ o3 o4 o5, σ = [some (.ref a), some (.ref n), some (.ref D), o3, o4, o5] ∧ Same H G ∧ G D = some (.lst (((List.range i).map fun k => rowT names k (xs.getD k [])).map V.str)))
      ⟨none, none, none, rfl, s1, h1⟩ ?_ ?_
    · rintro i σ G hi0 ⟨o3, o4, o5, rfl, s2, hD2⟩
      have hi : i < xs.length := by omega
      obtain ⟨fk, f4⟩ := face_ok hs hi
      obtain ⟨z1, z2, z3⟩ := row_len hn (k := i) (by omega) (fun f hf => ⟨(fk f hf).1, by have := (fk f hf).2; omega⟩) f4
      have e0 : (0 : Int) + (i : Int) = (i : Int) := by omega
      rw [e0]
      refine tSeq_cut (fun σ' H' => σ' = [some (.ref a), some (.ref n), some (.ref D), some (.int i), some (.str (nmAt names i)), o5] ∧ G = H') ?_ fun key => ?_
      rotate_left
      · exact ⟨_, rfl, _, rfl, n, _, _, _, rfl, rfl, s2.seq hq, nm_at (by omega) (by omega), key _ _ ⟨by rw [show ((i : Int)).toNat = i from Int.toNat_natCast i]; rfl, rfl⟩⟩
      rintro _ _ ⟨rfl, rfl⟩
      have hg : us[i]? = some us[i] := List.getElem?_eq_getElem (by omega)
      obtain ⟨dv, hdv, rv⟩ := r.getV hg
      have edv : dv = tI (xs.getD i []) := by
        rw [List.getElem?_map, List.getElem?_eq_getElem hi] at hdv
        rw [List.getD_eq_getElem?_getD, List.getElem?_eq_getElem hi]
        simpa using hdv.symm
      subst edv
      obtain ⟨b, ws, eb, hb, rb⟩ := rv
      cases (reps_nums.mp rb)
      have lenj : ∀ j, ((((xs.getD i []).take j).map fun f => nmAt names f.toNat).foldl (fun acc x => acc ++ Str.ofString " " ++ x) (nmAt names i)).length ≤ 50 := fun j => by
        rw [fold_join]
        exact (row_len hn (k := i) (p := (xs.getD i []).take j) (by omega) (fun f hf => by have := fk f (List.mem_of_mem_take hf); exact ⟨this.1, by have := this.2; omega⟩) (by rw [List.length_take]; omega)).2.2
      refine tSeq_cut (fun σ' H' => ∃ o, σ' = [some (.ref a), some (.ref n), some (.ref D), some (.int i), some (.str (rowT names i (xs.getD i []))), o] ∧ G = H') ?_ fun key => ?_
      rotate_left
      · refine ⟨_, rfl, _, rfl, a, us, _, .ref b, rfl, rfl, s2.seq ha, atI_nat (by rw [hg, eb]), b, rfl, ⟨_, s2.seqT hb⟩, ?_⟩
        refine for_tup (K := K) (a := b) (xs := (xs.getD i []).map V.int) (fun j σ G1 => ∃ o, σ = [some (.ref a), some (.ref n), some (.ref D), some (.int i), some (.str ((((xs.getD i []).take j).map fun f => nmAt names f.toNat).foldl (fun acc x => acc ++ Str.ofString " " ++ x) (nmAt names i))), o] ∧ G = G1)
          ⟨_, rfl, rfl⟩ (fun j σ G1 _ ⟨_, _, e⟩ => e ▸ s2.seqT hb) ?_ ?_
        · rintro j x σ G1 hx ⟨o, rfl, rfl⟩
          rw [List.getElem?_map] at hx
          obtain ⟨f, hf, rfl⟩ := Option.map_eq_some_iff.mp hx
          have hj : j < (xs.getD i []).length := (List.getElem?_eq_some_iff.mp hf).1
          obtain ⟨f0, f1⟩ := fk f (List.mem_of_getElem? hf)
          have ln := lenj j
          have ok8 := (nm_ok hn (k := f.toNat) (by omega)).le
          have e1 : (Str.ofString " ").length = 1 := by decide +kernel
          refine ⟨_, rfl, _, _, rfl, rfl, smallE (by rw [e1]; omega), _, rfl, _, rfl, n, _, _, _, rfl, rfl, s2.seq hq, nm_at f0 (by omega), _, _, rfl, rfl, smallE ?_, some (.int f), ?_, rfl⟩
          · have e2 : ∀ A B : Str, (A ++ B).length = A.length + B.length := fun A B => by simp [Str.length, Str.cps_append]
            rw [e2, e1]
            omega
          · rw [List.take_add_one, hf, List.map_append, List.foldl_append]
            rfl
        · rintro σ G1 ⟨o, rfl, rfl⟩
          refine key _ _ ⟨o, ?_, rfl⟩
          rw [List.length_map, List.take_length, fold_join]
          rfl
      rintro _ _ ⟨o, rfl, rfl⟩
      refine ⟨_, rfl, .inl ⟨rfl, _, .of hD2⟩, _, rfl, D, _, _, rfl, rfl, hD2, small (by simp; omega), _, _, _, rfl, s2.turn hD, ?_⟩
      rw [upd_same, List.range_succ, List.map_append, List.map_append]
      rfl
    · rintro σ G ⟨o3, o4, o5, rfl, s2, hD2⟩
      rw [show ((us.length : Int)).toNat = xs.length by omega] at hD2
      refine ⟨rfl, _, rfl, Str.ofString "; ", D, _, rfl, rfl, .of hD2, ?_, ?_⟩
      · have e : (Str.ofString "; ").length = 2 := by decide +kernel
        have h1 := sum_le (ys := (List.range xs.length).map fun k => rowT names k (xs.getD k [])) (B := 50) fun y hy => by
          obtain ⟨k, hk, rfl⟩ := List.mem_map.mp hy
          have hk := List.mem_range.mp hk
          obtain ⟨fk, f4⟩ := face_ok hs hk
          exact (row_len hn (by omega) (fun f hf => ⟨(fk f hf).1, by have := (fk f hf).2; omega⟩) f4).2.2
        rw [e]
        rw [List.length_map, List.length_range] at h1 ⊢
        omega
      · rw [tjoin]
        have e2 : textT xs names = Str.join (Str.ofString "; ") ((List.range xs.length).map fun k => rowT names k (xs.getD k [])) := by
          unfold textT rowsW
          rw [List.map_map]
          rfl
        rw [← e2]
        exact k G s2
abbrev s_L_cell_at : Stmt := top 33
theorem sc_L_cell_at : FnScope ["_law_script", "_law_k"] ["_law_script", "_law_k"] (defScope s_L_cell_at) := ⟨rfl, rfl, rfl, by decide +kernel, rfl, by decide +kernel, by decide +kernel⟩
theorem ok_L_cell_at {f : Addr} {fd : FuncData} (F : Fun K "_law_cell_at" "_law_cell_at" s_L_cell_at f fd) (T : Txt K mg)  : FnOk P w K mg base CX0 1 f fd ["_law_script", "_law_k"] (sp_L_cell_at K) := by
  refine F.ok sc_L_cell_at (fun vs H Q E h => ?_) (fun cdv A outer s H vs Q E hr h => ?_)
  · obtain ⟨a, ns, k, rfl, hS, h0, hl, kq⟩ := h
    rfl
  · obtain ⟨a, ns, k, rfl, hS, h0, hl, kq⟩ := h
    refine ⟨_, (pss_cons (ps_if (pt_cmpR op_lt (pv 1) (pe_callB (kcall_len_seq (K := K)) (by rfl) T.n_len PySem.boot_len (pa_cons (pv 0) pa_nil)) (nomark _)) (pss_one (ps_ret (pe_ix (kix_list (K := K)) (pv 0) (pv 1) (fun _ _ => rfl)))) pss_nil)
      (pss_one (ps_ret pe_int))), ?_⟩
    refine ⟨_, rfl, _, rfl, a, _, rfl, .inl hS, _, _, rfl, rfl, _, rfl, ?_⟩
    refine ite2 (fun h1 => ?_) (fun h1 => ?_)
    · have h2 : k < (ns.length : Int) := by simpa using h1
      have e : atI (ns.map V.int) k = some (.int (cellAt ns k)) := by
        obtain ⟨j, rfl⟩ := Int.eq_ofNat_of_zero_le h0
        refine atI_nat ?_
        have hj : j < ns.length := by omega
        rw [List.getElem?_map, List.getElem?_eq_getElem hj]
        simp [cellAt, hj]
      exact ⟨_, rfl, _, rfl, a, _, k, _, rfl, rfl, hS, e, kq⟩
    · have h2 : ¬ k < (ns.length : Int) := by simpa using h1
      have e : cellAt ns k = 0 := by
        unfold cellAt
        have : ns.length ≤ k.toNat := by omega
        simp [this]
      rw [e] at kq
      exact kq
abbrev s_L_faces_by : Stmt := top 34
theorem sc_L_faces_by : FnScope ["_law_word", "_law_family", "_law_size", "_law_faces", "_law_i"] ["_law_word", "_law_family"] (defScope s_L_faces_by) := ⟨rfl, rfl, rfl, by decide +kernel, rfl, by decide +kernel, by decide +kernel⟩
theorem nd_L_faces_by : (["_law_word", "_law_family", "_law_size", "_law_faces", "_law_i"] : List Str).Nodup := by decide +kernel

theorem ok_L_faces_by {f : Addr} {fd : FuncData} (F : Fun K "_law_faces_by" "_law_faces_by" s_L_faces_by f fd) (T : Txt K mg)  : FnOk P w K mg base CX0 1 f fd ["_law_word", "_law_family"] (sp_L_faces_by K) := by
  refine F.ok sc_L_faces_by (fun vs H Q E h => ?_) (fun cdv A outer s H vs Q E hr h => ?_)
  · obtain ⟨v, w, fam, rfl, hv, hw, k⟩ := h
    rfl
  · obtain ⟨v, w, fam, rfl, hv, hw, k⟩ := h
    refine ⟨_, (pss_cons (ps_set (i := 2) nd_L_faces_by (by rfl) (by first | exact Or.inl rfl | exact Or.inr rfl) (pe_callB (kcall_len_seq (K := K)) (by rfl) T.n_len PySem.boot_len (pa_cons (pv 0) pa_nil)))
      (pss_cons (ps_if (pt_cmpR op_eq (pv 1) pe_int (nomark _)) (pss_cons (ps_if (pt_cmpR op_lt (pv 2) pe_int (nomark _)) (pss_one (ps_ret (pe_lst pa_nil))) pss_nil)
      (pss_one (ps_ret (pe_comp (N' := ["_law_i", "_law_word"]) (cap := [none, some 0]) (by rfl) (by kernel_rfl) (pi_range1 (by rfl) T.n_range (pa_cons (pv 2) pa_nil)) (fun _ _ _ _ => (pg_name (i := 0) ndc_8 (by rfl) (by first | exact Or.inl rfl | exact Or.inr rfl))) (fun _ _ _ _ => pts_nil) (fun _ _ _ _ => (pe_op (kop_catW (K := K)) (pe_slice (ksl_tupW (K := K)) (pv 1) po_none (po_some (pv 0))) (pe_slice (ksl_tupW (K := K)) (pv 1) (po_some (pe_op op_add (pv 0) pe_int)) po_none))))))) pss_nil)
      (pss_cons (ps_if (pt_cmpR op_eq (pv 2) pe_int (nomark _)) (pss_one (ps_ret (pe_lst pa_nil))) pss_nil)
      (pss_cons (ps_if (pt_cmpR op_lt (pv 1) pe_int (nomark _)) (pss_cons (ps_if (pt_cmpR op_eq (pv 2) pe_int (nomark _)) (pss_one (ps_ret (pe_lst (pa_cons (pe_tup pa_nil) (pa_cons (pe_tup pa_nil) pa_nil))))) pss_nil)
      (pss_one (ps_ret (pe_comp (N' := ["_law_letter"]) (cap := [none]) (by rfl) (by kernel_rfl) (kpi_tup (K := K) (pv 0)) (fun _ _ _ _ => (pg_name (i := 0) ndc_7 (by rfl) (by first | exact Or.inl rfl | exact Or.inr rfl))) (fun _ _ _ _ => pts_nil) (fun _ _ _ _ => (pe_tup (pa_cons (pv 0) pa_nil))))))) pss_nil)
      (pss_cons (ps_set (i := 3) nd_L_faces_by (by rfl) (by first | exact Or.inl rfl | exact Or.inr rfl) (pe_lst (pa_cons (pe_slice (ksl_tupW (K := K)) (pv 0) (po_some pe_int) po_none) pa_nil)))
      (pss_cons (ps_for PassesOwn.never rfl (pi_range1 (by rfl) T.n_range (pa_cons (pe_op op_sub (pv 2) pe_int) pa_nil)) (pg_name (i := 4) nd_L_faces_by (by rfl) (by first | exact Or.inl rfl | exact Or.inr rfl)) (pss_one (ps_expr (kpe_bm (K := K) PySem.F.plainAttrs_list PySem.F.slot_list_append PySem.F.type_list_append mt_append (pv 3) (pa_cons (pe_op (kop_catW (K := K)) (pe_op (kop_catW (K := K)) (pe_slice (ksl_tupW (K := K)) (pv 0) po_none (po_some (pv 4))) (pe_tup (pa_cons (pe_op op_mod (pe_op op_add (pe_ix (kix_tup (K := K)) (pv 0) (pv 4) (fun _ _ => rfl)) (pe_ix (kix_tup (K := K)) (pv 0) (pe_op op_add (pv 4) pe_int) (fun _ _ => rfl))) (pv 1)) pa_nil))) (pe_slice (ksl_tupW (K := K)) (pv 0) (po_some (pe_op op_add (pv 4) pe_int)) po_none)) pa_nil)))))
      (pss_cons (ps_expr (kpe_bm (K := K) PySem.F.plainAttrs_list PySem.F.slot_list_append PySem.F.type_list_append mt_append (pv 3) (pa_cons (pe_slice (ksl_tupW (K := K)) (pv 0) po_none (po_some (pe_op op_sub (pv 2) pe_int))) pa_nil)))
      (pss_one (ps_ret (pv 3)))))))))), ?_⟩
    obtain ⟨aw, rfl, hq⟩ := hv.sq
    have hlen : (w.map V.int).length = w.length := List.length_map ..
    have hl4 : w.length ≤ 4 := by rcases hw with z | z | z <;> omega
    refine ⟨_, rfl, aw, _, rfl, .inr hq, ?_⟩
    rw [hlen]
    refine ⟨_, rfl, rfl, _, rfl, ?_⟩
    refine ite2 (fun h1 => ?_) (fun h1 => ?_)
    · have hf : fam = 0 := by simpa using h1
      subst hf
      refine ⟨_, rfl, _, _, rfl, rfl, _, rfl, ?_⟩
      refine ite2 (fun h2 => ?_) (fun h2 => ?_)
      · have h3 : w.length < 2 := by have : (w.length : Int) < 2 := by simpa using h2
                                     omega
        refine ⟨Nat.zero_le _, fun p hp => ?_⟩
        refine k p [] _ hp (Same.new hp) upd_same ?_
        have e : facesBy w 0 = [] := by unfold facesBy; rw [if_pos rfl, if_pos h3]
        rw [e]
        rfl
      · have h3 : ¬ w.length < 2 := by have : ¬ (w.length : Int) < 2 := by simpa using h2
                                       omega
        have e : facesBy w 0 = (List.range w.length).map fun i => w.take i ++ w.drop (i + 1) := by unfold facesBy; rw [if_pos rfl, if_neg h3]
        rw [e] at k
        refine ⟨_, rfl, _, rfl, by omega, by omega, fun D hD => ?_⟩
        refine comp_range0 (fun i ys τ H1 => i ≤ w.length ∧ Same H H1 ∧ H1 D = some (.lst ys) ∧ Reps K H1 ys (((List.range i).map fun i => w.take i ++ w.drop (i + 1)).map tI) ∧ ∃ o, τ = [o, some (.ref aw)])
          ⟨Nat.zero_le _, Same.new hD, upd_same, rfl, none, rfl⟩ ?_ ?_
        · rintro i ys τ H1 hi ⟨hi1, s1, hD1, r1, o, rfl⟩
          have hi2 : i < w.length := by simpa using hi
          have hq1 : SqT K H1 aw (w.map V.int) := s1.seqT hq
          refine ⟨_, rfl, _, rfl, _, rfl, aw, _, rfl, hq1, ?_, fun p1 H2 s2 q2 => ?_⟩
          · rw [hlen]; rintro ⟨_, z⟩
            rw [show ((0 : Int) + (i : Int)) = ((i : Nat) : Int) by omega, HT.sIx_nat] at z
            omega
          refine ⟨_, rfl, _, rfl, _, _, rfl, rfl, _, rfl, aw, _, rfl, s2.seqT hq1, ?_, fun p2 H3 s3 q3 => ?_⟩
          · rw [hlen]; rintro ⟨z, _⟩
            rw [show ((0 : Int) + (i : Int) + 1) = ((i + 1 : Nat) : Int) by omega, HT.sIx_nat] at z
            omega
          rw [show ((0 : Int) + (i : Int)) = ((i : Nat) : Int) by omega, cut_take] at q2
          rw [show ((0 : Int) + (i : Int) + 1) = ((i + 1 : Nat) : Int) by omega, cut_drop] at q3
          refine ⟨p1, p2, _, _, rfl, rfl, s3.seqT q2, q3, ?_, fun p H4 s4 q4 => ?_⟩
          · refine smallE ?_
            simp only [List.length_take, List.length_drop, List.length_map]
            omega
          have s14 : Same H1 H4 := (s2.trans s3).trans s4
          have hD4 : H4 D = some (.lst ys) := s14 _ _ hD1
          have t4 : TI K H4 (.ref p) (w.take i ++ w.drop (i + 1)) := by
            refine TI.mk ?_
            rw [List.map_append, List.map_take, List.map_drop]
            exact q4
          have r4 : Reps K H4 ys (((List.range i).map fun i => w.take i ++ w.drop (i + 1)).map tI) := Reps.same s14 r1
          have hyl : ys.length = i := by have := r1.length; simpa using this
          refine ⟨hD4, small (by omega), by omega, (s1.trans s14).turn hD, upd_same, ?_, _, rfl⟩
          rw [List.range_succ, List.map_append]
          exact push_TI hD4 r4 t4
        · rintro ys τ H1 ⟨_, s1, hD1, r1, _⟩
          rw [show ((w.length : Int)).toNat = w.length by omega] at r1
          exact k D ys H1 hD s1 hD1 r1
    · have hf : ¬ fam = 0 := by simpa using h1
      refine ⟨_, rfl, rfl, _, rfl, ?_⟩
      refine ite2 (fun h2 => ?_) (fun h2 => ?_)
      · have h3 : w.length = 0 := by simpa using h2
        refine ⟨Nat.zero_le _, fun p hp => ?_⟩
        refine k p [] _ hp (Same.new hp) upd_same ?_
        have e : facesBy w fam = [] := by unfold facesBy; rw [if_neg hf, if_pos h3]
        rw [e]
        rfl
      have h3 : ¬ w.length = 0 := by simpa using h2
      refine ⟨_, rfl, _, _, rfl, rfl, _, rfl, ?_⟩
      refine ite2 (fun h4 => ?_) (fun h4 => ?_)
      · have h5 : fam < 0 := by simpa using h4
        refine ⟨_, rfl, rfl, _, rfl, ?_⟩
        refine ite2 (fun h6 => ?_) (fun h6 => ?_)
        · have h7 : w.length = 1 := by
            have : (w.length : Int) = 1 := by simpa using h6
            omega
          have e : facesBy w fam = [[], []] := by unfold facesBy; rw [if_neg hf, if_neg h3, if_pos h5, if_pos h7]
          rw [e] at k
          refine ⟨Nat.zero_le _, fun p1 hp1 => ⟨Nat.zero_le _, fun p2 hp2 => ⟨smallE (by simp), fun p hp => ?_⟩⟩⟩
          have s1 : Same H (upd H p1 (.tup [])) := Same.new hp1
          have s2 : Same (upd H p1 (.tup [])) (upd (upd H p1 (.tup [])) p2 (.tup [])) := Same.new hp2
          have s3 : Same (upd (upd H p1 (.tup [])) p2 (.tup [])) (upd (upd (upd H p1 (.tup [])) p2 (.tup [])) p (.lst [.ref p1, .ref p2])) := Same.new hp
          have hp0 : H p = none := (s1.trans s2).free hp
          refine k p _ _ hp0 ((s1.trans s2).trans s3) upd_same ?_
          have t1 : TI K _ (.ref p1) [] := TI.mk (.of (s3 _ _ (s2 _ _ upd_same)))
          have t2 : TI K _ (.ref p2) [] := TI.mk (.of (s3 _ _ upd_same))
          exact ⟨_, _, rfl, t1, _, _, rfl, t2, rfl⟩
        · have h7 : ¬ w.length = 1 := by
            have : ¬ (w.length : Int) = 1 := by simpa using h6
            omega
          have e : facesBy w fam = w.map fun l => [l] := by unfold facesBy; rw [if_neg hf, if_neg h3, if_pos h5, if_neg h7]
          rw [e] at k
          refine ⟨_, rfl, aw, rfl, ⟨_, hq⟩, fun D hD => ?_⟩
          refine comp_tup0 (xs := w.map V.int) (fun i ys τ H1 => i ≤ w.length ∧ Same H H1 ∧ H1 D = some (.lst ys) ∧ Reps K H1 ys (((w.take i).map fun l => [l]).map tI) ∧ ∃ o, τ = [o])
            ⟨Nat.zero_le _, Same.new hD, upd_same, rfl, none, rfl⟩ (fun i ys τ H1 _ ⟨_, s1, _⟩ => s1.seqT hq) ?_ ?_
          · rintro i x ys τ H1 hx ⟨hi1, s1, hD1, r1, o, rfl⟩
            have hi2 : i < w.length := by have := (List.getElem?_eq_some_iff.mp hx).1; simpa using this
            have hx2 : x = .int w[i] := by
              rw [List.getElem?_map, List.getElem?_eq_getElem hi2] at hx
              simpa using hx.symm
            subst hx2
            refine ⟨_, rfl, smallE (by simp), fun p hp => ?_⟩
            have s2 : Same H1 (upd H1 p (.tup [.int w[i]])) := Same.new hp
            have hD4 := s2 _ _ hD1
            have t4 : TI K (upd H1 p (.tup [.int w[i]])) (.ref p) [w[i]] := TI.mk (.of upd_same)
            have r4 := Reps.same s2 r1
            have hyl : ys.length = i := by have := r1.length; simp at this; omega
            refine ⟨hD4, small (by omega), by omega, (s1.trans s2).turn hD, upd_same, ?_, _, rfl⟩
            have e2 : (w.take (i + 1)).map (fun l => [l]) = (w.take i).map (fun l => [l]) ++ [[w[i]]] := by
              rw [List.take_succ, List.getElem?_eq_getElem hi2, List.map_append]
              rfl
            rw [e2]
            exact push_TI hD4 r4 t4
          · rintro ys τ H1 ⟨_, s1, hD1, r1, _⟩
            rw [hlen, List.take_length] at r1
            exact k D ys H1 hD s1 hD1 r1
      have h5 : ¬ fam < 0 := by simpa using h4
      have hpos : 0 < fam := by omega
      have e : facesBy w fam = w.drop 1 :: ((List.range (w.length - 1)).map fun i => w.take i ++ [(w.getD i 0 + w.getD (i + 1) 0) % fam] ++ w.drop (i + 2)) ++ [w.take (w.length - 1)] := by
        unfold facesBy; rw [if_neg hf, if_neg h3, if_neg h5]
      rw [e] at k
      refine ⟨_, rfl, _, rfl, aw, _, rfl, hq, ?_, fun p1 H1 s1 q1 => ⟨smallE (by simp), fun D hD => ?_⟩⟩
      · rw [hlen]; rintro ⟨z, _⟩
        rw [show (1 : Int) = ((1 : Nat) : Int) by omega, HT.sIx_nat] at z
        omega
      rw [show (1 : Int) = ((1 : Nat) : Int) by omega, cut_drop] at q1
      have hD0 : H D = none := s1.free hD
      have s2 : Same H1 (upd H1 D (.lst [.ref p1])) := Same.new hD
      have t1 : TI K (upd H1 D (.lst [.ref p1])) (.ref p1) (w.drop 1) := by
        refine TI.mk ?_
        rw [List.map_drop]
        exact s2.seqT q1
      have hn : ((w.length : Int) - 1).toNat = w.length - 1 := by omega
      refine ⟨_, rfl, _, _, rfl, rfl, _, rfl, by omega, by omega, for_range (lo := 0) (n := ((w.length : Int) - 1).toNat)
        (fun i σ H2 => ∃ (ys : List V) (o : Option V), σ = [some (.ref aw), some (.int fam), some (.int w.length), some (.ref D), o] ∧ Same H H2 ∧ H2 D = some (.lst ys) ∧
          Reps K H2 ys ((w.drop 1 :: ((List.range i).map fun i => w.take i ++ [(w.getD i 0 + w.getD (i + 1) 0) % fam] ++ w.drop (i + 2))).map tI))
        ⟨_, none, rfl, s1.trans s2, upd_same, ⟨_, _, rfl, t1, rfl⟩⟩ ?_ ?_⟩
      · rintro i σ H2 hi ⟨ys, o, rfl, sH, hD2, r2⟩
        rw [hn] at hi
        have hq2 : SqT K H2 aw (w.map V.int) := sH.seqT hq
        have c0 : ((0 : Int) + (i : Int)) = ((i : Nat) : Int) := by omega
        have c1 : ((0 : Int) + (i : Int) + 1) = ((i + 1 : Nat) : Int) := by omega
        have c2 : ((0 : Int) + (i : Int) + 2) = ((i + 2 : Nat) : Int) := by omega
        have at0 : atI (w.map V.int) ((0 : Int) + (i : Int)) = some (.int (w.getD i 0)) := by
          rw [c0]
          refine atI_nat ?_
          rw [List.getElem?_map, List.getElem?_eq_getElem (by omega)]
          simp [show i < w.length by omega]
        have at1 : atI (w.map V.int) ((0 : Int) + (i : Int) + 1) = some (.int (w.getD (i + 1) 0)) := by
          rw [c1]
          refine atI_nat ?_
          rw [List.getElem?_map, List.getElem?_eq_getElem (by omega)]
          simp [show i + 1 < w.length by omega]
        refine ⟨_, rfl, .inl ⟨rfl, _, SqL.of hD2⟩, ?_⟩
        refine ⟨_, rfl, _, rfl, _, rfl, aw, _, rfl, hq2, ?_, fun pa Ha sa qa => ?_⟩
        · rw [hlen]; rintro ⟨_, z⟩
          rw [c0, HT.sIx_nat] at z
          omega
        rw [c0, cut_take] at qa
        refine ⟨_, rfl, _, rfl, aw, _, _, _, rfl, rfl, sa.seqT hq2, at0, _, rfl, _, rfl, _, _, rfl, rfl, aw, _, _, _, rfl, rfl, sa.seqT hq2, at1, _, _, rfl, rfl, _, rfl, _, _, rfl, rfl, hpos, smallE (by simp), fun pb hb => ?_⟩
        have sb : Same Ha (upd Ha pb (.tup [.int ((w.getD i 0 + w.getD (i + 1) 0) % fam)])) := Same.new hb
        refine ⟨pa, pb, _, _, rfl, rfl, sb.seqT qa, .of upd_same, smallE (by simp; omega), fun pc Hc sc qc => ?_⟩
        have sac := (sa.trans sb).trans sc
        refine ⟨_, rfl, _, rfl, _, _, rfl, rfl, _, rfl, aw, _, rfl, sac.seqT hq2, ?_, fun pd Hd sd qd => ?_⟩
        · rw [hlen]; rintro ⟨z, _⟩
          rw [c2, HT.sIx_nat] at z
          omega
        rw [c2, cut_drop] at qd
        refine ⟨pc, pd, _, _, rfl, rfl, sd.seqT qc, qd, smallE (by simp; omega), fun pe He se qe => ?_⟩
        have sall := (sac.trans sd).trans se
        have hDe := sall _ _ hD2
        have te : TI K He (.ref pe) (w.take i ++ [(w.getD i 0 + w.getD (i + 1) 0) % fam] ++ w.drop (i + 2)) := by
          refine TI.mk ?_
          simp only [List.map_append, List.map_take, List.map_drop, List.map_cons, List.map_nil]
          exact qe
        have hyl : ys.length = i + 1 := by have := r2.length; simpa using this
        refine ⟨D, _, _, rfl, rfl, hDe, small (by omega), ?_⟩
        refine ⟨_, _, rfl, (sH.trans sall).turn hD0, upd_same, ?_⟩
        have e3 : (w.drop 1 :: ((List.range (i + 1)).map fun i => w.take i ++ [(w.getD i 0 + w.getD (i + 1) 0) % fam] ++ w.drop (i + 2))) =
            (w.drop 1 :: ((List.range i).map fun i => w.take i ++ [(w.getD i 0 + w.getD (i + 1) 0) % fam] ++ w.drop (i + 2))) ++ [w.take i ++ [(w.getD i 0 + w.getD (i + 1) 0) % fam] ++ w.drop (i + 2)] := by
          rw [List.range_succ, List.map_append]
          rfl
        rw [e3]
        exact push_TI hDe (Reps.same sall r2) te
      · rintro σ H2 ⟨ys, o, rfl, sH, hD2, r2⟩
        rw [hn] at r2
        have hq2 : SqT K H2 aw (w.map V.int) := sH.seqT hq
        have c1 : ((w.length : Int) - 1) = ((w.length - 1 : Nat) : Int) := by omega
        refine ⟨_, rfl, .inl ⟨rfl, _, SqL.of hD2⟩, _, rfl, _, rfl, _, _, rfl, rfl, _, rfl, aw, _, rfl, hq2, ?_, fun pa Ha sa qa => ?_⟩
        · rw [hlen]; rintro ⟨_, z⟩
          rw [c1, HT.sIx_nat] at z
          omega
        rw [c1, cut_take] at qa
        have hDa := sa _ _ hD2
        have ta : TI K Ha (.ref pa) (w.take (w.length - 1)) := by
          refine TI.mk ?_
          rw [List.map_take]
          exact qa
        have hyl : ys.length = w.length := by have := r2.length; simp at this; omega
        refine ⟨D, _, _, rfl, rfl, hDa, small (by omega), ?_⟩
        refine ⟨_, rfl, ?_⟩
        exact k D _ _ hD0 ((sH.trans sa).turn hD0) upd_same (push_TI hDa (Reps.same sa r2) ta)
abbrev s_L_word_by : Stmt := top 35
theorem sc_L_word_by : FnScope ["_law_cell", "_law_family", "_law_letters", "_law_size", "_law_base", "_law_word", "_law_k"] ["_law_cell", "_law_family", "_law_letters"] (defScope s_L_word_by) := ⟨rfl, rfl, rfl, by decide +kernel, rfl, by decide +kernel, by decide +kernel⟩
theorem nd_L_word_by : (["_law_cell", "_law_family", "_law_letters", "_law_size", "_law_base", "_law_word", "_law_k"] : List Str).Nodup := by decide +kernel

theorem ok_L_word_by {f : Addr} {fd : FuncData} (F : Fun K "_law_word_by" "_law_word_by" s_L_word_by f fd) (T : Txt K mg)  : FnOk P w K mg base CX0 1 f fd ["_law_cell", "_law_family", "_law_letters"] (sp_L_word_by K) := by
  refine F.ok sc_L_word_by (fun vs H Q E h => ?_) (fun cdv A outer s H vs Q E hr h => ?_)
  · obtain ⟨c, fam, letters, rfl, hl0, hl1, hf, k⟩ := h
    rfl
  · obtain ⟨c, fam, letters, rfl, hl0, hl1, hf, k⟩ := h
    refine ⟨_, (pss_cons (ps_set (i := 0) nd_L_word_by (by rfl) (by first | exact Or.inl rfl | exact Or.inr rfl) (pe_op op_mod (pv 0) pe_int))
      (pss_cons (ps_set (i := 3) nd_L_word_by (by rfl) (by first | exact Or.inl rfl | exact Or.inr rfl) (pe_op op_mod (pv 0) pe_int))
      (pss_cons (ps_set (i := 4) nd_L_word_by (by rfl) (by first | exact Or.inl rfl | exact Or.inr rfl) (pv 2))
      (pss_cons (ps_if (pt_cmpR op_eq (pv 1) pe_int (nomark _)) (pss_one (ps_set (i := 3) nd_L_word_by (by rfl) (by first | exact Or.inl rfl | exact Or.inr rfl) (pe_op op_add (pv 3) pe_int))) pss_nil)
      (pss_cons (ps_if (PW.pt (pw_and (pt_cmpR op_lt (pv 1) pe_int (nomark _)) (pw_and1 (pt_cmpR op_ne (pv 3) pe_int (nomark _))))) (pss_one (ps_set (i := 3) nd_L_word_by (by rfl) (by first | exact Or.inl rfl | exact Or.inr rfl) pe_int)) pss_nil)
      (pss_cons (ps_if (pt_cmpR op_gt (pv 1) pe_int (nomark _)) (pss_one (ps_set (i := 4) nd_L_word_by (by rfl) (by first | exact Or.inl rfl | exact Or.inr rfl) (pv 1))) pss_nil)
      (pss_cons (ps_set (i := 0) nd_L_word_by (by rfl) (by first | exact Or.inl rfl | exact Or.inr rfl) (pe_op op_fdiv (pv 0) pe_int))
      (pss_cons (ps_set (i := 5) nd_L_word_by (by rfl) (by first | exact Or.inl rfl | exact Or.inr rfl) (pe_tup pa_nil))
      (pss_cons (ps_for PassesOwn.never rfl (pi_range1 (by rfl) T.n_range (pa_cons (pv 3) pa_nil)) (pg_name (i := 6) nd_L_word_by (by rfl) (by first | exact Or.inl rfl | exact Or.inr rfl)) (pss_cons (ps_set (i := 5) nd_L_word_by (by rfl) (by first | exact Or.inl rfl | exact Or.inr rfl) (pe_op (kop_catW (K := K)) (pv 5) (pe_tup (pa_cons (pe_op op_mod (pv 0) (pv 4)) pa_nil))))
      (pss_one (ps_set (i := 0) nd_L_word_by (by rfl) (by first | exact Or.inl rfl | exact Or.inr rfl) (pe_op op_fdiv (pv 0) (pv 4))))))
      (pss_one (ps_ret (pv 5)))))))))))), ?_⟩
    have m1 : 0 ≤ c % 1000000 % 4 := Int.emod_nonneg _ (by decide)
    have m2 : c % 1000000 % 4 < 4 := Int.emod_lt_of_pos _ (by decide)
    refine ⟨_, rfl, _, _, rfl, rfl, (by show (0 : Int) < 1000000; decide), ?_⟩
    refine ⟨_, rfl, _, _, rfl, rfl, (by show (0 : Int) < 4; decide), ?_⟩
    refine ⟨_, rfl, ?_⟩
    have fork : (fam = 0) ∨ (fam < 0 ∧ c % 1000000 % 4 = 1) ∨ (fam < 0 ∧ ¬ c % 1000000 % 4 = 1) ∨ 0 < fam := by omega
    have nofam : ¬ fam = 0 → ¬ (decide (V.int fam = V.int 0) = true) := fun z q => z (by simpa using q)
    have isfam : fam = 0 → decide (V.int fam = V.int 0) = true := fun z => by simp [z]
    have hb0 : 0 < letters := hl0
    have hb1 : letters < 1073741824 := by omega
    rcases fork with hz | ⟨hz, h1⟩ | ⟨hz, h1⟩ | hz
    · refine ⟨_, rfl, rfl, _, rfl, ?_⟩
      refine ifP (isfam hz) ?_
      refine ⟨_, rfl, _, _, rfl, rfl, ?_⟩
      refine ⟨_, rfl, _, _, rfl, rfl, _, rfl, ?_⟩
      refine ifN (by simp; omega) ?_
      refine ifN (by simp) ?_
      refine ⟨_, rfl, _, _, rfl, rfl, _, rfl, ?_⟩
      refine ifN (by simp; omega) ?_
      have hW : ∀ w : List Int, w.length = (c % 1000000 % 4 + 1).toNat → Word fam w := fun w e => .inl ⟨hz, by omega, by omega⟩
      refine ⟨_, rfl, _, _, rfl, rfl, ⟨by decide, by decide⟩, Nat.zero_le _, fun p0 hp0 => ?_⟩
      refine ⟨_, rfl, _, rfl, by omega, by omega, ?_⟩
      refine for_range (lo := 0) (n := (c % 1000000 % 4 + 1 : Int).toNat)
        (fun i σ H2 => ∃ (c' : Int) (v : V) (o : Option V) (w : List Int), σ = [some (.int c'), some (.int fam), some (.int letters), some (.int (c % 1000000 % 4 + 1)), some (.int letters), some v, o] ∧ Same H H2 ∧ TI K H2 v w ∧ w.length = i)
        ⟨_, _, none, [], rfl, Same.new hp0, TI.mk (.of upd_same), rfl⟩ ?_ ?_
      · rintro i σ H2 hi ⟨c', v, o, w, rfl, s2, tv, hwl⟩
        obtain ⟨a, rfl, hqa⟩ := tv.sq
        refine ⟨_, rfl, _, rfl, _, rfl, _, _, rfl, rfl, hb0, smallE (by simp), fun pt hpt => ?_⟩
        have s3 : Same H2 (upd H2 pt (.tup [.int (c' % letters)])) := Same.new hpt
        refine ⟨a, pt, _, _, rfl, rfl, s3.seqT hqa, .of upd_same, smallE (by simp; omega), fun p3 H3 s4 q3 => ?_⟩
        refine ⟨_, rfl, _, rfl, _, _, rfl, rfl, ⟨hb0, hb1⟩, ?_⟩
        refine ⟨_, _, _, w ++ [c' % letters], rfl, (s2.trans s3).trans s4, TI.mk ?_, by simp [hwl]⟩
        rw [List.map_append]
        exact q3
      · rintro σ H2 ⟨c', v, o, w, rfl, s2, tv, hwl⟩
        exact ⟨_, rfl, k v H2 w s2 tv (hW w hwl)⟩
    · refine ⟨_, rfl, rfl, _, rfl, ?_⟩
      refine ifN (nofam (by omega)) ?_
      refine ⟨_, rfl, _, _, rfl, rfl, _, rfl, ?_⟩
      refine ifP (by simp; omega) ?_
      refine ⟨_, rfl, rfl, _, rfl, ?_⟩
      refine ifN (eqI h1) ?_
      refine ⟨_, rfl, _, _, rfl, rfl, _, rfl, ?_⟩
      refine ifN (by simp; omega) ?_
      have hW : ∀ w : List Int, w.length = (c % 1000000 % 4).toNat → Word fam w := fun w e => .inr (.inl ⟨hz, by omega⟩)
      refine ⟨_, rfl, _, _, rfl, rfl, ⟨by decide, by decide⟩, Nat.zero_le _, fun p0 hp0 => ?_⟩
      refine ⟨_, rfl, _, rfl, by omega, by omega, ?_⟩
      refine for_range (lo := 0) (n := (c % 1000000 % 4 : Int).toNat)
        (fun i σ H2 => ∃ (c' : Int) (v : V) (o : Option V) (w : List Int), σ = [some (.int c'), some (.int fam), some (.int letters), some (.int (c % 1000000 % 4)), some (.int letters), some v, o] ∧ Same H H2 ∧ TI K H2 v w ∧ w.length = i)
        ⟨_, _, none, [], rfl, Same.new hp0, TI.mk (.of upd_same), rfl⟩ ?_ ?_
      · rintro i σ H2 hi ⟨c', v, o, w, rfl, s2, tv, hwl⟩
        obtain ⟨a, rfl, hqa⟩ := tv.sq
        refine ⟨_, rfl, _, rfl, _, rfl, _, _, rfl, rfl, hb0, smallE (by simp), fun pt hpt => ?_⟩
        have s3 : Same H2 (upd H2 pt (.tup [.int (c' % letters)])) := Same.new hpt
        refine ⟨a, pt, _, _, rfl, rfl, s3.seqT hqa, .of upd_same, smallE (by simp; omega), fun p3 H3 s4 q3 => ?_⟩
        refine ⟨_, rfl, _, rfl, _, _, rfl, rfl, ⟨hb0, hb1⟩, ?_⟩
        refine ⟨_, _, _, w ++ [c' % letters], rfl, (s2.trans s3).trans s4, TI.mk ?_, by simp [hwl]⟩
        rw [List.map_append]
        exact q3
      · rintro σ H2 ⟨c', v, o, w, rfl, s2, tv, hwl⟩
        exact ⟨_, rfl, k v H2 w s2 tv (hW w hwl)⟩
    · refine ⟨_, rfl, rfl, _, rfl, ?_⟩
      refine ifN (nofam (by omega)) ?_
      refine ⟨_, rfl, _, _, rfl, rfl, _, rfl, ?_⟩
      refine ifP (by simp; omega) ?_
      refine ⟨_, rfl, rfl, _, rfl, ?_⟩
      refine ifP (neI h1) ?_
      refine ⟨_, rfl, _, _, rfl, rfl, _, rfl, ?_⟩
      refine ifN (by simp; omega) ?_
      have hW : ∀ w : List Int, w.length = (3 : Int).toNat → Word fam w := fun w e => .inr (.inl ⟨hz, .inr (.inr e)⟩)
      refine ⟨_, rfl, _, _, rfl, rfl, ⟨by decide, by decide⟩, Nat.zero_le _, fun p0 hp0 => ?_⟩
      refine ⟨_, rfl, _, rfl, by omega, by omega, ?_⟩
      refine for_range (lo := 0) (n := (3 : Int).toNat)
        (fun i σ H2 => ∃ (c' : Int) (v : V) (o : Option V) (w : List Int), σ = [some (.int c'), some (.int fam), some (.int letters), some (.int (3)), some (.int letters), some v, o] ∧ Same H H2 ∧ TI K H2 v w ∧ w.length = i)
        ⟨_, _, none, [], rfl, Same.new hp0, TI.mk (.of upd_same), rfl⟩ ?_ ?_
      · rintro i σ H2 hi ⟨c', v, o, w, rfl, s2, tv, hwl⟩
        obtain ⟨a, rfl, hqa⟩ := tv.sq
        refine ⟨_, rfl, _, rfl, _, rfl, _, _, rfl, rfl, hb0, smallE (by simp), fun pt hpt => ?_⟩
        have s3 : Same H2 (upd H2 pt (.tup [.int (c' % letters)])) := Same.new hpt
        refine ⟨a, pt, _, _, rfl, rfl, s3.seqT hqa, .of upd_same, smallE (by simp; omega), fun p3 H3 s4 q3 => ?_⟩
        refine ⟨_, rfl, _, rfl, _, _, rfl, rfl, ⟨hb0, hb1⟩, ?_⟩
        refine ⟨_, _, _, w ++ [c' % letters], rfl, (s2.trans s3).trans s4, TI.mk ?_, by simp [hwl]⟩
        rw [List.map_append]
        exact q3
      · rintro σ H2 ⟨c', v, o, w, rfl, s2, tv, hwl⟩
        exact ⟨_, rfl, k v H2 w s2 tv (hW w hwl)⟩
    · refine ⟨_, rfl, rfl, _, rfl, ?_⟩
      refine ifN (nofam (by omega)) ?_
      refine ⟨_, rfl, _, _, rfl, rfl, _, rfl, ?_⟩
      refine ifN (by simp; omega) ?_
      refine ifN (by simp) ?_
      refine ⟨_, rfl, _, _, rfl, rfl, _, rfl, ?_⟩
      refine ifP (by simp; omega) ?_
      refine ⟨_, rfl, ?_⟩
      have hW : ∀ w : List Int, w.length = (c % 1000000 % 4).toNat → Word fam w := fun w e => .inr (.inr ⟨hz, by omega⟩)
      have hb0 : 0 < fam := hz
      have hb1 : fam < 1073741824 := by omega
      refine ⟨_, rfl, _, _, rfl, rfl, ⟨by decide, by decide⟩, Nat.zero_le _, fun p0 hp0 => ?_⟩
      refine ⟨_, rfl, _, rfl, by omega, by omega, ?_⟩
      refine for_range (lo := 0) (n := (c % 1000000 % 4 : Int).toNat)
        (fun i σ H2 => ∃ (c' : Int) (v : V) (o : Option V) (w : List Int), σ = [some (.int c'), some (.int fam), some (.int letters), some (.int (c % 1000000 % 4)), some (.int fam), some v, o] ∧ Same H H2 ∧ TI K H2 v w ∧ w.length = i)
        ⟨_, _, none, [], rfl, Same.new hp0, TI.mk (.of upd_same), rfl⟩ ?_ ?_
      · rintro i σ H2 hi ⟨c', v, o, w, rfl, s2, tv, hwl⟩
        obtain ⟨a, rfl, hqa⟩ := tv.sq
        refine ⟨_, rfl, _, rfl, _, rfl, _, _, rfl, rfl, hb0, smallE (by simp), fun pt hpt => ?_⟩
        have s3 : Same H2 (upd H2 pt (.tup [.int (c' % fam)])) := Same.new hpt
        refine ⟨a, pt, _, _, rfl, rfl, s3.seqT hqa, .of upd_same, smallE (by simp; omega), fun p3 H3 s4 q3 => ?_⟩
        refine ⟨_, rfl, _, rfl, _, _, rfl, rfl, ⟨hb0, hb1⟩, ?_⟩
        refine ⟨_, _, _, w ++ [c' % fam], rfl, (s2.trans s3).trans s4, TI.mk ?_, by simp [hwl]⟩
        rw [List.map_append]
        exact q3
      · rintro σ H2 ⟨c', v, o, w, rfl, s2, tv, hwl⟩
        exact ⟨_, rfl, k v H2 w s2 tv (hW w hwl)⟩
abbrev s_is_whole_below : Stmt := top 8
theorem sc_is_whole_below : FnScope ["thing", "bound"] ["thing", "bound"] (defScope s_is_whole_below) := ⟨rfl, rfl, rfl, by decide +kernel, rfl, by decide +kernel, by decide +kernel⟩
theorem ok_is_whole_below {f : Addr} {fd : FuncData} (F : Fun K "is_whole_below" "is_whole_below" s_is_whole_below f fd) (T : Txt K mg) (h_is_whole : Has P w K mg base "is_whole" ["thing"] 1 (sp_is_whole K)) : FnOk P w K mg base CX0 2 f fd ["thing", "bound"] (sp_is_whole_below K) := by
  refine F.ok sc_is_whole_below (fun vs H Q E h => ?_) (fun cdv A outer s H vs Q E hr h => ?_)
  · obtain ⟨x, d, b, rfl, hx, k⟩ := h
    rfl
  · obtain ⟨x, d, b, rfl, hx, k⟩ := h
    refine ⟨_, (pss_one (ps_ret (pe_and (pe_callH h_is_whole hr (by rfl) (pa_cons (pv 0) pa_nil)) (pe_one (pe_chain op_le op_lt pe_int (pv 0) (pv 1)))))), ?_⟩
    refine ⟨_, rfl, x, d, rfl, hx, _, rfl, ?_⟩
    refine ite2 (fun e => ?_) (fun e => ?_)
    · obtain ⟨i, rfl⟩ := wholeD_int e
      cases (show x = .int i from hx)
      refine ⟨_, rfl, _, _, rfl, rfl, _, rfl, ?_⟩
      refine ite2 (fun e1 => ?_) (fun e1 => ?_)
      · refine ⟨_, rfl, _, _, rfl, rfl, ?_⟩
        have e2 : belowD (.int i) b = decide (i < b) := by show (decide (0 ≤ i) && decide (i < b)) = _; rw [e1]; rfl
        rw [e2] at k
        exact k
      · have e2 : belowD (.int i) b = false := by show (decide (0 ≤ i) && decide (i < b)) = _; simp at e1; simp; omega
        rw [e2] at k
        exact k
    · have e2 : belowD d b = false := by
        cases d <;> first | rfl | (exfalso; exact e rfl)
      rw [e2] at k
      exact k
abbrev s_written : Stmt := top 23
theorem sc_written : FnScope ["shape", "names"] ["shape", "names"] (defScope s_written) := ⟨rfl, rfl, rfl, by decide +kernel, rfl, by decide +kernel, by decide +kernel⟩
theorem ok_written {f : Addr} {fd : FuncData} (F : Fun K "written" "written" s_written f fd) (T : Txt K mg) (h_row_text : Has P w K mg base "row_text" ["names", "place", "piece"] 1 (sp_row_text K)) : FnOk P w K mg base CX0 2 f fd ["shape", "names"] (sp_written K) := by
  refine F.ok sc_written (fun vs H Q E h => ?_) (fun cdv A outer s H vs Q E hr h => ?_)
  · obtain ⟨v, n, xs, names, rfl, hL, hq, hs, hx, hnl, hn, k⟩ := h
    rfl
  · obtain ⟨v, n, xs, names, rfl, hL, hq, hs, hx, hnl, hn, k⟩ := h
    refine ⟨_, (pss_one (ps_ret (kpe_bm (K := K) PySem.F.plainAttrs_str PySem.F.slot_str_join PySem.F.type_str_join (kmt_join (K := K)) pe_str (pa_cons (pe_comp (N' := ["place", "piece", "names"]) (cap := [none, none, some 1]) (by rfl) (by kernel_rfl) (pi_enum (K := K) (by rfl) T.n_enumerate (pa_cons (pv 0) pa_nil)) (fun _ _ _ _ => (kpg_tup (K := K) (n := 2) (by rfl) (pgs_cons (pg_name (i := 0) ndc_2 (by rfl) (by first | exact Or.inl rfl | exact Or.inr rfl)) (pgs_cons (pg_name (i := 1) ndc_2 (by rfl) (by first | exact Or.inl rfl | exact Or.inr rfl)) pgs_nil)))) (fun _ _ _ _ => pts_nil) (fun _ _ _ _ => (pe_callH h_row_text hr (by rfl) (pa_cons (pv 2) (pa_cons (pv 0) (pa_cons (pv 1) pa_nil)))))) pa_nil)))), ?_⟩
    obtain ⟨a, us, rfl, ha, r⟩ := id hL
    have hl : us.length = xs.length := by have := r.length; simpa using this
    refine ⟨rfl, _, rfl, a, rfl, ⟨us, ha⟩, fun D hD => ?_⟩
    refine comp_enum0 (K := K) (a := a) (xs := us) (fun i ys τ G => Same H G ∧ G D = some (.lst ys) ∧ ys = ((List.range i).map fun k => rowT names k (xs.getD k [])).map V.str ∧ ∃ o1 o2, τ = [o1, o2, some (.ref n)])
      ⟨Same.new hD, upd_same, rfl, none, none, rfl⟩ (fun i ys τ G _ ⟨s2, _⟩ => s2.seq ha) ?_ ?_
    · rintro i v ys τ G p hv ⟨s2, hD2, rfl, o1, o2, rfl⟩ hp
      have hi : i < xs.length := by have := (List.getElem?_eq_some_iff.mp hv).1; omega
      obtain ⟨dv, hdv, rv⟩ := r.getV hv
      have edv : dv = tI (xs.getD i []) := by
        rw [List.getElem?_map, List.getElem?_eq_getElem hi] at hdv
        rw [List.getD_eq_getElem?_getD, List.getElem?_eq_getElem hi]
        simpa using hdv.symm
      subst edv
      obtain ⟨fk, f4⟩ := face_ok hs hi
      have sp : Same G (upd G p (.tup [.int i, v])) := Same.new hp
      refine ⟨p, _, rfl, .of upd_same, rfl, _, _, rfl, _, _, rfl, rfl, ?_⟩
      generalize upd G p (.tup [.int i, v]) = G1 at sp
      refine ⟨_, rfl, _, rfl, _, rfl, n, i, v, names, xs.getD i [], rfl, (s2.trans sp).seq hq, by omega, Rep.same (s2.trans sp) rv, fun f hf => ⟨(fk f hf).1, by have := (fk f hf).2; omega⟩, f4, hn, fun G2 s3 => ?_⟩
      refine ⟨s3 _ _ (sp _ _ hD2), small (by simp; omega), ((s2.trans sp).trans s3).turn hD, upd_same, ?_, _, _, rfl⟩
      rw [List.range_succ, List.map_append, List.map_append]
      rfl
    · rintro ys τ G ⟨s2, hD2, rfl, _⟩
      rw [hl] at hD2
      refine ⟨Str.ofString "; ", D, _, rfl, rfl, .of hD2, ?_, ?_⟩
      · have e : (Str.ofString "; ").length = 2 := by decide +kernel
        have h1 := sum_le (ys := (List.range xs.length).map fun k => rowT names k (xs.getD k [])) (B := 50) fun y hy => by
          obtain ⟨k, hk, rfl⟩ := List.mem_map.mp hy
          have hk := List.mem_range.mp hk
          obtain ⟨fk, f4⟩ := face_ok hs hk
          exact (row_len hn (by omega) (fun f hf => ⟨(fk f hf).1, by have := (fk f hf).2; omega⟩) f4).2.2
        rw [e]
        rw [List.length_map, List.length_range] at h1 ⊢
        omega
      · rw [tjoin]
        have e2 : textT xs names = Str.join (Str.ofString "; ") ((List.range xs.length).map fun k => rowT names k (xs.getD k [])) := by
          unfold textT rowsW
          rw [List.map_map]
          rfl
        rw [← e2]
        exact k G s2
abbrev s_rows_of : Stmt := top 25
theorem sc_rows_of : FnScope ["thing", "rows", "row"] ["thing"] (defScope s_rows_of) := ⟨rfl, rfl, rfl, by decide +kernel, rfl, by decide +kernel, by decide +kernel⟩
theorem nd_rows_of : (["thing", "rows", "row"] : List Str).Nodup := by decide +kernel

theorem ok_rows_of {f : Addr} {fd : FuncData} (F : Fun K "rows_of" "rows_of" s_rows_of f fd) (T : Txt K mg) (h_is_name : Has P w K mg base "is_name" ["word"] 1 (sp_is_name K)) : FnOk P w K mg base CX0 2 f fd ["thing"] (sp_rows_of K) := by
  refine F.ok sc_rows_of (fun vs H Q E h => ?_) (fun cdv A outer s H vs Q E hr h => ?_)
  · obtain ⟨xs, names, rfl, hs, hx, hnl, hn, k⟩ := h
    rfl
  · obtain ⟨xs, names, rfl, hs, hx, hnl, hn, k⟩ := h
    refine ⟨_, (pss_cons (ps_if (pt_not (pt_val (pe_callB (kcall_isinst (K := K)) (by rfl) T.n_isinstance boot_isinstanceB (pa_cons (pv 0) (pa_cons (pe_bltn (v := .ty "str") rfl T.n_str boot_strT rfl) pa_nil))))) (pss_one ps_never) pss_nil)
      (pss_cons (ps_if (pt_cmpR op_eq (pe_callB call_len_str (by rfl) T.n_len PySem.boot_len (pa_cons (pv 0) pa_nil)) pe_int (nomark _)) (pss_one (ps_ret (pe_lst pa_nil))) pss_nil)
      (pss_cons (ps_setC (N' := ["row"]) (cap := [none]) (i := 1) nd_rows_of (by rfl) (by first | exact Or.inl rfl | exact Or.inr rfl) (by rfl) (by kernel_rfl) (kpi_list (K := K) (kpe_bm (K := K) PySem.F.plainAttrs_str PySem.F.slot_str_split PySem.F.type_str_split kmt_split (pv 0) (pa_cons pe_str pa_nil))) (fun _ _ _ _ => (pg_name (i := 0) ndc_1 (by rfl) (by first | exact Or.inl rfl | exact Or.inr rfl))) (fun _ _ _ _ => pts_nil) (fun _ _ _ _ => (kpe_bm (K := K) PySem.F.plainAttrs_str PySem.F.slot_str_split PySem.F.type_str_split kmt_split (pv 0) (pa_cons pe_str pa_nil))))
      (pss_cons (ps_for PassesOwn.never rfl (kpi_list (K := K) (pv 1)) (pg_name (i := 2) nd_rows_of (by rfl) (by first | exact Or.inl rfl | exact Or.inr rfl)) (pss_one (ps_if (pt_not (pt_val (pe_callB (kcall_allB (K := K) (by rfl)) (by rfl) T.n_all boot_allB (pa_cons (pe_comp (N' := ["word"]) (cap := [none]) (by rfl) (by kernel_rfl) (kpi_list (K := K) (pv 2)) (fun _ _ _ _ => (pg_name (i := 0) ndc_4 (by rfl) (by first | exact Or.inl rfl | exact Or.inr rfl))) (fun _ _ _ _ => pts_nil) (fun _ _ _ _ => (pe_callH h_is_name hr (by rfl) (pa_cons (pv 0) pa_nil)))) pa_nil)))) (pss_one ps_never) pss_nil)))
      (pss_one (ps_ret (pv 1))))))), ?_⟩
    obtain ⟨t1, t2, t3⟩ := text_len hs hx hnl hn
    have rok := rowsW_ok hs hnl hn
    refine ⟨_, rfl, _, "str", .str _, rfl, .inr (.inr (.inl rfl)), rfl, _, rfl, ?_⟩
    refine ifN (by simp [isD]) ?_
    refine ⟨_, rfl, _, rfl, smallE (by omega), rfl, _, rfl, ?_⟩
    refine ite2 (fun h1 => ?_) (fun h1 => ?_)
    · have hx0 : xs.length = 0 := by
        have h2 : (textT xs names).length = 0 := by simpa using h1
        by_cases h3 : 1 ≤ xs.length
        · have := t2 h3; omega
        · omega
      refine ⟨Nat.zero_le _, fun l hl => k (.ref l) _ (Same.new hl) ⟨l, [], rfl, .of upd_same, ?_⟩⟩
      unfold rowsW
      rw [hx0]
      rfl
    have hx1 : rowsW xs names ≠ [] := by
      intro z
      refine h1 ?_
      have e : xs.length = 0 := by simpa [rowsW] using congrArg List.length z
      rw [t3 e]
      rfl
    have e1 := rows_split hx1 fun r hr => (rok r hr).1
    have hrl : (rowsW xs names).length = xs.length := by simp [rowsW]
    refine tSeq_cut (fun σ' H' => σ' = [some (.str (textT xs names)), none, none] ∧ H = H') ?_ fun key0 => key0 _ _ ⟨rfl, rfl⟩
    rintro _ _ ⟨rfl, rfl⟩
    refine tSeq_cut (fun σ' H' => ∃ (D : Addr), σ' = [some (.str (textT xs names)), some (.ref D), none] ∧ Same H H' ∧ Rep K H' (.ref D) (dRows (rowsW xs names))) ?_ fun key => ?_
    rotate_left
    · refine ⟨_, rfl, rfl, _, _, rfl, rfl, by decide +kernel, smallE (by omega), fun l hl => ?_⟩
      have e2 : Txt.split (textT xs names) (Str.ofString "; ") = (rowsW xs names).map (Str.join (Str.ofString " ")) := e1
      rw [e2]
      have s1 : Same H (upd H l (.lst (((rowsW xs names).map (Str.join (Str.ofString " "))).map V.str))) := Same.new hl
      have el : upd H l (.lst (((rowsW xs names).map (Str.join (Str.ofString " "))).map V.str)) l = some (.lst (((rowsW xs names).map (Str.join (Str.ofString " "))).map V.str)) := upd_same
      generalize upd H l (.lst (((rowsW xs names).map (Str.join (Str.ofString " "))).map V.str)) = H1 at s1 el
      refine ⟨l, rfl, ⟨_, .of el⟩, fun D hD => ?_⟩
      refine comp_list0 (K := K) (a := l) (xs := ((rowsW xs names).map (Str.join (Str.ofString " "))).map V.str) (fun i ys τ G => Same H1 G ∧ G D = some (.lst ys) ∧ (∃ bs : List Addr, ys = bs.map V.ref ∧ bs.length = i ∧ ∀ (j : Nat) b, bs[j]? = some b → b ≠ D ∧ G b = some (.lst (((rowsW xs names).getD j []).map V.str))) ∧ ∃ o, τ = [o])
        ⟨Same.new hD, upd_same, ⟨[], rfl, rfl, fun j b e => by simp at e⟩, none, rfl⟩ (fun i ys τ G _ ⟨s2, _⟩ => .of (s2 _ _ el)) ?_ ?_
      · rintro i x ys τ G hx ⟨s2, hD2, ⟨bs, rfl, hbl, hb⟩, o, rfl⟩
        rw [List.getElem?_map, List.getElem?_map] at hx
        obtain ⟨t, ht, rfl⟩ := Option.map_eq_some_iff.mp hx
        obtain ⟨r, hr, rfl⟩ := Option.map_eq_some_iff.mp ht
        have hrm := List.mem_of_getElem? hr
        have hi : i < xs.length := by have := (List.getElem?_eq_some_iff.mp hr).1; omega
        have er : (rowsW xs names).getD i [] = r := by rw [List.getD_eq_getElem?_getD, hr]; rfl
        obtain ⟨r1, r2, r3⟩ := rok r hrm
        have hz := join_len (Str.ofString " ") r
        have hz2 := sum_le (ys := r) (B := 8) fun y hy => (r1 y hy).le
        have e3 : (Str.ofString " ").length = 1 := by decide +kernel
        rw [e3] at hz
        refine ⟨_, rfl, rfl, _, _, rfl, rfl, by decide +kernel, smallE (by omega), fun b hb2 => ?_⟩
        rw [sp_split r2 r1]
        have nbD : b ≠ D := fun z => by rw [z, hD2] at hb2; cases hb2
        refine ⟨by rw [upd_ne nbD.symm]; exact hD2, small (by simp; omega), (s2.trans (Same.new hb2)).turn hD, upd_same, ⟨bs ++ [b], by rw [List.map_append]; rfl, by simp [hbl], fun j c hc => ?_⟩, _, rfl⟩
        by_cases hj : j < bs.length
        · rw [List.getElem?_append_left hj] at hc
          obtain ⟨c1, c2⟩ := hb j c hc
          refine ⟨c1, ?_⟩
          rw [upd_ne c1]
          exact (Same.new hb2) _ _ c2
        · rw [List.getElem?_append_right (by omega)] at hc
          have e4 : j - bs.length = 0 := by
            by_cases h5 : j - bs.length = 0
            · exact h5
            · have := (List.getElem?_eq_some_iff.mp hc).1
              simp at this
              omega
          rw [e4] at hc
          have e5 : c = b := by simpa using hc.symm
          subst e5
          refine ⟨nbD, ?_⟩
          rw [upd_ne nbD, upd_same, show j = i by omega, er]
      · rintro ys τ G ⟨s2, hD2, ⟨bs, rfl, hbl, hb⟩, _⟩
        refine key _ _ ⟨D, rfl, s1.trans s2, rows_mk hD2 (by simpa using hbl) fun j b e => (hb j b e).2⟩
    rintro _ H2 ⟨D, rfl, s2, hR⟩
    obtain ⟨_, us, z, hq, hul, hrow⟩ := rows_sq hR
    cases z
    refine ⟨_, rfl, D, rfl, ⟨us, hq⟩, ?_⟩
    refine for_list (K := K) (a := D) (xs := us) (fun i σ G => ∃ o, σ = [some (.str (textT xs names)), some (.ref D), o] ∧ Same H2 G)
      ⟨none, rfl, Same.refl _⟩ (fun i σ G _ ⟨_, _, s3⟩ => s3.seq hq) ?_ ?_
    · rintro i u σ G hu ⟨o, rfl, s3⟩
      obtain ⟨b, r, rfl, hr, hb⟩ := hrow i u hu
      obtain ⟨r1, r2, r3⟩ := rok r (List.mem_of_getElem? hr)
      refine ⟨_, rfl, b, rfl, ⟨_, s3.seq hb⟩, fun D2 hD2 => ?_⟩
      refine comp_list0 (K := K) (a := b) (xs := r.map V.str) (fun j ys τ G1 => Same G G1 ∧ G1 D2 = some (.lst ys) ∧ ys = (List.replicate j true).map V.bl ∧ ∃ o, τ = [o])
        ⟨Same.new hD2, upd_same, rfl, none, rfl⟩ (fun j ys τ G1 _ ⟨s4, _⟩ => (s3.trans s4).seq hb) ?_ ?_
      · rintro j x ys τ G1 hx ⟨s4, hD4, rfl, o, rfl⟩
        rw [List.getElem?_map] at hx
        obtain ⟨w, hw, rfl⟩ := Option.map_eq_some_iff.mp hx
        have hj : j < r.length := (List.getElem?_eq_some_iff.mp hw).1
        refine ⟨_, rfl, w, rfl, r1 w (List.mem_of_getElem? hw), fun G2 s5 => ?_⟩
        refine ⟨s5 _ _ hD4, small (by simp; omega), (s4.trans s5).turn hD2, upd_same, ?_, _, rfl⟩
        rw [List.replicate_succ', List.map_append]
        rfl
      · rintro ys τ G1 ⟨s4, hD4, rfl, _⟩
        refine ⟨D2, List.replicate (r.map V.str).length true, rfl, .of hD4, _, rfl, ?_⟩
        rw [show (List.replicate (r.map V.str).length true).all id = true by simp]
        refine ifN (by decide) ?_
        exact ⟨_, rfl, s3.trans s4⟩
    · rintro σ G ⟨o, rfl, s3⟩
      exact ⟨_, rfl, k _ G (s2.trans s3) (Rep.same s3 hR)⟩
abbrev s_pieces_of : Stmt := top 27
theorem sc_pieces_of : FnScope ["rows", "spots", "pieces", "place", "row"] ["rows"] (defScope s_pieces_of) := ⟨rfl, rfl, rfl, by decide +kernel, rfl, by decide +kernel, by decide +kernel⟩
theorem nd_pieces_of : (["rows", "spots", "pieces", "place", "row"] : List Str).Nodup := by decide +kernel

theorem ok_pieces_of {f : Addr} {fd : FuncData} (F : Fun K "pieces_of" "pieces_of" s_pieces_of f fd) (T : Txt K mg) (h_spot_of : Has P w K mg base "spot_of" ["spots", "name"] 1 (sp_spot_of K)) : FnOk P w K mg base CX0 2 f fd ["rows"] (sp_pieces_of K) := by
  refine F.ok sc_pieces_of (fun vs H Q E h => ?_) (fun cdv A outer s H vs Q E hr h => ?_)
  · obtain ⟨v, xs, names, rfl, hR, hs, hx, hnl, hnd, k⟩ := h
    rfl
  · obtain ⟨v, xs, names, rfl, hR, hs, hx, hnl, hnd, k⟩ := h
    have hu8 : (A.deeper (PyProof.Rows.envOfC "pieces_of" (defScope s_pieces_of) s.heap.objs.size f cdv)).units + 8 < cLine := by have := hr.units; omega
    refine ⟨_, (pss_cons (ps_set (i := 1) nd_pieces_of (by rfl) (by first | exact Or.inl rfl | exact Or.inr rfl) pe_dnewK)
      (pss_cons (ps_set (i := 2) nd_pieces_of (by rfl) (by first | exact Or.inl rfl | exact Or.inr rfl) (pe_lst pa_nil))
      (pss_cons (ps_for PassesOwn.never rfl (pi_enum (K := K) (by rfl) T.n_enumerate (pa_cons (pv 0) pa_nil)) (kpg_tup (K := K) (n := 2) (by rfl) (pgs_cons (pg_name (i := 3) nd_pieces_of (by rfl) (by first | exact Or.inl rfl | exact Or.inr rfl)) (pgs_cons (pg_name (i := 4) nd_pieces_of (by rfl) (by first | exact Or.inl rfl | exact Or.inr rfl)) pgs_nil))) (pss_cons (ps_expr (kpe_bm (K := K) PySem.F.plainAttrs_list PySem.F.slot_list_append PySem.F.type_list_append mt_append (pv 2) (pa_cons (pe_callTy (kcall_tuple_of (K := K)) (by rfl) T.n_tuple boot_tupleT (pa_cons (pe_comp (N' := ["name", "spots"]) (cap := [none, some 1]) (by rfl) (by kernel_rfl) (kpi_list (K := K) (pe_slice (ksl_list (K := K)) (pv 4) (po_some pe_int) po_none)) (fun _ _ _ _ => (pg_name (i := 0) ndc_6 (by rfl) (by first | exact Or.inl rfl | exact Or.inr rfl))) (fun _ _ _ _ => pts_nil) (fun _ _ _ _ => (pe_callH h_spot_of hr (by rfl) (pa_cons (pv 1) (pa_cons (pv 0) pa_nil))))) pa_nil)) pa_nil)))
      (pss_cons (ps_if (pt_cmpR (op_inK (u1 hu8)) (pe_ix (kix_list (K := K)) (pv 4) pe_int (fun _ _ => rfl)) (pv 1) rfl) (pss_one ps_never) pss_nil)
      (pss_one (ps_dput (u1 hu8) (pv 1) (pe_ix (kix_list (K := K)) (pv 4) pe_int (fun _ _ => rfl)) (pv 3) (by rfl))))))
      (pss_one (ps_ret (pv 2)))))), ?_⟩
    obtain ⟨a, us, rfl, hq0, hul, hrow⟩ := rows_sq hR
    have hrl : (rowsW xs names).length = xs.length := by simp [rowsW]
    refine tSeq_cut (fun σ' H' => ∃ (d : Addr), σ' = [some (.ref a), some (.ref d), none, none, none] ∧ H d = none ∧ Same H H' ∧ H' d = some (.dK [])) ?_ fun key => ?_
    rotate_left
    · intro d hd
      exact key _ _ ⟨d, rfl, hd, Same.new hd, upd_same⟩
    rintro _ H1 ⟨d, rfl, hd, s1, h1d⟩
    refine tSeq_cut (fun σ' H' => ∃ (q : Addr), σ' = [some (.ref a), some (.ref d), some (.ref q), none, none] ∧ H1 q = none ∧ Same H1 H' ∧ H' q = some (.lst [])) ?_ fun key => ?_
    rotate_left
    · exact ⟨Nat.zero_le _, fun q hq => key _ _ ⟨q, rfl, hq, Same.new hq, upd_same⟩⟩
    rintro _ H2 ⟨q, rfl, hq, s2, h2q⟩
    have nqd : q ≠ d := fun z => by rw [z, h1d] at hq; cases hq
    have s02 := s1.trans s2
    refine ⟨_, rfl, a, rfl, ⟨us, s02.seq hq0⟩, ?_⟩
    refine for_enum (K := K) (a := a) (xs := us) (fun i σ G => ∃ o3 o4 kvs, ∃ ts : List Addr, σ = [some (.ref a), some (.ref d), some (.ref q), o3, o4] ∧ Same H G ∧ G d = some (.dK kvs) ∧ kvs.length ≤ i ∧ (∀ k, k < i → k < xs.length → valV kvs (.inr (nmAt names k)) = some (.int k)) ∧ (∀ k, i ≤ k → k < xs.length → valV kvs (.inr (nmAt names k)) = none) ∧ G q = some (.lst (ts.map V.ref)) ∧ ts.length = i ∧ ∀ (j : Nat) t, ts[j]? = some t → t ≠ d ∧ t ≠ q ∧ G t = some (.tup ((xs.getD j []).map V.int)))
      ⟨none, none, [], [], rfl, s02, s2 _ _ h1d, by simp, fun k hk => by omega, fun k _ _ => rfl, h2q, rfl, fun j t e => by simp at e⟩ (fun i σ G _ ⟨_, _, _, _, _, s3, _⟩ => s3.seq hq0) ?_ ?_
    · rintro i u σ G p hu ⟨o3, o4, kvs, ts, rfl, s3, hd3, hkl, hk1, hk2, hq3, htl, hts⟩ hp
      obtain ⟨b, r, rfl, hr, hb⟩ := hrow i u hu
      obtain ⟨hi, rfl⟩ := rowsW_at hr
      obtain ⟨fk, f4⟩ := face_ok hs hi
      have sp : Same G (upd G p (.tup [.int i, .ref b])) := Same.new hp
      refine ⟨p, _, rfl, .of upd_same, rfl, _, _, rfl, _, _, rfl, rfl, ?_⟩
      generalize upd G p (.tup [.int i, .ref b]) = G1 at sp
      refine tSeq_cut (fun σ' H' => ∃ t : Addr, σ' = [some (.ref a), some (.ref d), some (.ref q), some (.int i), some (.ref b)] ∧ G1 t = none ∧ (∀ x o, x ≠ q → G1 x = some o → H' x = some o) ∧ H' q = some (.lst ((ts ++ [t]).map V.ref)) ∧ H' t = some (.tup ((xs.getD i []).map V.int))) ?_ fun key => ?_
      rotate_left
      · refine ⟨_, rfl, .inl ⟨rfl, _, .of (sp _ _ hq3)⟩, _, rfl, _, rfl, b, _, rfl, (s3.trans sp).seq hb, fun c hc => ?_⟩
        have s4 : Same G1 (upd G1 c (.lst (cutV ((rowW names i (xs.getD i [])).map V.str) (some 1) none))) := Same.new hc
        have ec : upd G1 c (.lst (cutV ((rowW names i (xs.getD i [])).map V.str) (some 1) none)) c = some (.lst (((xs.getD i []).map fun f => nmAt names f.toNat).map V.str)) := by
          rw [upd_same, cut1]
          rfl
        generalize upd G1 c (.lst (cutV ((rowW names i (xs.getD i [])).map V.str) (some 1) none)) = G2 at s4 ec
        refine ⟨c, rfl, ⟨_, .of ec⟩, fun D hD => ?_⟩
        refine comp_list0 (K := K) (a := c) (xs := ((xs.getD i []).map fun f => nmAt names f.toNat).map V.str) (fun j ys τ G3 => Same G2 G3 ∧ G3 D = some (.lst ys) ∧ ys = ((xs.getD i []).take j).map V.int ∧ ∃ o, τ = [o, some (.ref d)])
          ⟨Same.new hD, upd_same, rfl, none, rfl⟩ (fun j ys τ G3 _ ⟨s5, _⟩ => .of (s5 _ _ ec)) ?_ ?_
        · rintro j x ys τ G3 hx ⟨s5, hD5, rfl, o, rfl⟩
          rw [List.getElem?_map, List.getElem?_map] at hx
          obtain ⟨w, hw, rfl⟩ := Option.map_eq_some_iff.mp hx
          obtain ⟨f, hf, rfl⟩ := Option.map_eq_some_iff.mp hw
          have hj : j < (xs.getD i []).length := (List.getElem?_eq_some_iff.mp hf).1
          obtain ⟨f0, f1⟩ := fk f (List.mem_of_getElem? hf)
          refine ⟨_, rfl, _, rfl, d, kvs, nmAt names f.toNat, f, rfl, s5 _ _ (s4 _ _ (sp _ _ hd3)), ?_, hD5, small (by simp; omega), s5.turn hD, upd_same, ?_, _, rfl⟩
          · rw [hk1 f.toNat (by omega) (by omega)]
            congr 2
            omega
          · rw [List.take_add_one, hf, List.map_append]
            rfl
        · rintro ys τ G3 ⟨s5, hD5, rfl, _⟩
          rw [List.length_map, List.length_map, List.take_length] at hD5
          refine ⟨D, _, rfl, .inl ⟨.of hD5, fun t ht => ?_⟩⟩
          have s6 : Same G3 (upd G3 t (.tup ((xs.getD i []).map V.int))) := Same.new ht
          have et : upd G3 t (.tup ((xs.getD i []).map V.int)) t = some (.tup ((xs.getD i []).map V.int)) := upd_same
          generalize upd G3 t (.tup ((xs.getD i []).map V.int)) = G4 at s6 et
          have s14 := (s4.trans s5).trans s6
          have hq4 : G4 q = some (.lst (ts.map V.ref)) := s14 _ _ (sp _ _ hq3)
          have ntq : t ≠ q := fun z => by
            have e := (s4.trans s5) _ _ (sp _ _ hq3)
            rw [← z, ht] at e
            cases e
          refine ⟨q, _, _, rfl, rfl, hq4, small (by simp; omega), key _ _ ⟨t, rfl, (s4.trans s5).free ht, fun x o hx e => ?_, ?_, ?_⟩⟩
          · rw [upd_ne hx]; exact s14 _ _ e
          · rw [upd_same, List.map_append]; rfl
          · rw [upd_ne ntq]; exact et
      rintro _ G5 ⟨t, rfl, ht0, keep, hq5, ht5⟩
      have hd5 : G5 d = some (.dK kvs) := keep _ _ nqd.symm (sp _ _ hd3)
      have fq : H q = none := s1.free hq
      have s5 : Same H G5 := fun x o e => keep x o (ne_of_none e fq) ((s3.trans sp) _ _ e)
      have hb5 : SqL K G5 b ((rowW names i (xs.getD i [])).map V.str) := s5.seq hb
      have hat : atI ((rowW names i (xs.getD i [])).map V.str) 0 = some (.str (nmAt names i)) := atI_nat (j := 0) rfl
      have hno := hk2 i (Nat.le_refl _) hi
      refine tSeq_cut (fun σ' H' => σ' = [some (.ref a), some (.ref d), some (.ref q), some (.int i), some (.ref b)] ∧ G5 = H') ?_ fun key => ?_
      rotate_left
      · refine ⟨_, rfl, b, _, _, _, rfl, rfl, hb5, hat, _, rfl, d, kvs, .inr (nmAt names i), rfl, hd5, rfl, _, rfl, ?_⟩
        refine ifN (by rw [hno]; simp) ?_
        exact key _ _ ⟨rfl, rfl⟩
      rintro _ _ ⟨rfl, rfl⟩
      refine ⟨_, rfl, _, rfl, _, rfl, b, _, _, _, rfl, rfl, hb5, hat, d, _, rfl, .k (k := .inr (nmAt names i)) hd5 (small (by omega)), ?_⟩
      have ntd : t ≠ d := fun z => by rw [z, sp _ _ hd3] at ht0; cases ht0
      have ntq : t ≠ q := fun z => by rw [z, sp _ _ hq3] at ht0; cases ht0
      refine ⟨_, _, _, ts ++ [t], rfl, s5.turn hd, upd_same, ?_, fun k hk hkx => ?_, fun k hk hkx => ?_, ?_, by simp [htl], fun j z e => ?_⟩
      · rw [putK_new _ hno, List.length_append]
        simp
        omega
      · rw [valV_put]
        by_cases hki : k = i
        · subst hki
          rw [if_pos rfl]
        · rw [if_neg, hk1 k (by omega) hkx]
          intro z
          exact hki (nm_inj hnd (by omega) (by omega) (Sum.inr.inj z))
      · rw [valV_put, if_neg, hk2 k (by omega) hkx]
        intro z
        have := nm_inj hnd (by omega) (by omega) (Sum.inr.inj z)
        omega
      · rw [upd_ne nqd]
        exact hq5
      · by_cases hj : j < ts.length
        · rw [List.getElem?_append_left hj] at e
          obtain ⟨z1, z2, z3⟩ := hts j z e
          refine ⟨z1, z2, ?_⟩
          rw [upd_ne z1]
          exact keep _ _ z2 (sp _ _ z3)
        · rw [List.getElem?_append_right (by omega)] at e
          have e4 : j - ts.length = 0 := by
            by_cases h5 : j - ts.length = 0
            · exact h5
            · have := (List.getElem?_eq_some_iff.mp e).1
              simp at this
              omega
          rw [e4] at e
          have e5 : z = t := by simpa using e.symm
          subst e5
          refine ⟨ntd, ntq, ?_⟩
          rw [upd_ne ntd, show j = i by omega]
          exact ht5
    · rintro σ G ⟨o3, o4, kvs, ts, rfl, s3, hd3, hkl, hk1, hk2, hq3, htl, hts⟩
      exact ⟨_, rfl, k _ G s3 (lt_mk hq3 (by omega) fun j t e => (hts j t e).2.2)⟩
abbrev s_L_names_by : Stmt := top 31
theorem sc_L_names_by : FnScope ["_law_cell", "_law_many", "_law_names", "_law_k", "_law_number", "_law_word"] ["_law_cell", "_law_many"] (defScope s_L_names_by) := ⟨rfl, rfl, rfl, by decide +kernel, rfl, by decide +kernel, by decide +kernel⟩
theorem nd_L_names_by : (["_law_cell", "_law_many", "_law_names", "_law_k", "_law_number", "_law_word"] : List Str).Nodup := by decide +kernel

theorem ok_L_names_by {f : Addr} {fd : FuncData} (F : Fun K "_law_names_by" "_law_names_by" s_L_names_by f fd) (T : Txt K mg) (h_L_name_by : Has P w K mg base "_law_name_by" ["_law_number", "_law_stem"] 1 (sp_L_name_by K)) : FnOk P w K mg base CX0 2 f fd ["_law_cell", "_law_many"] (sp_L_names_by K) := by
  refine F.ok sc_L_names_by (fun vs H Q E h => ?_) (fun cdv A outer s H vs Q E hr h => ?_)
  · obtain ⟨c, many, rfl, hm, k⟩ := h
    rfl
  · obtain ⟨c, many, rfl, hm, k⟩ := h
    have hu8 : (A.deeper (PyProof.Rows.envOfC "_law_names_by" (defScope s_L_names_by) s.heap.objs.size f cdv)).units + 8 < cLine := by have := hr.units; omega
    refine ⟨_, (pss_cons (ps_set (i := 2) nd_L_names_by (by rfl) (by first | exact Or.inl rfl | exact Or.inr rfl) (pe_lst pa_nil))
      (pss_cons (ps_for PassesOwn.never rfl (pi_range1 (by rfl) T.n_range (pa_cons (pv 1) pa_nil)) (pg_name (i := 3) nd_L_names_by (by rfl) (by first | exact Or.inl rfl | exact Or.inr rfl)) (pss_cons (ps_set (i := 4) nd_L_names_by (by rfl) (by first | exact Or.inl rfl | exact Or.inr rfl) (pe_op op_mod (pe_op op_add (pe_op op_add (pe_op op_mul (pe_op op_mod (pv 0) pe_int) pe_int) (pe_op op_mul (pe_op op_mul (pv 3) (pv 3)) pe_int)) (pe_op op_mul (pv 3) pe_int)) pe_int))
      (pss_cons (ps_set (i := 5) nd_L_names_by (by rfl) (by first | exact Or.inl rfl | exact Or.inr rfl) (pe_callH h_L_name_by hr (by rfl) (pa_cons (pv 4) (pa_cons (pe_op op_mod (pv 0) pe_int) pa_nil))))
      (pss_cons (ps_while PassesOwn.never (pt_cmpR (kop_inD (K := K) hu8) (pv 5) (pv 2) rfl) (pss_cons (ps_set (i := 4) nd_L_names_by (by rfl) (by first | exact Or.inl rfl | exact Or.inr rfl) (pe_op op_add (pv 4) pe_int))
      (pss_one (ps_set (i := 5) nd_L_names_by (by rfl) (by first | exact Or.inl rfl | exact Or.inr rfl) (pe_callH h_L_name_by hr (by rfl) (pa_cons (pv 4) (pa_cons (pe_op op_mod (pv 0) pe_int) pa_nil)))))))
      (pss_one (ps_expr (kpe_bm (K := K) PySem.F.plainAttrs_list PySem.F.slot_list_append PySem.F.type_list_append mt_append (pv 2) (pa_cons (pv 5) pa_nil))))))))
      (pss_one (ps_ret (pv 2))))), ?_⟩
    have h5a := Int.emod_nonneg c (by decide : (5 : Int) ≠ 0)
    have h5b := Int.emod_lt_of_pos c (by decide : (0 : Int) < 5)
    obtain ⟨stem, est⟩ := Int.eq_ofNat_of_zero_le h5a
    have hst : stem ≤ 4 := by omega
    refine tSeq_cut (fun σ' H' => ∃ D : Addr, σ' = [some (.int c), some (.int many), some (.ref D), none, none, none] ∧ H D = none ∧ Same H H' ∧ H' D = some (.lst [])) ?_ fun key => ?_
    rotate_left
    · exact ⟨Nat.zero_le _, fun D hD => key _ _ ⟨D, rfl, hD, Same.new hD, upd_same⟩⟩
    rintro _ H1 ⟨D, rfl, hD, s1, h1⟩
    refine ⟨_, rfl, _, rfl, by omega, by omega, ?_⟩
    refine for_range (fun i σ G => ∃ o3 o4 o5, ∃ ns : List Str, σ = [some (.int c), some (.int many), some (.ref D), o3, o4, o5] ∧ Same H G ∧ G D = some (.lst (ns.map V.str)) ∧ ns.length = i ∧ ns.Nodup ∧ ∀ x ∈ ns, NameOk x)
      ⟨none, none, none, [], rfl, s1, h1, rfl, List.nodup_nil, fun x hx => by simp at hx⟩ ?_ ?_
    · rintro i σ G hi0 ⟨o3, o4, o5, ns, rfl, s2, hD2, hnl, hnd, hn⟩
      have hi : i < many := by omega
      have e0 : (0 : Int) + (i : Int) = (i : Int) := by omega
      rw [e0]
      refine tSeq_cut (fun σ' H' => ∃ n0 : Nat, σ' = [some (.int c), some (.int many), some (.ref D), some (.int i), some (.int n0), o5] ∧ G = H') ?_ fun key => ?_
      rotate_left
      · have ci : ∀ z : Int, CMul (i : Int) z := fun z => .inl ⟨by omega, by omega⟩
        refine ⟨_, rfl, _, _, rfl, rfl, (by decide : (0 : Int) < 1000003), _, _, rfl, rfl, .inr ⟨by decide, by decide⟩, _, rfl, _, rfl, _, _, rfl, rfl, ci _, _, _, rfl, rfl, .inr ⟨by decide, by decide⟩, _, _, rfl, rfl, _, rfl, _, _, rfl, rfl, ci _, _, _, rfl, rfl, _, _, rfl, rfl, (by decide : (0 : Int) < 400009), ?_⟩
        obtain ⟨n0, en⟩ := Int.eq_ofNat_of_zero_le (Int.emod_nonneg (c % 1000003 * 48271 + (i : Int) * (i : Int) * 7907 + (i : Int) * 131) (by decide : (400009 : Int) ≠ 0))
        refine key _ _ ⟨n0, ?_, rfl⟩
        rw [← en]
        rfl
      rintro _ _ ⟨n0, rfl, rfl⟩
      refine tSeq_cut (fun σ' H' => σ' = [some (.int c), some (.int many), some (.ref D), some (.int i), some (.int n0), some (.str (nm stem n0))] ∧ G = H') ?_ fun key => ?_
      rotate_left
      · exact ⟨_, rfl, _, rfl, _, _, rfl, rfl, (by decide : (0 : Int) < 5), n0, stem, by rw [← est] <;> rfl, hst, key _ _ ⟨rfl, rfl⟩⟩
      rintro _ _ ⟨rfl, rfl⟩
      refine tSeq_cut (fun σ' H' => ∃ (o : Option V) (w : Str), σ' = [some (.int c), some (.int many), some (.ref D), some (.int i), o, some (.str w)] ∧ G = H' ∧ w ∉ ns ∧ NameOk w) ?_ fun key => ?_
      rotate_left
      · refine ⟨fun m σ G1 => ∃ n : Nat, σ = [some (.int c), some (.int many), some (.ref D), some (.int i), some (.int n), some (.str (nm stem n))] ∧ G = G1 ∧ n0 ≤ n ∧ (∀ z, n0 ≤ z → z < n → nm stem z ∈ ns) ∧ n ≤ n0 + 400 ∧ m = n0 + 400 - n, ⟨400, n0, rfl, rfl, Nat.le_refl _, fun z h1 h2 => by omega, by omega, by omega⟩, ?_⟩
        rintro m σ G1 ⟨n, rfl, rfl, hn0, hz, hle, rfl⟩
        refine ⟨_, rfl, _, rfl, .str (nm stem n), ns.map L2.D.str, rfl, .inl ⟨D, _, rfl, .of hD2, reps_strs.mpr rfl⟩, by rw [deps_strs]; decide, _, rfl, ?_⟩
        rw [any_str]
        refine ite2 (fun hin => ?_) (fun hin => ?_)
        · have hin : nm stem n ∈ ns := of_decide_eq_true hin
          have hlt : n < n0 + 400 := by
            by_cases h : n < n0 + 400
            · exact h
            · have := nm_new (stem := stem) (n0 := n0) (ns := ns) fun z h1 h2 => hz z h1 (by omega)
              omega
          refine ⟨fun σ' G' => ∃ m', m' < n0 + 400 - n ∧ ∃ n' : Nat, σ' = [some (.int c), some (.int many), some (.ref D), some (.int i), some (.int n'), some (.str (nm stem n'))] ∧ G = G' ∧ n0 ≤ n' ∧ (∀ z, n0 ≤ z → z < n' → nm stem z ∈ ns) ∧ n' ≤ n0 + 400 ∧ m' = n0 + 400 - n', fun σ' H' h => h, ?_⟩
          refine tSeq_cut (fun σ' H' => σ' = [some (.int c), some (.int many), some (.ref D), some (.int i), some (.int ((n + 1 : Nat) : Int)), some (.str (nm stem n))] ∧ G = H') ?_ fun key2 => ?_
          rotate_left
          · exact ⟨_, rfl, _, _, rfl, rfl, key2 _ _ ⟨rfl, rfl⟩⟩
          rintro _ _ ⟨rfl, rfl⟩
          refine ⟨_, rfl, _, rfl, _, _, rfl, rfl, (by decide : (0 : Int) < 5), n + 1, stem, by rw [← est] <;> rfl, hst, n0 + 400 - (n + 1), by omega, n + 1, rfl, rfl, by omega, fun z h1 h2 => ?_, by omega, rfl⟩
          by_cases h : z < n
          · exact hz z h1 h
          · rw [show z = n by omega]; exact hin
        · exact key _ _ ⟨_, _, rfl, rfl, by simpa using hin, nm_name hst⟩
      rintro _ _ ⟨o, w, rfl, rfl, hw, hok⟩
      refine ⟨_, rfl, .inl ⟨rfl, _, .of hD2⟩, _, rfl, D, _, _, rfl, rfl, hD2, small (by simp; omega), _, _, _, ns ++ [w], rfl, s2.turn hD, ?_, by simp [hnl], ?_, fun x hx => ?_⟩
      · rw [upd_same, List.map_append]; rfl
      · rw [List.nodup_append]
        refine ⟨hnd, by simp, fun x hx y hy z => ?_⟩
        have : y = w := by simpa using hy
        subst this z
        exact hw hx
      · rcases List.mem_append.mp hx with hx | hx
        · exact hn x hx
        · rw [List.mem_singleton.mp hx]; exact hok
    · rintro σ G ⟨o3, o4, o5, ns, rfl, s2, hD2, hnl, hnd, hn⟩
      exact ⟨_, rfl, k D ns G hD s2 hD2 (by omega) hnd hn⟩
abbrev s_L_words_with : Stmt := top 36
theorem sc_L_words_with : FnScope ["_law_words", "_law_word", "_law_family", "_law_layer", "_law_rows", "_law_k", "_law_below", "_law_one", "_law_face", "_law_more"] ["_law_words", "_law_word", "_law_family"] (defScope s_L_words_with) := ⟨rfl, rfl, rfl, by decide +kernel, rfl, by decide +kernel, by decide +kernel⟩
theorem nd_L_words_with : (["_law_words", "_law_word", "_law_family", "_law_layer", "_law_rows", "_law_k", "_law_below", "_law_one", "_law_face", "_law_more"] : List Str).Nodup := by decide +kernel

theorem ok_L_words_with {f : Addr} {fd : FuncData} (F : Fun K "_law_words_with" "_law_words_with" s_L_words_with f fd) (T : Txt K mg) (h_L_faces_by : Has P w K mg base "_law_faces_by" ["_law_word", "_law_family"] 1 (sp_L_faces_by K)) : FnOk P w K mg base CX0 2 f fd ["_law_words", "_law_word", "_law_family"] (sp_L_words_with K) := by
  refine F.ok sc_L_words_with (fun vs H Q E h => ?_) (fun cdv A outer s H vs Q E hr h => ?_)
  · obtain ⟨l, us, v, ws, w, fam, rfl, hl, hr0, hv, hw, hlen, k⟩ := h
    rfl
  · obtain ⟨l, us, v, ws, w, fam, rfl, hl, hr0, hv, hw, hlen, k⟩ := h
    have hu8 : (A.deeper (PyProof.Rows.envOfC "_law_words_with" (defScope s_L_words_with) s.heap.objs.size f cdv)).units + 8 < cLine := by have := hr.units; omega
    refine ⟨_, (pss_cons (ps_set (i := 3) nd_L_words_with (by rfl) (by first | exact Or.inl rfl | exact Or.inr rfl) (pe_lst (pa_cons (pv 1) pa_nil)))
      (pss_cons (ps_set (i := 4) nd_L_words_with (by rfl) (by first | exact Or.inl rfl | exact Or.inr rfl) (pe_lst pa_nil))
      (pss_cons (ps_for PassesOwn.never rfl (pi_range1 (by rfl) T.n_range (pa_cons pe_int pa_nil)) (pg_name (i := 5) nd_L_words_with (by rfl) (by first | exact Or.inl rfl | exact Or.inr rfl)) (pss_cons (ps_set (i := 4) nd_L_words_with (by rfl) (by first | exact Or.inl rfl | exact Or.inr rfl) (pe_op (kop_catLW (K := K)) (pv 3) (pv 4)))
      (pss_cons (ps_set (i := 6) nd_L_words_with (by rfl) (by first | exact Or.inl rfl | exact Or.inr rfl) (pe_lst pa_nil))
      (pss_cons (ps_for PassesOwn.never rfl (kpi_list (K := K) (pv 3)) (pg_name (i := 7) nd_L_words_with (by rfl) (by first | exact Or.inl rfl | exact Or.inr rfl)) (pss_one (ps_for PassesOwn.never rfl (kpi_list (K := K) (pe_callH h_L_faces_by hr (by rfl) (pa_cons (pv 7) (pa_cons (pv 2) pa_nil)))) (pg_name (i := 8) nd_L_words_with (by rfl) (by first | exact Or.inl rfl | exact Or.inr rfl)) (pss_one (ps_if (PW.pt (pw_and (pt_cmpR (kop_notInD (K := K) hu8) (pv 8) (pv 0) rfl) (pw_and1 (pt_cmpR (kop_notInD (K := K) hu8) (pv 8) (pv 6) rfl)))) (pss_one (ps_expr (kpe_bm (K := K) PySem.F.plainAttrs_list PySem.F.slot_list_append PySem.F.type_list_append mt_append (pv 6) (pa_cons (pv 8) pa_nil)))) pss_nil)))))
      (pss_one (ps_set (i := 3) nd_L_words_with (by rfl) (by first | exact Or.inl rfl | exact Or.inr rfl) (pv 6)))))))
      (pss_cons (ps_set (i := 9) nd_L_words_with (by rfl) (by first | exact Or.inl rfl | exact Or.inr rfl) (pe_callTy (kcall_list_of (K := K)) (by rfl) T.n_list boot_listT (pa_cons (pv 0) pa_nil)))
      (pss_cons (ps_for PassesOwn.never rfl (kpi_list (K := K) (pv 4)) (pg_name (i := 7) nd_L_words_with (by rfl) (by first | exact Or.inl rfl | exact Or.inr rfl)) (pss_one (ps_if (pt_cmpR (kop_notInD (K := K) hu8) (pv 7) (pv 9) rfl) (pss_one (ps_expr (kpe_bm (K := K) PySem.F.plainAttrs_list PySem.F.slot_list_append PySem.F.type_list_append mt_append (pv 9) (pa_cons (pv 7) pa_nil)))) pss_nil)))
      (pss_one (ps_ret (pv 9)))))))), ?_⟩
    have s0w : ∀ u ∈ [w], Word fam u := fun u hu => by
      have e : u = w := by simpa using hu
      subst e
      exact hw
    refine ⟨_, rfl, smallE (by simp), fun L0 hL0 => ?_⟩
    have s1 : Same H (upd H L0 (.lst [v])) := Same.new hL0
    refine ⟨Nat.zero_le _, fun R0 hR0 => ?_⟩
    have s2 : Same (upd H L0 (.lst [v])) (upd (upd H L0 (.lst [v])) R0 (.lst [])) := Same.new hR0
    refine ⟨_, rfl, by decide, by decide, for_range (lo := 0) (n := (4 : Int).toNat)
      (fun i σ H2 => ∃ (L R : Addr) (lu ru : List V) (layer rows : List (List Int)) (o5 o6 o7 o8 o9 : Option V), σ = [some (.ref l), some v, some (.int fam), some (.ref L), some (.ref R), o5, o6, o7, o8, o9] ∧ Same H H2 ∧
        H2 L = some (.lst lu) ∧ Reps K H2 lu (layer.map tI) ∧ H2 R = some (.lst ru) ∧ Reps K H2 ru (rows.map tI) ∧ (∀ u ∈ layer, Word fam u) ∧ layers ws fam (4 - i) layer rows = layers ws fam 4 [w] [] ∧ layer.length ≤ 4 ^ i ∧ rows.length ≤ 1000 * i)
      ⟨L0, R0, [v], [], [w], [], none, none, none, none, none, rfl, s1.trans s2, s2 _ _ upd_same, Reps.one (TI.same (s1.trans s2) hv), upd_same, rfl, s0w, rfl, by simp, by simp⟩ ?_ ?_⟩
    · rintro i σ H2 hi ⟨L, R, lu, ru, layer, rows, o5, o6, o7, o8, o9, rfl, sH, hL, rL, hR, rR, hWl, hlay, hll, hrl⟩
      have hi4 : i < 4 := by simpa using hi
      have h4i : 4 ^ i ≤ 64 := by
        have : i = 0 ∨ i = 1 ∨ i = 2 ∨ i = 3 := by omega
        rcases this with rfl | rfl | rfl | rfl <;> decide
      have lul : lu.length = layer.length := by have := rL.length; simpa using this
      have rul : ru.length = rows.length := by have := rR.length; simpa using this
      refine ⟨_, rfl, _, rfl, L, R, _, _, rfl, rfl, .of hL, .of hR, smallE (by omega), fun R1 hR1 => ?_⟩
      have sa : Same H2 (upd H2 R1 (.lst (lu ++ ru))) := Same.new hR1
      have hR1a : (upd H2 R1 (.lst (lu ++ ru))) R1 = some (.lst (lu ++ ru)) := upd_same
      have rRa : Reps K (upd H2 R1 (.lst (lu ++ ru))) (lu ++ ru) ((layer ++ rows).map tI) := by
        rw [List.map_append]
        exact (Reps.same sa rL).append (Reps.same sa rR)
      have hLa := sa _ _ hL
      have rLa : Reps K (upd H2 R1 (.lst (lu ++ ru))) lu (layer.map tI) := Reps.same sa rL
      have sHa : Same H (upd H2 R1 (.lst (lu ++ ru))) := sH.trans sa
      refine ⟨Nat.zero_le _, fun B hB => ?_⟩
      have sb : Same (upd H2 R1 (.lst (lu ++ ru))) (upd (upd H2 R1 (.lst (lu ++ ru))) B (.lst [])) := Same.new hB
      have hBH : H B = none := sHa.free hB
      refine ⟨_, rfl, L, rfl, ⟨_, .of (sb _ _ hLa)⟩, for_list (K := K) (a := L) (xs := lu)
        (fun j σ H3 => ∃ (bu : List V) (o7 o8 : Option V), σ = [some (.ref l), some v, some (.int fam), some (.ref L), some (.ref R1), some (.int (0 + i)), some (.ref B), o7, o8, o9] ∧ Same (upd H2 R1 (.lst (lu ++ ru))) H3 ∧ H3 B = some (.lst bu) ∧
          Reps K H3 bu ((below ws fam [] (layer.take j)).map tI))
        ⟨[], _, _, rfl, sb, upd_same, rfl⟩ (fun j σ H3 _ ⟨_, _, _, _, s3, _⟩ => .of (s3 _ _ hLa)) ?_ ?_⟩
      · rintro j x σ H3 hx ⟨bu, o7, o8, rfl, s3, hB3, rB⟩
        have hj : j < lu.length := (List.getElem?_eq_some_iff.mp hx).1
        have hjl : j < layer.length := by omega
        have hjx : (layer.map tI)[j]? = some (tI layer[j]) := by rw [List.getElem?_map, List.getElem?_eq_getElem hjl]; rfl
        obtain ⟨x', hx', tx⟩ := rLa.get hjx
        rw [hx] at hx'
        cases hx'
        have hwj : Word fam layer[j] := hWl _ (List.getElem_mem _)
        refine ⟨_, rfl, _, rfl, x, layer[j], fam, rfl, TI.same s3 tx, hwj, fun p fu H4 hp s4 hp4 r4 => ?_⟩
        have fl := faces_len hwj
        have ful : fu.length = (facesBy layer[j] fam).length := by have := r4.length; simpa using this
        have hpB : p ≠ B := fun z => by rw [z, hB3] at hp; cases hp
        have hB4 := s4 _ _ hB3
        refine ⟨p, rfl, ⟨_, .of hp4⟩, for_list (K := K) (a := p) (xs := fu)
          (fun m σ H5 => ∃ (bu : List V) (o8 : Option V), σ = [some (.ref l), some v, some (.int fam), some (.ref L), some (.ref R1), some (.int (0 + i)), some (.ref B), some x, o8, o9] ∧ SameX B H4 H5 ∧ H5 B = some (.lst bu) ∧
            Reps K H5 bu ((addNew ws (below ws fam [] (layer.take j)) ((facesBy layer[j] fam).take m)).map tI) ∧ (addNew ws (below ws fam [] (layer.take j)) ((facesBy layer[j] fam).take m)).length ≤ 1000)
          ⟨bu, _, rfl, SameX.refl _ _, hB4, (by simpa [addNew] using Reps.same s4 rB), ?_⟩ (fun m σ H5 _ ⟨_, _, _, s5, _⟩ => .of (s5 _ _ hpB hp4)) ?_ ?_⟩
        · have := below_len (ws := ws) (fam := fam) (layer.take j) [] (fun u hu => hWl u (List.mem_of_mem_take hu))
          simp only [List.take_zero, addNew, List.length_nil, List.length_take] at this ⊢
          omega
        · rintro m y σ H5 hy ⟨bu5, o8', rfl, s5, hB5, rB5, hbl5⟩
          have hm : m < fu.length := (List.getElem?_eq_some_iff.mp hy).1
          have hmf : m < (facesBy layer[j] fam).length := by omega
          have hmy : ((facesBy layer[j] fam).map tI)[m]? = some (tI (facesBy layer[j] fam)[m]) := by rw [List.getElem?_map, List.getElem?_eq_getElem hmf]; rfl
          obtain ⟨y', hy', ty⟩ := r4.get hmy
          rw [hy] at hy'
          cases hy'
          generalize hf : (facesBy layer[j] fam)[m] = fc at ty
          have ty5 : TI K H5 y fc := TI.t (s5.t hB4) ty
          have hl5 : H5 l = some (.lst us) := by
            refine s5 l _ (fun z => ?_) (s4 _ _ (s3 _ _ (sHa _ _ hl)))
            rw [z] at hl
            rw [hl] at hBH
            cases hBH
          have rl5 : Rep K H5 (.ref l) (.lst (ws.map tI)) := ⟨l, us, rfl, .of hl5, Reps.t (s5.t hB4) (imms_tIs ws) (Reps.same ((sHa.trans s3).trans s4) hr0)⟩
          have rb5 : Rep K H5 (.ref B) (.lst ((addNew ws (below ws fam [] (layer.take j)) ((facesBy layer[j] fam).take m)).map tI)) := ⟨B, bu5, rfl, .of hB5, rB5⟩
          have e0 : addNew ws (below ws fam [] (layer.take j)) ((facesBy layer[j] fam).take (m + 1)) = (if fc ∉ ws ∧ fc ∉ addNew ws (below ws fam [] (layer.take j)) ((facesBy layer[j] fam).take m) then addNew ws (below ws fam [] (layer.take j)) ((facesBy layer[j] fam).take m) ++ [fc] else addNew ws (below ws fam [] (layer.take j)) ((facesBy layer[j] fam).take m)) := by
            rw [List.take_succ, List.getElem?_eq_getElem hmf, hf]
            exact addNew_snoc _ _ _ _
          have hbu5 : bu5.length = (addNew ws (below ws fam [] (layer.take j)) ((facesBy layer[j] fam).take m)).length := by have := rB5.length; simpa using this
          have hlen6 : (addNew ws (below ws fam [] (layer.take j)) ((facesBy layer[j] fam).take (m + 1))).length ≤ 1000 := by
            have h1 := addNew_len (ws := ws) ((facesBy layer[j] fam).take (m + 1)) (below ws fam [] (layer.take j))
            have h2 := below_len (ws := ws) (fam := fam) (layer.take j) [] (fun u hu => hWl u (List.mem_of_mem_take hu))
            simp only [List.length_nil, List.length_take] at h1 h2
            have h3 : (facesBy layer[j] fam).length ≤ 4 := by have := fl.1; have := fl.2; split at * <;> omega
            omega
          generalize hacc : addNew ws (below ws fam [] (layer.take j)) ((facesBy layer[j] fam).take m) = acc at rB5 rb5 e0 hbu5 hbl5
          refine ⟨_, rfl, _, rfl, tI fc, ws.map tI, ty5, .inl rl5, (by have := deps_tIs ws; omega), _, rfl, ?_⟩
          by_cases h1 : fc ∈ ws
          · refine ifN (by rw [if_pos rfl, any_tI]; simp [h1]) ?_
            refine ifN (by simp) ?_
            refine ⟨bu5, _, rfl, s5, hB5, ?_, hlen6⟩
            rw [e0, if_neg (by simp [h1])]
            exact rB5
          · refine ifP (by rw [if_pos rfl, any_tI]; simp [h1]) ?_
            refine ⟨_, rfl, _, rfl, tI fc, acc.map tI, ty5, .inl rb5, (by have := deps_tIs acc; omega), _, rfl, ?_⟩
            by_cases h2 : fc ∈ acc
            · refine ifN (by rw [if_pos rfl, any_tI]; simp [h2]) ?_
              refine ⟨bu5, _, rfl, s5, hB5, ?_, hlen6⟩
              rw [e0, if_neg (by simp [h2])]
              exact rB5
            · refine ifP (by rw [if_pos rfl, any_tI]; simp [h2]) ?_
              refine ⟨_, rfl, .inl ⟨rfl, _, .of hB5⟩, _, rfl, B, _, _, rfl, rfl, hB5, small (by omega), ?_⟩
              refine ⟨_, _, rfl, s5.upd, upd_same, ?_, hlen6⟩
              rw [e0, if_pos ⟨h1, h2⟩]
              exact push_TI hB5 rB5 ty5
        · rintro σ H5 ⟨bu5, o8', rfl, s5, hB5, rB5, _⟩
          refine ⟨bu5, _, _, rfl, ?_, hB5, ?_⟩
          · exact s5.same (s3.trans s4) hB
          · rw [ful, List.take_length] at rB5
            rw [List.take_succ, List.getElem?_eq_getElem hjl]
            have e1 : below ws fam [] (layer.take j ++ (some layer[j]).toList) = addNew ws (below ws fam [] (layer.take j)) (facesBy layer[j] fam) := below_snoc _ _ _ _ _
            rw [e1]
            exact rB5
      · rintro σ H3 ⟨bu, o7, o8, rfl, s3, hB3, rB⟩
        rw [lul, List.take_length] at rB
        refine ⟨_, rfl, ?_⟩
        refine ⟨B, R1, bu, lu ++ ru, below ws fam [] layer, layer ++ rows, _, _, _, _, _, rfl, sHa.trans s3, hB3, rB, s3 _ _ hR1a, Reps.same s3 rRa, ?_, ?_, ?_, ?_⟩
        · intro u hu
          rcases below_sub _ _ hu with z | ⟨t, ht, z⟩
          · exact nomatch z
          · exact (faces_word (hWl t ht) z).1
        · rw [← hlay, show 4 - i = (4 - (i + 1)) + 1 by omega]
          rfl
        · have := below_len (ws := ws) (fam := fam) layer [] hWl
          simp only [List.length_nil] at this
          rw [Nat.pow_succ]
          omega
        · rw [List.length_append]
          omega
    · rintro σ H2 ⟨L, R, lu, ru, layer, rows, o5, o6, o7, o8, o9, rfl, sH, hL, rL, hR, rR, hWl, hlay, hll, hrl⟩
      have hrows : rows = layers ws fam 4 [w] [] := hlay
      have hrl2 := layers_len (ws := ws) hw
      rw [← hrows] at hrl2
      have rul : ru.length = rows.length := by have := rR.length; simpa using this
      refine ⟨_, rfl, l, _, rfl, .inl (.of (sH _ _ hl)), fun M hM => ?_⟩
      have sm : Same H2 (upd H2 M (.lst us)) := Same.new hM
      have hMH : H M = none := sH.free hM
      have usl : us.length = ws.length := by have := hr0.length; simpa using this
      refine ⟨_, rfl, R, rfl, ⟨_, .of (sm _ _ hR)⟩, for_list (K := K) (a := R) (xs := ru)
        (fun j σ H3 => ∃ (mu : List V) (o7 : Option V), σ = [some (.ref l), some v, some (.int fam), some (.ref L), some (.ref R), o5, o6, o7, o8, some (.ref M)] ∧ Same H2 H3 ∧ H3 M = some (.lst mu) ∧ Reps K H3 mu ((addAll ws (rows.take j)).map tI))
        ⟨us, _, rfl, sm, upd_same, (by simpa [addAll] using Reps.same (sH.trans sm) hr0)⟩ (fun j σ H3 _ ⟨_, _, _, s3, _⟩ => .of (s3 _ _ hR)) ?_ ?_⟩
      · rintro j x σ H3 hx ⟨mu, o7', rfl, s3, hM3, rM⟩
        have hj : j < ru.length := (List.getElem?_eq_some_iff.mp hx).1
        have hjl : j < rows.length := by omega
        have hjx : (rows.map tI)[j]? = some (tI rows[j]) := by rw [List.getElem?_map, List.getElem?_eq_getElem hjl]; rfl
        obtain ⟨x', hx', tx⟩ := rR.get hjx
        rw [hx] at hx'
        cases hx'
        generalize hf : rows[j] = fc at tx
        have tx3 : TI K H3 x fc := TI.same s3 tx
        have e0 : addAll ws (rows.take (j + 1)) = (if fc ∈ addAll ws (rows.take j) then addAll ws (rows.take j) else addAll ws (rows.take j) ++ [fc]) := by
          rw [List.take_succ, List.getElem?_eq_getElem hjl, hf]
          exact addAll_snoc _ _ _
        have hal := addAll_len (rows.take j) ws
        rw [List.length_take] at hal
        have mul : mu.length = (addAll ws (rows.take j)).length := by have := rM.length; simpa using this
        generalize hacc : addAll ws (rows.take j) = acc at rM e0 hal mul
        have rm3 : Rep K H3 (.ref M) (.lst (acc.map tI)) := ⟨M, mu, rfl, .of hM3, rM⟩
        refine ⟨_, rfl, _, rfl, tI fc, acc.map tI, tx3, .inl rm3, (by have := deps_tIs acc; omega), _, rfl, ?_⟩
        by_cases h1 : fc ∈ acc
        · refine ifN (by rw [if_pos rfl, any_tI]; simp [h1]) ?_
          refine ⟨mu, _, rfl, s3, hM3, ?_⟩
          rw [e0, if_pos h1]
          exact rM
        · refine ifP (by rw [if_pos rfl, any_tI]; simp [h1]) ?_
          refine ⟨_, rfl, .inl ⟨rfl, _, .of hM3⟩, _, rfl, M, _, _, rfl, rfl, hM3, small (by omega), ?_⟩
          refine ⟨_, _, rfl, s3.turn hM, upd_same, ?_⟩
          rw [e0, if_neg h1]
          exact push_TI hM3 rM tx3
      · rintro σ H3 ⟨mu, o7', rfl, s3, hM3, rM⟩
        rw [rul, List.take_length, hrows] at rM
        exact ⟨_, rfl, k M mu H3 hMH (sH.trans s3) hM3 rM⟩
abbrev s_is_place_of_level : Stmt := top 13
theorem sc_is_place_of_level : FnScope ["shape", "thing", "level"] ["shape", "thing", "level"] (defScope s_is_place_of_level) := ⟨rfl, rfl, rfl, by decide +kernel, rfl, by decide +kernel, by decide +kernel⟩
theorem ok_is_place_of_level {f : Addr} {fd : FuncData} (F : Fun K "is_place_of_level" "is_place_of_level" s_is_place_of_level f fd) (T : Txt K mg) (h_is_whole_below : Has P w K mg base "is_whole_below" ["thing", "bound"] 2 (sp_is_whole_below K)) (h_level_of : Has P w K mg base "level_of" ["piece"] 1 (sp_level_of K)) : FnOk P w K mg base CX0 3 f fd ["shape", "thing", "level"] (sp_is_place_of_level K) := by
  refine F.ok sc_is_place_of_level (fun vs H Q E h => ?_) (fun cdv A outer s H vs Q E hr h => ?_)
  · obtain ⟨a, x, d, l, xs, rfl, hL, hx, k⟩ := h
    rfl
  · obtain ⟨a, x, d, l, xs, rfl, hL, hx, k⟩ := h
    refine ⟨_, (pss_one (ps_ret (pe_and (pe_callH h_is_whole_below hr (by rfl) (pa_cons (pv 1) (pa_cons (pe_callB (kcall_len_seq (K := K)) (by rfl) T.n_len PySem.boot_len (pa_cons (pv 0) pa_nil)) pa_nil))) (pe_one (pe_cmpR op_eq (pe_callH h_level_of hr (by rfl) (pa_cons (pe_ix (kix_list (K := K)) (pv 0) (pv 1) (fun _ _ => rfl)) pa_nil)) (pv 2) (nomark _)))))), ?_⟩
    obtain ⟨us, hq, hul⟩ := LT.len hL
    refine ⟨_, rfl, _, rfl, a, us, rfl, .inl hq, x, d, _, rfl, hx, _, rfl, ?_⟩
    rw [hul]
    refine ite2 (fun e => ?_) (fun e => ?_)
    · obtain ⟨i, rfl⟩ : ∃ i, d = .int i := by cases d <;> first | exact ⟨_, rfl⟩ | (exfalso; simp [belowD] at e)
      cases (show x = .int i from hx)
      have e' : (decide (0 ≤ i) && decide (i < (xs.length : Int))) = true := e
      have h0 : 0 ≤ i ∧ i < (xs.length : Int) := by simpa using e'
      obtain ⟨us', v, hq', hv, tv⟩ := LT.get hL h0.1 h0.2
      refine ⟨_, rfl, _, rfl, a, us', i, v, rfl, rfl, hq', hv, v, _, rfl, .inr tv, _, rfl, rfl, ?_⟩
      have e2 : placeLev xs (.int i) l = decide (levI (nums (xs.getD i.toNat [])).length = l) := by
        show (decide (0 ≤ i) && decide (i < (xs.length : Int)) && decide (levI (xs.getD i.toNat []).length = l)) = _
        rw [e']
        simp [nums]
      rw [e2] at k
      have e3 : decide (V.int (levI (nums (xs.getD i.toNat [])).length) = V.int l) = decide (levI (nums (xs.getD i.toNat [])).length = l) := by
        by_cases z : levI (nums (xs.getD i.toNat [])).length = l
        · simp [z]
        · simp [z]
      rw [e3]
      exact k
    · have e2 : placeLev xs d l = false := by
        cases d with
        | int i =>
          have e' : ¬ (decide (0 ≤ i) && decide (i < (xs.length : Int))) = true := e
          show (decide (0 ≤ i) && decide (i < (xs.length : Int)) && decide (levI (xs.getD i.toNat []).length = l)) = false
          rw [Bool.eq_false_iff.mpr e']
          rfl
        | _ => rfl
      rw [e2] at k
      exact k
abbrev s_L_shape_by : Stmt := top 37
theorem sc_L_shape_by : FnScope ["_law_kind", "_law_cells", "_law_most", "_law_family", "_law_words", "_law_cell", "_law_more"] ["_law_kind", "_law_cells", "_law_most"] (defScope s_L_shape_by) := ⟨rfl, rfl, rfl, by decide +kernel, rfl, by decide +kernel, by decide +kernel⟩
theorem nd_L_shape_by : (["_law_kind", "_law_cells", "_law_most", "_law_family", "_law_words", "_law_cell", "_law_more"] : List Str).Nodup := by decide +kernel

theorem ok_L_shape_by {f : Addr} {fd : FuncData} (F : Fun K "_law_shape_by" "_law_shape_by" s_L_shape_by f fd) (T : Txt K mg) (h_L_words_with : Has P w K mg base "_law_words_with" ["_law_words", "_law_word", "_law_family"] 2 (sp_L_words_with K)) (h_L_word_by : Has P w K mg base "_law_word_by" ["_law_cell", "_law_family", "_law_letters"] 1 (sp_L_word_by K)) (h_L_faces_by : Has P w K mg base "_law_faces_by" ["_law_word", "_law_family"] 1 (sp_L_faces_by K)) : FnOk P w K mg base CX0 3 f fd ["_law_kind", "_law_cells", "_law_most"] (sp_L_shape_by K) := by
  refine F.ok sc_L_shape_by (fun vs H Q E h => ?_) (fun cdv A outer s H vs Q E hr h => ?_)
  · obtain ⟨a, ns, kind, most, rfl, hS, hl, hm0, hm1, k⟩ := h
    rfl
  · obtain ⟨a, ns, kind, most, rfl, hS, hl, hm0, hm1, k⟩ := h
    have hu8 : (A.deeper (PyProof.Rows.envOfC "_law_shape_by" (defScope s_L_shape_by) s.heap.objs.size f cdv)).units + 8 < cLine := by have := hr.units; omega
    refine ⟨_, (pss_cons (ps_set (i := 3) nd_L_shape_by (by rfl) (by first | exact Or.inl rfl | exact Or.inr rfl) pe_int)
      (pss_cons (ps_if (pt_cmpR op_eq (pe_op op_mod (pv 0) pe_int) pe_int (nomark _)) (pss_one (ps_set (i := 3) nd_L_shape_by (by rfl) (by first | exact Or.inl rfl | exact Or.inr rfl) (pe_un un_neg pe_int))) pss_nil)
      (pss_cons (ps_if (pt_cmpR op_eq (pe_op op_mod (pv 0) pe_int) pe_int (nomark _)) (pss_one (ps_set (i := 3) nd_L_shape_by (by rfl) (by first | exact Or.inl rfl | exact Or.inr rfl) (pe_op op_add pe_int (pe_op op_mod (pe_op op_fdiv (pv 0) pe_int) pe_int)))) pss_nil)
      (pss_cons (ps_set (i := 4) nd_L_shape_by (by rfl) (by first | exact Or.inl rfl | exact Or.inr rfl) (pe_lst pa_nil))
      (pss_cons (ps_for PassesOwn.never rfl (kpi_list (K := K) (pv 1)) (pg_name (i := 5) nd_L_shape_by (by rfl) (by first | exact Or.inl rfl | exact Or.inr rfl)) (pss_cons (ps_set (i := 6) nd_L_shape_by (by rfl) (by first | exact Or.inl rfl | exact Or.inr rfl) (pe_callH h_L_words_with hr (by rfl) (pa_cons (pv 4) (pa_cons (pe_callH h_L_word_by hr (by rfl) (pa_cons (pv 5) (pa_cons (pv 3) (pa_cons (pe_op op_add pe_int (pe_op op_mod (pe_op op_fdiv (pv 0) pe_int) pe_int)) pa_nil)))) (pa_cons (pv 3) pa_nil)))))
      (pss_one (ps_if (pt_cmpR op_le (pe_callB (kcall_len_seq (K := K)) (by rfl) T.n_len PySem.boot_len (pa_cons (pv 6) pa_nil)) (pv 2) (nomark _)) (pss_one (ps_set (i := 4) nd_L_shape_by (by rfl) (by first | exact Or.inl rfl | exact Or.inr rfl) (pv 6))) pss_nil))))
      (pss_one (ps_ret (pe_comp (N' := ["_law_word", "_law_family", "_law_words"]) (cap := [none, some 3, some 4]) (by rfl) (by kernel_rfl) (kpi_list (K := K) (pv 4)) (fun _ _ _ _ => (pg_name (i := 0) ndc_9 (by rfl) (by first | exact Or.inl rfl | exact Or.inr rfl))) (fun _ _ _ _ => pts_nil) (fun _ _ _ _ => (pe_callTy (kcall_tuple_of (K := K)) (by rfl) T.n_tuple boot_tupleT (pa_cons (pe_comp (N' := ["_law_face", "_law_words"]) (cap := [none, some 2]) (by rfl) (by kernel_rfl) (kpi_list (K := K) (pe_callH h_L_faces_by hr (by rfl) (pa_cons (pv 0) (pa_cons (pv 1) pa_nil)))) (fun _ _ _ _ => (pg_name (i := 0) ndc_10 (by rfl) (by first | exact Or.inl rfl | exact Or.inr rfl))) (fun _ _ _ _ => pts_nil) (fun _ _ _ _ => (kpe_bm (K := K) PySem.F.plainAttrs_list PySem.F.slot_list_index PySem.F.type_list_index (kmt_index (K := K) hu8) (pv 1) (pa_cons (pv 0) pa_nil)))) pa_nil))))))))))), ?_⟩
    refine tSeq_cut (fun σ' H' => σ' = [some (.int kind), some (.ref a), some (.int most), some (.int 0), none, none, none] ∧ H = H') ?_ fun key0 => key0 _ _ ⟨rfl, rfl⟩
    rintro _ _ ⟨rfl, rfl⟩
    refine tSeq_cut (fun σ' H' => ∃ fam : Int, σ' = [some (.int kind), some (.ref a), some (.int most), some (.int fam), none, none, none] ∧ H = H' ∧ fam < 100) ?_ fun key1 => ?_
    rotate_left
    · refine ⟨_, rfl, _, _, rfl, rfl, (by show (0 : Int) < 3; decide), rfl, _, rfl, ?_⟩
      refine ite2 (fun _ => ?_) (fun _ => ?_)
      · exact ⟨_, rfl, key1 _ _ ⟨-1, rfl, rfl, by decide⟩⟩
      · exact key1 _ _ ⟨0, rfl, rfl, by decide⟩
    rintro _ _ ⟨fam0, rfl, rfl, hf0⟩
    refine tSeq_cut (fun σ' H' => ∃ fam : Int, σ' = [some (.int kind), some (.ref a), some (.int most), some (.int fam), none, none, none] ∧ H = H' ∧ fam < 100) ?_ fun key2 => ?_
    rotate_left
    · refine ⟨_, rfl, _, _, rfl, rfl, (by show (0 : Int) < 3; decide), rfl, _, rfl, ?_⟩
      refine ite2 (fun _ => ?_) (fun _ => ?_)
      · refine ⟨_, rfl, _, _, rfl, rfl, ⟨by decide, by decide⟩, _, _, rfl, rfl, (by show (0 : Int) < 19; decide), _, _, rfl, rfl, key2 _ _ ⟨_, rfl, rfl, ?_⟩⟩
        have : kind / 18 % 19 < 19 := Int.emod_lt_of_pos _ (by decide)
        omega
      · exact key2 _ _ ⟨fam0, rfl, rfl, hf0⟩
    rintro _ _ ⟨fam, rfl, rfl, hf⟩
    have l1 : 0 ≤ kind / 3 % 6 := Int.emod_nonneg _ (by decide)
    have l2 : kind / 3 % 6 < 6 := Int.emod_lt_of_pos _ (by decide)
    refine ⟨Nat.zero_le _, fun W0 hW0 => ?_⟩
    have s0 : Same H (upd H W0 (.lst [])) := Same.new hW0
    refine ⟨_, rfl, a, rfl, ⟨_, s0.seq hS⟩, for_list (K := K) (a := a) (xs := ns.map V.int)
      (fun j σ H2 => ∃ (W : Addr) (wu : List V) (ws : List (List Int)) (o5 o6 : Option V), σ = [some (.int kind), some (.ref a), some (.int most), some (.int fam), some (.ref W), o5, o6] ∧ Same H H2 ∧ H W = none ∧ H2 W = some (.lst wu) ∧
        Reps K H2 wu (ws.map tI) ∧ Ord fam ws ∧ (ws.length : Int) ≤ most)
      ⟨W0, [], [], none, none, rfl, s0, hW0, upd_same, rfl, Ord.nil, by simpa using hm0⟩ (fun j σ H2 _ ⟨_, _, _, _, _, _, s2, _⟩ => s2.seq hS) ?_ ?_⟩
    · rintro j x σ H2 hx ⟨W, wu, ws, o5, o6, rfl, s2, hW, hW2, rW, hO, hwl⟩
      have hjn : j < ns.length := by have := (List.getElem?_eq_some_iff.mp hx).1; simpa using this
      have hxv : x = .int ns[j] := by
        rw [List.getElem?_map, List.getElem?_eq_getElem hjn] at hx
        simpa using hx.symm
      subst hxv
      refine ⟨_, rfl, _, rfl, _, rfl, _, rfl, _, _, rfl, rfl, ⟨by decide, by decide⟩, _, _, rfl, rfl, (by show (0 : Int) < 6; decide), _, _, rfl, rfl, ?_⟩
      refine ⟨_, _, _, rfl, by omega, by omega, by omega, fun v H3 w s3 tv hw => ?_⟩
      refine ⟨_, rfl, ?_⟩
      refine ⟨W, wu, v, ws, w, fam, rfl, s3 _ _ hW2, Reps.same s3 rW, tv, hw, by omega, fun M mu H4 hM s4 hM4 rM => ?_⟩
      have s24 := s3.trans s4
      have hMH : H M = none := (s2.trans s3).free hM
      have mul : mu.length = (wordsWith ws w fam).length := by have := rM.length; simpa using this
      refine ⟨_, rfl, M, _, rfl, .inl (.of hM4), _, rfl, _, _, rfl, rfl, _, rfl, ?_⟩
      refine ite2 (fun h1 => ?_) (fun h1 => ?_)
      · have h2 : (mu.length : Int) ≤ most := by simpa using h1
        exact ⟨_, rfl, M, mu, wordsWith ws w fam, _, _, rfl, s2.trans s24, hMH, hM4, rM, wordsWith_ord hO hw, by omega⟩
      · exact ⟨W, wu, ws, _, _, rfl, s2.trans s24, hW, s24 _ _ hW2, Reps.same s24 rW, hO, hwl⟩
    · rintro σ H2 ⟨W, wu, ws, o5, o6, rfl, s2, hW, hW2, rW, hO, hwl⟩
      have wul : wu.length = ws.length := by have := rW.length; simpa using this
      refine ⟨_, rfl, W, rfl, ⟨_, .of hW2⟩, fun D hD => ?_⟩
      have hDH : H D = none := s2.free hD
      refine comp_list0 (K := K) (a := W) (xs := wu) (fun i ys τ H1 => Same H2 H1 ∧ H1 D = some (.lst ys) ∧ Reps K H1 ys (((ws.take i).map fun w => (facesBy w fam).map fun f => (idx ws f : Int)).map tI) ∧ ∃ o, τ = [o, some (.int fam), some (.ref W)])
        ⟨Same.new hD, upd_same, rfl, none, rfl⟩ (fun i ys τ H1 _ ⟨s1, _⟩ => .of (s1 _ _ hW2)) ?_ ?_
      · rintro i x ys τ H1 hx ⟨s1, hD1, r1, o, rfl⟩
        have hi : i < wu.length := (List.getElem?_eq_some_iff.mp hx).1
        have hil : i < ws.length := by omega
        have hix : (ws.map tI)[i]? = some (tI ws[i]) := by rw [List.getElem?_map, List.getElem?_eq_getElem hil]; rfl
        obtain ⟨x', hx', tx⟩ := rW.get hix
        rw [hx] at hx'
        cases hx'
        obtain ⟨hwi, hfi⟩ := hO.mem (List.getElem_mem hil)
        generalize hwe : ws[i] = w at tx hwi hfi
        refine ⟨_, rfl, _, rfl, x, w, fam, rfl, TI.same s1 tx, hwi, fun p fu H3 hp s3 hp3 r3 => ?_⟩
        have ful : fu.length = (facesBy w fam).length := by have := r3.length; simpa using this
        have s13 := s1.trans s3
        refine ⟨p, rfl, ⟨_, .of hp3⟩, fun D2 hD2 => ?_⟩
        refine comp_list0 (K := K) (a := p) (xs := fu) (fun m zs τ H4 => Same H3 H4 ∧ H4 D2 = some (.lst zs) ∧ zs = ((facesBy w fam).take m).map (fun f => V.int (idx ws f : Int)) ∧ ∃ o, τ = [o, some (.ref W)])
          ⟨Same.new hD2, upd_same, rfl, none, rfl⟩ (fun m zs τ H4 _ ⟨s4, _⟩ => .of (s4 _ _ hp3)) ?_ ?_
        · rintro m y zs τ H4 hy ⟨s4, hD4, hzs, o, rfl⟩
          have hm : m < fu.length := (List.getElem?_eq_some_iff.mp hy).1
          have hmf : m < (facesBy w fam).length := by omega
          have hmy : ((facesBy w fam).map tI)[m]? = some (tI (facesBy w fam)[m]) := by rw [List.getElem?_map, List.getElem?_eq_getElem hmf]; rfl
          obtain ⟨y', hy', ty⟩ := r3.get hmy
          rw [hy] at hy'
          cases hy'
          have hfm : (facesBy w fam)[m] ∈ ws := hfi _ (List.getElem_mem _)
          have s14 := s13.trans s4
          have rw4 : Rep K H4 (.ref W) (.lst (ws.map tI)) := ⟨W, wu, rfl, .of (s14 _ _ hW2), Reps.same s14 rW⟩
          have hfl := (faces_len hwi)
          have hzl : zs.length ≤ 4 := by
            rw [hzs, List.length_map, List.length_take]
            have := hfl.2
            have := hfl.1
            split at this <;> omega
          refine ⟨_, rfl, .inl ⟨rfl, _, .of (s14 _ _ hW2)⟩, _, rfl, ws.map tI, y, tI (facesBy w fam)[m], idx ws (facesBy w fam)[m], rfl, rw4, TI.same s4 ty, (by have := deps_tIs ws; omega), findIdx_tI hfm, ?_⟩
          refine ⟨hD4, small (by omega), s4.turn hD2, upd_same, ?_, _, rfl⟩
          rw [List.take_succ, List.getElem?_eq_getElem hmf, List.map_append, hzs]
          rfl
        · rintro zs τ H4 ⟨s4, hD4, hzs, _⟩
          rw [ful, List.take_length] at hzs
          have s14 := s13.trans s4
          refine ⟨D2, _, rfl, .inl ⟨.of hD4, fun T hT => ?_⟩⟩
          have s5 : Same H4 (upd H4 T (.tup zs)) := Same.new hT
          have hD5 := (s3.trans (s4.trans s5)) _ _ hD1
          have t5 : TI K (upd H4 T (.tup zs)) (.ref T) ((facesBy w fam).map fun f => (idx ws f : Int)) := by
            refine TI.mk (.of ?_)
            rw [List.map_map, upd_same, hzs]
            rfl
          have hyl : ys.length = i := by have := r1.length; simp at this; omega
          refine ⟨hD5, small (by omega), (s14.trans s5).turn hD, upd_same, ?_, _, rfl⟩
          have e2 : (ws.take (i + 1)).map (fun w => (facesBy w fam).map fun f => (idx ws f : Int)) = (ws.take i).map (fun w => (facesBy w fam).map fun f => (idx ws f : Int)) ++ [(facesBy w fam).map fun f => (idx ws f : Int)] := by
            rw [List.take_succ, List.getElem?_eq_getElem hil, hwe, List.map_append]
            rfl
          rw [e2]
          exact push_TI hD5 (Reps.same (s3.trans (s4.trans s5)) r1) t5
      · rintro ys τ H1 ⟨s1, hD1, r1, _⟩
        rw [wul, List.take_length] at r1
        exact k D ys H1 (shapeOf ws fam) hDH (s2.trans s1) hD1 r1 (shapeOf_shape hO) (by unfold shapeOf; rw [List.length_map]; exact hwl)
abbrev s_fits : Stmt := top 12
theorem sc_fits : FnScope ["shape", "thing", "level"] ["shape", "thing"] (defScope s_fits) := ⟨rfl, rfl, rfl, by decide +kernel, rfl, by decide +kernel, by decide +kernel⟩
theorem nd_fits : (["shape", "thing", "level"] : List Str).Nodup := by decide +kernel

theorem ok_fits {f : Addr} {fd : FuncData} (F : Fun K "fits" "fits" s_fits f fd) (T : Txt K mg) (h_level_of : Has P w K mg base "level_of" ["piece"] 1 (sp_level_of K)) (h_faces_agree : Has P w K mg base "faces_agree" ["shape", "faces"] 1 (sp_faces_agree K)) (h_is_place_of_level : Has P w K mg base "is_place_of_level" ["shape", "thing", "level"] 3 (sp_is_place_of_level K)) : FnOk P w K mg base CX0 4 f fd ["shape", "thing"] (sp_fits K) := by
  refine F.ok sc_fits (fun vs H Q E h => ?_) (fun cdv A outer s H vs Q E hr h => ?_)
  · obtain ⟨a, th, d, xs, rfl, hL, hd, k⟩ := h
    rfl
  · obtain ⟨a, th, d, xs, rfl, hL, hd, k⟩ := h
    obtain ⟨a_FACE_COUNTS, c_FACE_COUNTS, q_FACE_COUNTS⟩ := T.x_FACE_COUNTS
    have hu8 : (A.deeper (PyProof.Rows.envOfC "fits" (defScope s_fits) s.heap.objs.size f cdv)).units + 8 < cLine := by have := hr.units; omega
    refine ⟨_, (pss_cons (ps_if (PW.pt (pw_or (pt_not (pt_val (pe_callB (kcall_isinst (K := K)) (by rfl) T.n_isinstance boot_isinstanceB (pa_cons (pv 1) (pa_cons (pe_bltn (v := .ty "tuple") rfl T.n_tuple boot_tupleT rfl) pa_nil))))) (pw_or1 (pt_cmpR (kop_notInD (K := K) hu8) (pe_callB (kcall_len_seq (K := K)) (by rfl) T.n_len PySem.boot_len (pa_cons (pv 1) pa_nil)) (pe_glob (v := .ref a_FACE_COUNTS) (by rfl) c_FACE_COUNTS rfl) rfl)))) (pss_one (ps_ret pe_bl)) pss_nil)
      (pss_cons (ps_set (i := 2) nd_fits (by rfl) (by first | exact Or.inl rfl | exact Or.inr rfl) (pe_callH h_level_of hr (by rfl) (pa_cons (pv 1) pa_nil)))
      (pss_cons (ps_if (pt_not (pt_val (pe_callB (kcall_allB (K := K) (by rfl)) (by rfl) T.n_all boot_allB (pa_cons (pe_comp (N' := ["face", "shape", "level"]) (cap := [none, some 0, some 2]) (by rfl) (by kernel_rfl) (kpi_tup (K := K) (pv 1)) (fun _ _ _ _ => (pg_name (i := 0) ndc_0 (by rfl) (by first | exact Or.inl rfl | exact Or.inr rfl))) (fun _ _ _ _ => pts_nil) (fun _ _ _ _ => (pe_callH h_is_place_of_level hr (by rfl) (pa_cons (pv 1) (pa_cons (pv 0) (pa_cons (pe_op op_sub (pv 2) pe_int) pa_nil)))))) pa_nil)))) (pss_one (ps_ret pe_bl)) pss_nil)
      (pss_one (ps_ret (pe_or (pe_cmpR op_lt (pv 2) pe_int (nomark _)) (pe_one (pe_callH h_faces_agree hr (by rfl) (pa_cons (pv 0) (pa_cons (pv 1) pa_nil)))))))))), ?_⟩
    refine ⟨_, rfl, _, _, d, rfl, .inr (.inr (.inr (.inl rfl))), hd, _, rfl, ?_⟩
    cases d with
    | non => exact k H (Same.refl H)
    | bl b => exact k H (Same.refl H)
    | int i => exact k H (Same.refl H)
    | str z => exact k H (Same.refl H)
    | lst es => exact k H (Same.refl H)
    | tup ds =>
      obtain ⟨pa, us, rfl, hq, r⟩ := id hd
      have ul : us.length = ds.length := r.length
      refine ifN (by simp [isD]) ?_
      refine ⟨_, rfl, pa, us, rfl, .inr hq, .int (us.length : Int), nums [0, 2, 3, 4], rfl, .inr ⟨_, _, rfl, q_FACE_COUNTS H, reps_nums.mpr rfl⟩, (by rw [deps_nums]; decide), _, rfl, ?_⟩
      rw [ul]
      have cnt : (!(nums [0, 2, 3, 4]).any fun e => eqD e (.int (ds.length : Int))) = !cntB ds.length := by
        have : (nums [0, 2, 3, 4]).any (fun e => eqD e (.int (ds.length : Int))) = cntB ds.length := by
          simp only [nums, List.map_cons, List.map_nil, List.any_cons, List.any_nil, eqD, cntB]
          rw [Bool.eq_iff_iff]
          simp only [Bool.or_eq_true, beq_iff_eq, Bool.or_false]
          omega
        rw [this]
      by_cases hc : cntB ds.length = true
      rotate_left
      · have hc' : cntB ds.length = false := by simpa using hc
        refine ifP (by rw [if_pos rfl, cnt, hc']; rfl) ?_
        have e2 : fitsD xs (.tup ds) = false := by rw [fitsD_tup]; simp [hc']
        rw [e2] at k
        exact k H (Same.refl H)
      refine ifN (by rw [if_pos rfl, cnt, hc]; simp) ?_
      have hn4 : ds.length ≤ 4 := (cntB_le hc).1
      refine ⟨_, rfl, _, ds, rfl, .inr hd, ?_⟩
      refine ⟨_, rfl, pa, rfl, ⟨_, hq⟩, fun D hD => ?_⟩
      refine comp_tup0 (K := K) (a := pa) (xs := us) (fun i ys τ H1 => Same H H1 ∧ H1 D = some (.lst ys) ∧ ys = ((ds.take i).map fun e => V.bl (placeLev xs e (levI ds.length - 1))) ∧ ∃ o, τ = [o, some (.ref a), some (.int (levI ds.length))])
        ⟨Same.new hD, upd_same, rfl, none, rfl⟩ (fun i ys τ H1 _ ⟨s1, _⟩ => s1.seqT hq) ?_ ?_
      · rintro i x ys τ H1 hx ⟨s1, hD1, hys, o, rfl⟩
        have hi : i < us.length := (List.getElem?_eq_some_iff.mp hx).1
        obtain ⟨e, he, re⟩ := r.getV hx
        refine ⟨_, rfl, _, rfl, _, rfl, _, _, rfl, rfl, a, x, e, _, xs, rfl, Rep.same s1 hL, Rep.same s1 re, ?_⟩
        refine ⟨hD1, small (by rw [hys, List.length_map, List.length_take]; omega), s1.turn hD, upd_same, ?_, _, rfl⟩
        rw [List.take_succ, he, List.map_append, hys]
        rfl
      · rintro ys τ H1 ⟨s1, hD1, hys, _⟩
        rw [ul, List.take_length] at hys
        have hys2 : ys = (ds.map fun e => placeLev xs e (levI ds.length - 1)).map V.bl := by rw [hys, List.map_map]; rfl
        rw [hys2] at hD1
        refine ⟨D, _, rfl, .of hD1, _, rfl, ?_⟩
        have eall : (ds.map fun e => placeLev xs e (levI ds.length - 1)).all id = ds.all fun e => placeLev xs e (levI ds.length - 1) := by rw [List.all_map]; rfl
        by_cases ha : (ds.all fun e => placeLev xs e (levI ds.length - 1)) = true
        rotate_left
        · have ha' : (ds.all fun e => placeLev xs e (levI ds.length - 1)) = false := by simpa using ha
          refine ifP (by rw [eall, ha']; rfl) ?_
          have e2 : fitsD xs (.tup ds) = false := by rw [fitsD_tup]; rw [ha', hc]; rfl
          rw [e2] at k
          exact k H1 s1
        refine ifN (by rw [eall, ha]; simp) ?_
        have e2 : fitsD xs (.tup ds) = (decide (levI ds.length < 2) || agreeB xs (ds.map toI)) := by rw [fitsD_tup]; rw [ha, hc]; rfl
        rw [e2] at k
        refine ⟨_, rfl, _, _, rfl, rfl, _, rfl, ?_⟩
        refine ite2 (fun h1 => ?_) (fun h1 => ?_)
        · have h2 : (decide (levI ds.length < 2)) = true := h1
          rw [h2] at k
          exact k H1 s1
        · have h2 : (decide (levI ds.length < 2)) = false := by simpa using h1
          rw [h2] at k
          have hint := all_nums ha
          have tv : TI K H1 (.ref pa) (ds.map toI) := by
            have := Rep.same s1 hd
            rw [hint] at this
            exact this
          refine ⟨_, rfl, _, rfl, a, _, xs, ds.map toI, rfl, Rep.same s1 hL, tv, by simpa using hn4, ?_, k H1 s1⟩
          intro f hf
          rw [List.all_eq_true] at ha
          have hm : L2.D.int f ∈ ds := by
            rw [hint]
            exact List.mem_map.mpr ⟨f, hf, rfl⟩
          have := ha _ hm
          simp only [placeLev, Bool.and_eq_true, decide_eq_true_eq] at this
          obtain ⟨⟨f0, f1⟩, f2⟩ := this
          refine ⟨f0, f1, ?_⟩
          rw [List.length_map]
          rw [levI_eq, levI_eq] at f2
          have h3 : ¬ levI ds.length < 2 := by simpa using h2
          rw [levI_eq] at h3
          omega
abbrev s_first_misfit : Stmt := top 19
theorem sc_first_misfit : FnScope ["pieces", "place", "piece"] ["pieces"] (defScope s_first_misfit) := ⟨rfl, rfl, rfl, by decide +kernel, rfl, by decide +kernel, by decide +kernel⟩
theorem nd_first_misfit : (["pieces", "place", "piece"] : List Str).Nodup := by decide +kernel

theorem ok_first_misfit {f : Addr} {fd : FuncData} (F : Fun K "first_misfit" "first_misfit" s_first_misfit f fd) (T : Txt K mg) (h_fits : Has P w K mg base "fits" ["shape", "thing"] 4 (sp_fits K)) : FnOk P w K mg base CX0 5 f fd ["pieces"] (sp_first_misfit K) := by
  refine F.ok sc_first_misfit (fun vs H Q E h => ?_) (fun cdv A outer s H vs Q E hr h => ?_)
  · obtain ⟨v, xs, rfl, hL, hs, hx, k⟩ := h
    rfl
  · obtain ⟨v, xs, rfl, hL, hs, hx, k⟩ := h
    refine ⟨_, (pss_cons (ps_for PassesOwn.never rfl (pi_enum (K := K) (by rfl) T.n_enumerate (pa_cons (pv 0) pa_nil)) (kpg_tup (K := K) (n := 2) (by rfl) (pgs_cons (pg_name (i := 1) nd_first_misfit (by rfl) (by first | exact Or.inl rfl | exact Or.inr rfl)) (pgs_cons (pg_name (i := 2) nd_first_misfit (by rfl) (by first | exact Or.inl rfl | exact Or.inr rfl)) pgs_nil))) (pss_one (ps_if (pt_not (pt_val (pe_callH h_fits hr (by rfl) (pa_cons (pe_slice (ksl_list (K := K)) (pv 0) po_none (po_some (pv 1))) (pa_cons (pv 2) pa_nil))))) (pss_one (ps_ret (pv 1))) pss_nil)))
      (pss_one (ps_ret pe_non))), ?_⟩
    obtain ⟨a, us, rfl, hq, r⟩ := id hL
    have hl : us.length = xs.length := by have := r.length; simpa using this
    refine ⟨_, rfl, a, rfl, ⟨us, hq⟩, ?_⟩
    refine for_enum (K := K) (a := a) (xs := us) (fun i σ G => ∃ o1 o2, σ = [some (.ref a), o1, o2] ∧ Same H G)
      ⟨none, none, rfl, Same.refl H⟩ (fun i σ G _ ⟨_, _, _, s1⟩ => s1.seq hq) ?_ ?_
    · rintro i v σ G p hv ⟨o1, o2, rfl, s1⟩ hp
      have hi : i < xs.length := by have := (List.getElem?_eq_some_iff.mp hv).1; omega
      obtain ⟨dv, hdv, rv⟩ := r.getV hv
      have edv : dv = tI xs[i] := by
        rw [List.getElem?_map, List.getElem?_eq_getElem hi] at hdv
        simpa using hdv.symm
      subst edv
      have sp : Same G (upd G p (.tup [.int i, v])) := Same.new hp
      refine ⟨p, _, rfl, .of upd_same, rfl, _, _, rfl, _, _, rfl, rfl, ?_⟩
      generalize upd G p (.tup [.int i, v]) = G1 at sp
      have s2 := s1.trans sp
      refine ⟨_, rfl, _, rfl, _, rfl, a, us, rfl, s2.seq hq, fun c hc => ?_⟩
      have s3 : Same G1 (upd G1 c (.lst (cutV us none (some (i : Int))))) := Same.new hc
      have ec : upd G1 c (.lst (cutV us none (some (i : Int)))) c = some (.lst (cutV us none (some (i : Int)))) := upd_same
      generalize upd G1 c (.lst (cutV us none (some (i : Int)))) = G2 at s3 ec
      have s4 := s2.trans s3
      have hcut : LT K G2 (.ref c) (xs.take i) := by
        refine ⟨c, _, rfl, .of ec, ?_⟩
        rw [cut_take, List.map_take]
        exact (Reps.same s4 r).take i
      refine ⟨_, rfl, c, v, tI xs[i], xs.take i, rfl, hcut, Rep.same s4 rv, fun G3 s5 => ⟨_, rfl, ?_⟩⟩
      rw [fitsD_of (hs i xs[i] (List.getElem?_eq_getElem hi))]
      refine ifN (by decide) ?_
      exact ⟨_, _, rfl, s4.trans s5⟩
    · rintro σ G ⟨o1, o2, rfl, s1⟩
      exact k G s1
abbrev s_shape_of : Stmt := top 17
theorem sc_shape_of : FnScope ["thing", "misfit"] ["thing"] (defScope s_shape_of) := ⟨rfl, rfl, rfl, by decide +kernel, rfl, by decide +kernel, by decide +kernel⟩
theorem nd_shape_of : (["thing", "misfit"] : List Str).Nodup := by decide +kernel

theorem ok_shape_of {f : Addr} {fd : FuncData} (F : Fun K "shape_of" "shape_of" s_shape_of f fd) (T : Txt K mg) (h_first_misfit : Has P w K mg base "first_misfit" ["pieces"] 5 (sp_first_misfit K)) (h_is_list_of_few : Has P w K mg base "is_list_of_few" ["thing"] 1 (sp_is_list_of_few K)) : FnOk P w K mg base CX0 6 f fd ["thing"] (sp_shape_of K) := by
  refine F.ok sc_shape_of (fun vs H Q E h => ?_) (fun cdv A outer s H vs Q E hr h => ?_)
  · obtain ⟨v, xs, rfl, hL, hs, hx, k⟩ := h
    rfl
  · obtain ⟨v, xs, rfl, hL, hs, hx, k⟩ := h
    obtain ⟨t_MOST_PIECES, c_MOST_PIECES⟩ := T.x_MOST_PIECES
    refine ⟨_, (pss_cons (ps_if (pt_not (pt_val (pe_callH h_is_list_of_few hr (by rfl) (pa_cons (pv 0) pa_nil)))) (pss_one ps_never) pss_nil)
      (pss_cons (ps_set (i := 1) nd_shape_of (by rfl) (by first | exact Or.inl rfl | exact Or.inr rfl) (pe_callH h_first_misfit hr (by rfl) (pa_cons (pv 0) pa_nil)))
      (pss_cons (ps_if (pt_cmpR op_notN (pv 1) pe_non (nomark _)) (pss_one ps_never) pss_nil)
      (pss_one (ps_ret (pe_callTy (kcall_list_of (K := K)) (by rfl) T.n_list boot_listT (pa_cons (pv 0) pa_nil))))))), ?_⟩
    obtain ⟨a, us, rfl, hq, r⟩ := id hL
    refine ⟨_, rfl, _, xs, rfl, hL, hx, _, rfl, ?_⟩
    refine ifN (by decide) ?_
    refine ⟨_, rfl, _, xs, rfl, hL, hs, hx, fun H1 s1 => ?_⟩
    refine ⟨_, rfl, rfl, _, rfl, ?_⟩
    refine ifN (by decide) ?_
    refine ⟨_, rfl, a, us, rfl, .inl (s1.seq hq), fun l hl => ?_⟩
    exact k l us _ (s1.free hl) (s1.trans (Same.new hl)) upd_same (Reps.same (s1.trans (Same.new hl)) r)
abbrev s_read : Stmt := top 22
theorem sc_read : FnScope ["thing", "rows", "pieces"] ["thing"] (defScope s_read) := ⟨rfl, rfl, rfl, by decide +kernel, rfl, by decide +kernel, by decide +kernel⟩
theorem nd_read : (["thing", "rows", "pieces"] : List Str).Nodup := by decide +kernel

theorem ok_read {f : Addr} {fd : FuncData} (F : Fun K "read" "read" s_read f fd) (T : Txt K mg) (h_rows_of : Has P w K mg base "rows_of" ["thing"] 2 (sp_rows_of K)) (h_pieces_of : Has P w K mg base "pieces_of" ["rows"] 2 (sp_pieces_of K)) (h_shape_of : Has P w K mg base "shape_of" ["thing"] 6 (sp_shape_of K)) : FnOk P w K mg base CX0 7 f fd ["thing"] (sp_read K) := by
  refine F.ok sc_read (fun vs H Q E h => ?_) (fun cdv A outer s H vs Q E hr h => ?_)
  · obtain ⟨xs, names, rfl, hs, hx, hnl, hnd, hn, k⟩ := h
    rfl
  · obtain ⟨xs, names, rfl, hs, hx, hnl, hnd, hn, k⟩ := h
    refine ⟨_, (pss_cons (ps_set (i := 1) nd_read (by rfl) (by first | exact Or.inl rfl | exact Or.inr rfl) (pe_callH h_rows_of hr (by rfl) (pa_cons (pv 0) pa_nil)))
      (pss_cons (ps_set (i := 2) nd_read (by rfl) (by first | exact Or.inl rfl | exact Or.inr rfl) (pe_callH h_pieces_of hr (by rfl) (pa_cons (pv 1) pa_nil)))
      (pss_one (ps_ret (pe_tup (pa_cons (pe_callH h_shape_of hr (by rfl) (pa_cons (pv 2) pa_nil)) (pa_cons (pe_comp (N' := ["row"]) (cap := [none]) (by rfl) (by kernel_rfl) (kpi_list (K := K) (pv 1)) (fun _ _ _ _ => (pg_name (i := 0) ndc_1 (by rfl) (by first | exact Or.inl rfl | exact Or.inr rfl))) (fun _ _ _ _ => pts_nil) (fun _ _ _ _ => (pe_ix (kix_list (K := K)) (pv 0) pe_int (fun _ _ => rfl)))) pa_nil))))))), ?_⟩
    refine tSeq_cut (fun σ' H' => ∃ v : V, σ' = [some (.str (textT xs names)), some v, none] ∧ Same H H' ∧ Rep K H' v (dRows (rowsW xs names))) ?_ fun key => ?_
    rotate_left
    · exact ⟨_, rfl, xs, names, rfl, hs, hx, hnl, hn, fun v H' s1 hR => key _ _ ⟨v, rfl, s1, hR⟩⟩
    rintro _ H1 ⟨v, rfl, s1, hR⟩
    refine tSeq_cut (fun σ' H' => ∃ u : V, σ' = [some (.str (textT xs names)), some v, some u] ∧ Same H1 H' ∧ LT K H' u xs) ?_ fun key => ?_
    rotate_left
    · exact ⟨_, rfl, v, xs, names, rfl, hR, hs, hx, hnl, hnd, fun u H' s2 hL => key _ _ ⟨u, rfl, s2, hL⟩⟩
    rintro _ H2 ⟨u, rfl, s2, hL⟩
    have s02 := s1.trans s2
    refine ⟨_, rfl, u, xs, rfl, hL, hs, hx, fun l1 us H3 hl1 s3 h3 r3 => ?_⟩
    obtain ⟨a, ws, rfl, hq, hul, hrow⟩ := rows_sq (Rep.same (s2.trans s3) hR)
    have hrl : (rowsW xs names).length = xs.length := by simp [rowsW]
    refine ⟨_, rfl, a, rfl, ⟨ws, hq⟩, fun D hD => ?_⟩
    refine comp_list0 (K := K) (a := a) (xs := ws) (fun i ys τ G => Same H3 G ∧ G D = some (.lst ys) ∧ ys = (names.take i).map V.str ∧ ∃ o, τ = [o])
      ⟨Same.new hD, upd_same, rfl, none, rfl⟩ (fun i ys τ G _ ⟨s4, _⟩ => s4.seq hq) ?_ ?_
    · rintro i x ys τ G hx ⟨s4, hD4, rfl, o, rfl⟩
      obtain ⟨b, r, rfl, hr, hb⟩ := hrow i x hx
      obtain ⟨hi, rfl⟩ := rowsW_at hr
      have hat : atI ((rowW names i (xs.getD i [])).map V.str) 0 = some (.str (nmAt names i)) := atI_nat (j := 0) rfl
      refine ⟨_, rfl, b, _, _, _, rfl, rfl, s4.seq hb, hat, hD4, small (by simp; omega), s4.turn hD, upd_same, ?_, _, rfl⟩
      have hi2 : i < names.length := by omega
      rw [List.take_add_one, List.getElem?_eq_getElem hi2, List.map_append]
      unfold nmAt
      rw [List.getD_eq_getElem?_getD, List.getElem?_eq_getElem hi2]
      rfl
    · rintro ys τ G ⟨s4, hD4, rfl, _⟩
      rw [show ws.length = names.length by omega, List.take_length] at hD4
      refine ⟨smallE (by simp), fun t ht => ?_⟩
      have nl : l1 ≠ D := fun z => by rw [← z, h3] at hD; cases hD
      have h4 : G l1 = some (.lst us) := s4 _ _ h3
      have s5 : Same G (upd G t (.tup [.ref l1, .ref D])) := Same.new ht
      have fD : H D = none := s02.free (s3.free hD)
      exact k t l1 D us _ (s02.free hl1) fD nl (fun z => by rw [z, h4] at ht; cases ht) (fun z => by rw [z, hD4] at ht; cases ht) (((s02.trans s3).trans s4).trans s5) upd_same (s5 _ _ h4) (Reps.same (s4.trans s5) r3) (s5 _ _ hD4)
abbrev s_law : Stmt := top 38
theorem sc_law : FnScope ["_law_script", "_law_shape", "_law_names", "_law_copy", "_law_others", "_law_due", "_law_text", "_law_turn", "_law_found"] ["_law_script"] (defScope s_law) := ⟨rfl, rfl, rfl, by decide +kernel, rfl, by decide +kernel, by decide +kernel⟩
theorem nd_law : (["_law_script", "_law_shape", "_law_names", "_law_copy", "_law_others", "_law_due", "_law_text", "_law_turn", "_law_found"] : List Str).Nodup := by decide +kernel

theorem ok_law {f : Addr} {fd : FuncData} (F : Fun K "law" "law" s_law f fd) (T : Txt K mg) (h_L_shape_by : Has P w K mg base "_law_shape_by" ["_law_kind", "_law_cells", "_law_most"] 3 (sp_L_shape_by K)) (h_L_names_by : Has P w K mg base "_law_names_by" ["_law_cell", "_law_many"] 2 (sp_L_names_by K)) (h_L_text_by : Has P w K mg base "_law_text_by" ["_law_shape", "_law_names"] 1 (sp_L_text_by K)) (h_written : Has P w K mg base "written" ["shape", "names"] 2 (sp_written K)) (h_L_cell_at : Has P w K mg base "_law_cell_at" ["_law_script", "_law_k"] 1 (sp_L_cell_at K)) (h_read : Has P w K mg base "read" ["thing"] 7 (sp_read K)) : FnOk P w K mg base CX0 8 f fd ["_law_script"] (sp_law K) := by
  refine F.ok sc_law (fun vs H Q E h => ?_) (fun cdv A outer s H vs Q E hr h => ?_)
  · obtain ⟨a, ns, rfl, hS, hl, k⟩ := h
    rfl
  · obtain ⟨a, ns, rfl, hS, hl, k⟩ := h
    have hu8 : (A.deeper (PyProof.Rows.envOfC "law" (defScope s_law) s.heap.objs.size f cdv)).units + 8 < cLine := by have := hr.units; omega
    refine ⟨_, (pss_cons (ps_set (i := 1) nd_law (by rfl) (by first | exact Or.inl rfl | exact Or.inr rfl) (pe_callH h_L_shape_by hr (by rfl) (pa_cons (pe_callH h_L_cell_at hr (by rfl) (pa_cons (pv 0) (pa_cons pe_int pa_nil))) (pa_cons (pe_slice (ksl_list (K := K)) (pv 0) (po_some pe_int) (po_some pe_int)) (pa_cons pe_int pa_nil)))))
      (pss_cons (ps_set (i := 2) nd_law (by rfl) (by first | exact Or.inl rfl | exact Or.inr rfl) (pe_callH h_L_names_by hr (by rfl) (pa_cons (pe_callH h_L_cell_at hr (by rfl) (pa_cons (pv 0) (pa_cons pe_int pa_nil))) (pa_cons (pe_callB (kcall_len_seq (K := K)) (by rfl) T.n_len PySem.boot_len (pa_cons (pv 1) pa_nil)) pa_nil))))
      (pss_cons (ps_set (i := 3) nd_law (by rfl) (by first | exact Or.inl rfl | exact Or.inr rfl) (pe_callTy (kcall_list_of (K := K)) (by rfl) T.n_list boot_listT (pa_cons (pv 1) pa_nil)))
      (pss_cons (ps_set (i := 4) nd_law (by rfl) (by first | exact Or.inl rfl | exact Or.inr rfl) (pe_callTy (kcall_list_of (K := K)) (by rfl) T.n_list boot_listT (pa_cons (pv 2) pa_nil)))
      (pss_cons (ps_set (i := 5) nd_law (by rfl) (by first | exact Or.inl rfl | exact Or.inr rfl) (pe_callH h_L_text_by hr (by rfl) (pa_cons (pv 1) (pa_cons (pv 2) pa_nil))))
      (pss_cons (ps_set (i := 6) nd_law (by rfl) (by first | exact Or.inl rfl | exact Or.inr rfl) (pe_callH h_written hr (by rfl) (pa_cons (pv 3) (pa_cons (pv 4) pa_nil))))
      (pss_cons (ps_if (PW.pt (pw_or (pt_not (pt_val (pe_callB (kcall_isinst (K := K)) (by rfl) T.n_isinstance boot_isinstanceB (pa_cons (pv 6) (pa_cons (pe_bltn (v := .ty "str") rfl T.n_str boot_strT rfl) pa_nil))))) (pw_or1 (pt_cmpR op_ne (pv 6) (pv 5) (nomark _))))) (pss_one (ps_ret pe_bl)) pss_nil)
      (pss_cons (ps_for PassesOwn.never rfl (pi_range1 (by rfl) T.n_range (pa_cons pe_int pa_nil)) (pg_name (i := 7) nd_law (by rfl) (by first | exact Or.inl rfl | exact Or.inr rfl)) (pss_cons (ps_set (i := 8) nd_law (by rfl) (by first | exact Or.inl rfl | exact Or.inr rfl) (pe_callH h_read hr (by rfl) (pa_cons (pv 5) pa_nil)))
      (pss_cons (ps_if (PW.pt (pw_or (pt_not (pt_val (pe_callB (kcall_isinst (K := K)) (by rfl) T.n_isinstance boot_isinstanceB (pa_cons (pv 8) (pa_cons (pe_bltn (v := .ty "tuple") rfl T.n_tuple boot_tupleT rfl) pa_nil))))) (pw_or1 (pt_cmpR op_ne (pe_callB (kcall_len_seq (K := K)) (by rfl) T.n_len PySem.boot_len (pa_cons (pv 8) pa_nil)) pe_int (nomark _))))) (pss_one (ps_ret pe_bl)) pss_nil)
      (pss_cons (ps_if (PW.pt (pw_or (pt_cmpR (kop_neD (K := K) hu8) (pe_ix (kix_tup (K := K)) (pv 8) pe_int (fun _ _ => rfl)) (pv 1) (nomark _)) (pw_or1 (pt_cmpR (kop_neD (K := K) hu8) (pe_ix (kix_tup (K := K)) (pv 8) pe_int (fun _ _ => rfl)) (pv 2) (nomark _))))) (pss_one (ps_ret pe_bl)) pss_nil)
      (pss_cons (ps_expr (kpe_bm (K := K) PySem.F.plainAttrs_list PySem.F.slot_list_append PySem.F.type_list_append mt_append (pe_ix (kix_tup (K := K)) (pv 8) pe_int (fun _ _ => rfl)) (pa_cons (pe_tup pa_nil) pa_nil)))
      (pss_one (ps_expr (kpe_bm (K := K) PySem.F.plainAttrs_list PySem.F.slot_list_append PySem.F.type_list_append mt_append (pe_ix (kix_tup (K := K)) (pv 8) pe_int (fun _ _ => rfl)) (pa_cons pe_str pa_nil)))))))))
      (pss_one (ps_ret (pe_and (pe_cmpR (kop_eqD (K := K) hu8) (pv 3) (pv 1) (nomark _)) (pe_and (pe_cmpR (kop_eqD (K := K) hu8) (pv 4) (pv 2) (nomark _)) (pe_one (pe_cmpR op_eq (pe_callH h_written hr (by rfl) (pa_cons (pv 3) (pa_cons (pv 4) pa_nil))) (pv 5) (nomark _))))))))))))))), ?_⟩
    refine tSeq_cut (fun σ' H' => ∃ (p : Addr) (us : List V) (xs : List (List Int)), σ' = [some (.ref a), some (.ref p), none, none, none, none, none, none, none] ∧ Same H H' ∧ H' p = some (.lst us) ∧ Reps K H' us (xs.map tI) ∧ IsShape xs ∧ xs.length ≤ 40) ?_ fun key => ?_
    rotate_left
    · refine ⟨_, rfl, a, ns, 0, rfl, hS, by decide, hl, _, rfl, _, rfl, _, rfl, a, _, rfl, hS, fun C hC => ?_⟩
      obtain ⟨cs, ec, hcl⟩ := cutInts ns (some 2) (some 52)
      have sC : Same H (upd H C (.lst (cutV (ns.map V.int) (some 2) (some 52)))) := Same.new hC
      refine ⟨C, cs, _, 40, rfl, .of (by rw [upd_same, ec]), by omega, by decide, by decide, fun p us H' xs hp s' hp' r' hsh hxl => ?_⟩
      exact key _ _ ⟨p, us, xs, rfl, sC.trans s', hp', r', hsh, by omega⟩
    rintro _ H1 ⟨p, us, xs, rfl, s1, h1p, r1, hs, hx⟩
    have hul : us.length = xs.length := by have := r1.length; simpa using this
    refine tSeq_cut (fun σ' H' => ∃ (l : Addr) (names : List Str), σ' = [some (.ref a), some (.ref p), some (.ref l), none, none, none, none, none, none] ∧ Same H1 H' ∧ H' l = some (.lst (names.map V.str)) ∧ names.length = xs.length ∧ names.Nodup ∧ ∀ x ∈ names, NameOk x) ?_ fun key => ?_
    rotate_left
    · exact ⟨_, rfl, a, ns, 1, rfl, s1.seq hS, by decide, hl, _, rfl, p, us, rfl, .inl (.of h1p), _, us.length, rfl, by omega, fun l names H' hl0 s2 h2 hnl hnd hn => key _ _ ⟨l, names, rfl, s2, h2, by omega, hnd, hn⟩⟩
    rintro _ H2 ⟨l, names, rfl, s2, h2l, hnl, hnd, hn⟩
    have h2p : H2 p = some (.lst us) := s2 _ _ h1p
    have r2 : Reps K H2 us (xs.map tI) := Reps.same s2 r1
    refine tSeq_cut (fun σ' H' => ∃ c : Addr, σ' = [some (.ref a), some (.ref p), some (.ref l), some (.ref c), none, none, none, none, none] ∧ Same H2 H' ∧ H' c = some (.lst us)) ?_ fun key => ?_
    rotate_left
    · exact ⟨_, rfl, p, us, rfl, .inl (.of h2p), fun c hc => key _ _ ⟨c, rfl, Same.new hc, upd_same⟩⟩
    rintro _ H3 ⟨c, rfl, s3, h3c⟩
    refine tSeq_cut (fun σ' H' => ∃ e : Addr, σ' = [some (.ref a), some (.ref p), some (.ref l), some (.ref c), some (.ref e), none, none, none, none] ∧ Same H3 H' ∧ H' e = some (.lst (names.map V.str))) ?_ fun key => ?_
    rotate_left
    · exact ⟨_, rfl, l, _, rfl, .inl (.of (s3 _ _ h2l)), fun e he => key _ _ ⟨e, rfl, Same.new he, upd_same⟩⟩
    rintro _ H4 ⟨e, rfl, s4, h4e⟩
    have s24 := s3.trans s4
    have fp : ∀ {G : Hp}, Same H4 G → LT K G (.ref p) xs := fun {G} s => ⟨p, us, rfl, .of (s _ _ (s24 _ _ h2p)), Reps.same (s24.trans s) r2⟩
    have fc : ∀ {G : Hp}, Same H4 G → LT K G (.ref c) xs := fun {G} s => ⟨c, us, rfl, .of (s _ _ (s4 _ _ h3c)), Reps.same (s24.trans s) r2⟩
    have fl : ∀ {G : Hp}, Same H4 G → SqL K G l (names.map V.str) := fun {G} s => .of (s _ _ (s24 _ _ h2l))
    have fe : ∀ {G : Hp}, Same H4 G → SqL K G e (names.map V.str) := fun {G} s => .of (s _ _ h4e)
    have fl2 : ∀ {G : Hp}, Same H4 G → Rep K G (.ref l) (.lst (names.map L2.D.str)) := fun {G} s => ⟨l, _, rfl, fl s, reps_strs.mpr rfl⟩
    have fe2 : ∀ {G : Hp}, Same H4 G → Rep K G (.ref e) (.lst (names.map L2.D.str)) := fun {G} s => ⟨e, _, rfl, fe s, reps_strs.mpr rfl⟩
    have s44 : Same H4 H4 := Same.refl H4
    refine tSeq_cut (fun σ' H' => σ' = [some (.ref a), some (.ref p), some (.ref l), some (.ref c), some (.ref e), some (.str (textT xs names)), none, none, none] ∧ Same H4 H') ?_ fun key => ?_
    rotate_left
    · exact ⟨_, rfl, _, rfl, .ref p, l, xs, names, rfl, fp s44, fl s44, hs, hx, hnl, hn, fun H' s => key _ _ ⟨rfl, s⟩⟩
    rintro _ H5 ⟨rfl, s5⟩
    refine tSeq_cut (fun σ' H' => σ' = [some (.ref a), some (.ref p), some (.ref l), some (.ref c), some (.ref e), some (.str (textT xs names)), some (.str (textT xs names)), none, none] ∧ Same H4 H') ?_ fun key => ?_
    rotate_left
    · exact ⟨_, rfl, _, rfl, .ref c, e, xs, names, rfl, fc s5, fe s5, hs, hx, hnl, hn, fun H' s => key _ _ ⟨rfl, s5.trans s⟩⟩
    rintro _ H6 ⟨rfl, s6⟩
    refine tSeq_cut (fun σ' H' => σ' = [some (.ref a), some (.ref p), some (.ref l), some (.ref c), some (.ref e), some (.str (textT xs names)), some (.str (textT xs names)), none, none] ∧ H6 = H') ?_ fun key => ?_
    rotate_left
    · refine ⟨_, rfl, _, "str", .str _, rfl, .inr (.inr (.inl rfl)), rfl, _, rfl, ?_⟩
      refine ifN (by simp [isD]) ?_
      refine ⟨_, rfl, _, rfl, rfl, _, rfl, ?_⟩
      refine ifN (by simp) ?_
      exact key _ _ ⟨rfl, rfl⟩
    rintro _ _ ⟨rfl, rfl⟩
    refine tSeq_cut (fun σ' H' => ∃ o7 o8, σ' = [some (.ref a), some (.ref p), some (.ref l), some (.ref c), some (.ref e), some (.str (textT xs names)), some (.str (textT xs names)), o7, o8] ∧ Same H4 H') ?_ fun key => ?_
    rotate_left
    · refine ⟨_, rfl, by decide, by decide, ?_⟩
      refine for_range (fun i σ G => ∃ o7 o8, σ = [some (.ref a), some (.ref p), some (.ref l), some (.ref c), some (.ref e), some (.str (textT xs names)), some (.str (textT xs names)), o7, o8] ∧ Same H4 G) ⟨none, none, rfl, s6⟩ ?_ ?_
      · rintro i σ G hi ⟨o7, o8, rfl, s7⟩
        refine tSeq_cut (fun σ' H' => ∃ (t l1 l2 : Addr) (ws : List V), σ' = [some (.ref a), some (.ref p), some (.ref l), some (.ref c), some (.ref e), some (.str (textT xs names)), some (.str (textT xs names)), some (.int (0 + (i : Int))), some (.ref t)] ∧ G l1 = none ∧ G l2 = none ∧ l1 ≠ l2 ∧ t ≠ l1 ∧ t ≠ l2 ∧ Same G H' ∧ H' t = some (.tup [.ref l1, .ref l2]) ∧ H' l1 = some (.lst ws) ∧ Reps K H' ws (xs.map tI) ∧ H' l2 = some (.lst (names.map V.str))) ?_ fun key => ?_
        rotate_left
        · exact ⟨_, rfl, xs, names, rfl, hs, hx, hnl, hnd, hn, fun t l1 l2 ws H' f1 f2 n12 n1 n2 s ht h1 r1 h2 => key _ _ ⟨t, l1, l2, ws, rfl, f1, f2, n12, n1, n2, s, ht, h1, r1, h2⟩⟩
        rintro _ G1 ⟨t, l1, l2, ws, rfl, f1, f2, n12, n1, n2, s8, ht, h1, rw1, h2⟩
        have s48 := s7.trans s8
        have rl1 : Rep K G1 (.ref l1) (.lst (xs.map tI)) := ⟨l1, ws, rfl, .of h1, rw1⟩
        have rl2 : Rep K G1 (.ref l2) (.lst (names.map L2.D.str)) := ⟨l2, _, rfl, .of h2, reps_strs.mpr rfl⟩
        refine tSeq_cut (fun σ' H' => σ' = [some (.ref a), some (.ref p), some (.ref l), some (.ref c), some (.ref e), some (.str (textT xs names)), some (.str (textT xs names)), some (.int (0 + (i : Int))), some (.ref t)] ∧ G1 = H') ?_ fun key => ?_
        rotate_left
        · refine ⟨_, rfl, .ref t, "tuple", .tup [.lst (xs.map tI), .lst (names.map L2.D.str)], rfl, .inr (.inr (.inr (.inl rfl))), ⟨t, _, rfl, .of ht, _, _, rfl, rl1, _, _, rfl, rl2, rfl⟩, _, rfl, ?_⟩
          refine ifN (by simp [isD]) ?_
          refine ⟨_, rfl, t, _, rfl, .inr (.of ht), rfl, _, rfl, ?_⟩
          refine ifN (by simp) ?_
          exact key _ _ ⟨rfl, rfl⟩
        rintro _ _ ⟨rfl, rfl⟩
        refine tSeq_cut (fun σ' H' => σ' = [some (.ref a), some (.ref p), some (.ref l), some (.ref c), some (.ref e), some (.str (textT xs names)), some (.str (textT xs names)), some (.int (0 + (i : Int))), some (.ref t)] ∧ G1 = H') ?_ fun key => ?_
        rotate_left
        · refine ⟨_, rfl, t, _, _, .ref l1, rfl, rfl, .of ht, atI_nat (j := 0) rfl, _, rfl, _, _, rl1, fp s48, by have := dep_sh xs; omega, _, rfl, ?_⟩
          rw [eqD_refl]
          refine ifN (by simp) ?_
          refine ⟨_, rfl, t, _, _, .ref l2, rfl, rfl, .of ht, atI_nat (j := 1) rfl, _, rfl, _, _, rl2, fl2 s48, by have := dep_nm names; omega, _, rfl, ?_⟩
          rw [eqD_refl]
          refine ifN (by simp) ?_
          exact key _ _ ⟨rfl, rfl⟩
        rintro _ _ ⟨rfl, rfl⟩
        have hwl : ws.length = xs.length := by have := rw1.length; simpa using this
        refine tSeq_cut (fun σ' H' => σ' = [some (.ref a), some (.ref p), some (.ref l), some (.ref c), some (.ref e), some (.str (textT xs names)), some (.str (textT xs names)), some (.int (0 + (i : Int))), some (.ref t)] ∧ Same G H' ∧ H' t = some (.tup [.ref l1, .ref l2]) ∧ H' l2 = some (.lst (names.map V.str))) ?_ fun key => ?_
        rotate_left
        · refine ⟨_, rfl, t, _, _, .ref l1, rfl, rfl, .of ht, atI_nat (j := 0) rfl, .inl ⟨rfl, _, .of h1⟩, Nat.zero_le _, fun z hz => ?_⟩
          have sz : Same G1 (upd G1 z (.tup [])) := Same.new hz
          refine ⟨l1, ws, _, rfl, rfl, sz _ _ h1, small (by omega), key _ _ ⟨rfl, (s8.trans sz).turn f1, ?_, ?_⟩⟩
          · rw [upd_ne n1]; exact sz _ _ ht
          · rw [upd_ne n12.symm]; exact sz _ _ h2
        rintro _ G2 ⟨rfl, s9, ht2, h22⟩
        refine ⟨_, rfl, t, _, _, .ref l2, rfl, rfl, .of ht2, atI_nat (j := 1) rfl, .inl ⟨rfl, _, .of h22⟩, l2, _, _, rfl, rfl, h22, small (by simp; omega), _, _, rfl, s7.trans (s9.turn f2)⟩
      · rintro σ G ⟨o7, o8, rfl, s7⟩
        exact key _ _ ⟨o7, o8, rfl, s7⟩
    rintro _ H8 ⟨o7, o8, rfl, s8⟩
    refine ⟨_, rfl, _, rfl, _, _, fc s8, fp s8, by have := dep_sh xs; omega, _, rfl, ?_⟩
    rw [eqD_refl]
    refine ifP rfl ?_
    refine ⟨_, rfl, _, rfl, _, _, fe2 s8, fl2 s8, by have := dep_nm names; omega, _, rfl, ?_⟩
    rw [eqD_refl]
    refine ifP rfl ?_
    refine ⟨_, rfl, _, rfl, .ref c, e, xs, names, rfl, fc s8, fe s8, hs, hx, hnl, hn, fun H' s => ⟨_, rfl, rfl, ?_⟩⟩
    rw [decide_eq_true rfl]
    exact k _
end
end Hb
namespace Hb
open PySem L2
theorem elim1 {α : Type} {P : List α → Prop} (h : ∀ a0, P [a0]) (us : List α) (hl : us.length = 1) : P us := by
  cases us with
  | nil => exact nomatch hl
  | cons a0 u0 =>
    cases u0 with
    | nil => exact h a0
    | cons _ _ => simp at hl
theorem elim2 {α : Type} {P : List α → Prop} (h : ∀ a0 a1, P [a0, a1]) (us : List α) (hl : us.length = 2) : P us := by
  cases us with
  | nil => exact nomatch hl
  | cons a0 u0 =>
    cases u0 with
    | nil => exact nomatch hl
    | cons a1 u1 =>
      cases u1 with
      | nil => exact h a0 a1
      | cons _ _ => simp at hl
theorem elim3 {α : Type} {P : List α → Prop} (h : ∀ a0 a1 a2, P [a0, a1, a2]) (us : List α) (hl : us.length = 3) : P us := by
  cases us with
  | nil => exact nomatch hl
  | cons a0 u0 =>
    cases u0 with
    | nil => exact nomatch hl
    | cons a1 u1 =>
      cases u1 with
      | nil => exact nomatch hl
      | cons a2 u2 =>
        cases u2 with
        | nil => exact h a0 a1 a2
        | cons _ _ => simp at hl
set_option maxHeartbeats 4000000 in
theorem all_mk {l : PySem.W.OpenLaw} {w : World} {K : PySem.W.Frag} {h : Heap} {mg : Str → Option Value} {fa : Addr} {f_is_whole : Addr} {od_is_whole an_is_whole : Option Addr} {sl_is_whole : Array (Option Value)} {oc_is_whole kV_is_whole dc_is_whole pm_is_whole cd_is_whole ct_is_whole : Value}
    {f_level_of : Addr} {od_level_of an_level_of : Option Addr} {sl_level_of : Array (Option Value)} {oc_level_of kV_level_of dc_level_of pm_level_of cd_level_of ct_level_of : Value}
    {f_faces_agree : Addr} {od_faces_agree an_faces_agree : Option Addr} {sl_faces_agree : Array (Option Value)} {oc_faces_agree kV_faces_agree dc_faces_agree pm_faces_agree cd_faces_agree ct_faces_agree : Value}
    {f_is_list_of_few : Addr} {od_is_list_of_few an_is_list_of_few : Option Addr} {sl_is_list_of_few : Array (Option Value)} {oc_is_list_of_few kV_is_list_of_few dc_is_list_of_few pm_is_list_of_few cd_is_list_of_few ct_is_list_of_few : Value}
    {f_row_text : Addr} {od_row_text an_row_text : Option Addr} {sl_row_text : Array (Option Value)} {oc_row_text kV_row_text dc_row_text pm_row_text cd_row_text ct_row_text : Value}
    {f_is_name : Addr} {od_is_name an_is_name : Option Addr} {sl_is_name : Array (Option Value)} {oc_is_name kV_is_name dc_is_name pm_is_name cd_is_name ct_is_name : Value}
    {f_spot_of : Addr} {od_spot_of an_spot_of : Option Addr} {sl_spot_of : Array (Option Value)} {oc_spot_of kV_spot_of dc_spot_of pm_spot_of cd_spot_of ct_spot_of : Value}
    {f_L_name_by : Addr} {od_L_name_by an_L_name_by : Option Addr} {sl_L_name_by : Array (Option Value)} {oc_L_name_by kV_L_name_by dc_L_name_by pm_L_name_by cd_L_name_by ct_L_name_by : Value}
    {f_L_text_by : Addr} {od_L_text_by an_L_text_by : Option Addr} {sl_L_text_by : Array (Option Value)} {oc_L_text_by kV_L_text_by dc_L_text_by pm_L_text_by cd_L_text_by ct_L_text_by : Value}
    {f_L_cell_at : Addr} {od_L_cell_at an_L_cell_at : Option Addr} {sl_L_cell_at : Array (Option Value)} {oc_L_cell_at kV_L_cell_at dc_L_cell_at pm_L_cell_at cd_L_cell_at ct_L_cell_at : Value}
    {f_L_faces_by : Addr} {od_L_faces_by an_L_faces_by : Option Addr} {sl_L_faces_by : Array (Option Value)} {oc_L_faces_by kV_L_faces_by dc_L_faces_by pm_L_faces_by cd_L_faces_by ct_L_faces_by : Value}
    {f_L_word_by : Addr} {od_L_word_by an_L_word_by : Option Addr} {sl_L_word_by : Array (Option Value)} {oc_L_word_by kV_L_word_by dc_L_word_by pm_L_word_by cd_L_word_by ct_L_word_by : Value}
    {f_is_whole_below : Addr} {od_is_whole_below an_is_whole_below : Option Addr} {sl_is_whole_below : Array (Option Value)} {oc_is_whole_below kV_is_whole_below dc_is_whole_below pm_is_whole_below cd_is_whole_below ct_is_whole_below : Value}
    {f_written : Addr} {od_written an_written : Option Addr} {sl_written : Array (Option Value)} {oc_written kV_written dc_written pm_written cd_written ct_written : Value}
    {f_rows_of : Addr} {od_rows_of an_rows_of : Option Addr} {sl_rows_of : Array (Option Value)} {oc_rows_of kV_rows_of dc_rows_of pm_rows_of cd_rows_of ct_rows_of : Value}
    {f_pieces_of : Addr} {od_pieces_of an_pieces_of : Option Addr} {sl_pieces_of : Array (Option Value)} {oc_pieces_of kV_pieces_of dc_pieces_of pm_pieces_of cd_pieces_of ct_pieces_of : Value}
    {f_L_names_by : Addr} {od_L_names_by an_L_names_by : Option Addr} {sl_L_names_by : Array (Option Value)} {oc_L_names_by kV_L_names_by dc_L_names_by pm_L_names_by cd_L_names_by ct_L_names_by : Value}
    {f_L_words_with : Addr} {od_L_words_with an_L_words_with : Option Addr} {sl_L_words_with : Array (Option Value)} {oc_L_words_with kV_L_words_with dc_L_words_with pm_L_words_with cd_L_words_with ct_L_words_with : Value}
    {f_is_place_of_level : Addr} {od_is_place_of_level an_is_place_of_level : Option Addr} {sl_is_place_of_level : Array (Option Value)} {oc_is_place_of_level kV_is_place_of_level dc_is_place_of_level pm_is_place_of_level cd_is_place_of_level ct_is_place_of_level : Value}
    {f_L_shape_by : Addr} {od_L_shape_by an_L_shape_by : Option Addr} {sl_L_shape_by : Array (Option Value)} {oc_L_shape_by kV_L_shape_by dc_L_shape_by pm_L_shape_by cd_L_shape_by ct_L_shape_by : Value}
    {f_fits : Addr} {od_fits an_fits : Option Addr} {sl_fits : Array (Option Value)} {oc_fits kV_fits dc_fits pm_fits cd_fits ct_fits : Value}
    {f_first_misfit : Addr} {od_first_misfit an_first_misfit : Option Addr} {sl_first_misfit : Array (Option Value)} {oc_first_misfit kV_first_misfit dc_first_misfit pm_first_misfit cd_first_misfit ct_first_misfit : Value}
    {f_shape_of : Addr} {od_shape_of an_shape_of : Option Addr} {sl_shape_of : Array (Option Value)} {oc_shape_of kV_shape_of dc_shape_of pm_shape_of cd_shape_of ct_shape_of : Value}
    {f_read : Addr} {od_read an_read : Option Addr} {sl_read : Array (Option Value)} {oc_read kV_read dc_read pm_read cd_read ct_read : Value}
    {f_law : Addr} {od_law an_law : Option Addr} {sl_law : Array (Option Value)} {oc_law kV_law dc_law pm_law cd_law ct_law : Value}
    {t_MOST_PIECES : Tok}
    {t_LONGEST_NAME : Tok}
    {fc_FACE_COUNTS : Addr} {nc_FACE_COUNTS : Nat} {slc_FACE_COUNTS : Array (Option Value)} {tc_FACE_COUNTS_0 tc_FACE_COUNTS_1 tc_FACE_COUNTS_2 tc_FACE_COUNTS_3 : Tok}
    (X : K.In h) (G : h.Ns mainGlobals mg) (hfa : mg "law" = some (.ref fa))
    (a_is_whole : PySem.W.nsIn K mainGlobals "is_whole" = some (some (.ref f_is_whole)))
    (l_is_whole : K.lookup f_is_whole = some ⟨oc_is_whole, od_is_whole, .func (PySem.W.fnOf "is_whole" "is_whole" (defArgs s_is_whole) (defBody s_is_whole) (defScope s_is_whole) .none kV_is_whole dc_is_whole pm_is_whole an_is_whole cd_is_whole ct_is_whole), sl_is_whole⟩)
    (c_is_whole : PySem.W.codeIn K cd_is_whole "is_whole" = true)
    (k_is_whole : PySem.W.keepIn K (.ref f_is_whole) = true)
    (a_level_of : PySem.W.nsIn K mainGlobals "level_of" = some (some (.ref f_level_of)))
    (l_level_of : K.lookup f_level_of = some ⟨oc_level_of, od_level_of, .func (PySem.W.fnOf "level_of" "level_of" (defArgs s_level_of) (defBody s_level_of) (defScope s_level_of) .none kV_level_of dc_level_of pm_level_of an_level_of cd_level_of ct_level_of), sl_level_of⟩)
    (c_level_of : PySem.W.codeIn K cd_level_of "level_of" = true)
    (k_level_of : PySem.W.keepIn K (.ref f_level_of) = true)
    (a_faces_agree : PySem.W.nsIn K mainGlobals "faces_agree" = some (some (.ref f_faces_agree)))
    (l_faces_agree : K.lookup f_faces_agree = some ⟨oc_faces_agree, od_faces_agree, .func (PySem.W.fnOf "faces_agree" "faces_agree" (defArgs s_faces_agree) (defBody s_faces_agree) (defScope s_faces_agree) .none kV_faces_agree dc_faces_agree pm_faces_agree an_faces_agree cd_faces_agree ct_faces_agree), sl_faces_agree⟩)
    (c_faces_agree : PySem.W.codeIn K cd_faces_agree "faces_agree" = true)
    (k_faces_agree : PySem.W.keepIn K (.ref f_faces_agree) = true)
    (a_is_list_of_few : PySem.W.nsIn K mainGlobals "is_list_of_few" = some (some (.ref f_is_list_of_few)))
    (l_is_list_of_few : K.lookup f_is_list_of_few = some ⟨oc_is_list_of_few, od_is_list_of_few, .func (PySem.W.fnOf "is_list_of_few" "is_list_of_few" (defArgs s_is_list_of_few) (defBody s_is_list_of_few) (defScope s_is_list_of_few) .none kV_is_list_of_few dc_is_list_of_few pm_is_list_of_few an_is_list_of_few cd_is_list_of_few ct_is_list_of_few), sl_is_list_of_few⟩)
    (c_is_list_of_few : PySem.W.codeIn K cd_is_list_of_few "is_list_of_few" = true)
    (k_is_list_of_few : PySem.W.keepIn K (.ref f_is_list_of_few) = true)
    (a_row_text : PySem.W.nsIn K mainGlobals "row_text" = some (some (.ref f_row_text)))
    (l_row_text : K.lookup f_row_text = some ⟨oc_row_text, od_row_text, .func (PySem.W.fnOf "row_text" "row_text" (defArgs s_row_text) (defBody s_row_text) (defScope s_row_text) .none kV_row_text dc_row_text pm_row_text an_row_text cd_row_text ct_row_text), sl_row_text⟩)
    (c_row_text : PySem.W.codeIn K cd_row_text "row_text" = true)
    (k_row_text : PySem.W.keepIn K (.ref f_row_text) = true)
    (a_is_name : PySem.W.nsIn K mainGlobals "is_name" = some (some (.ref f_is_name)))
    (l_is_name : K.lookup f_is_name = some ⟨oc_is_name, od_is_name, .func (PySem.W.fnOf "is_name" "is_name" (defArgs s_is_name) (defBody s_is_name) (defScope s_is_name) .none kV_is_name dc_is_name pm_is_name an_is_name cd_is_name ct_is_name), sl_is_name⟩)
    (c_is_name : PySem.W.codeIn K cd_is_name "is_name" = true)
    (k_is_name : PySem.W.keepIn K (.ref f_is_name) = true)
    (a_spot_of : PySem.W.nsIn K mainGlobals "spot_of" = some (some (.ref f_spot_of)))
    (l_spot_of : K.lookup f_spot_of = some ⟨oc_spot_of, od_spot_of, .func (PySem.W.fnOf "spot_of" "spot_of" (defArgs s_spot_of) (defBody s_spot_of) (defScope s_spot_of) .none kV_spot_of dc_spot_of pm_spot_of an_spot_of cd_spot_of ct_spot_of), sl_spot_of⟩)
    (c_spot_of : PySem.W.codeIn K cd_spot_of "spot_of" = true)
    (k_spot_of : PySem.W.keepIn K (.ref f_spot_of) = true)
    (a_L_name_by : PySem.W.nsIn K mainGlobals "_law_name_by" = some (some (.ref f_L_name_by)))
    (l_L_name_by : K.lookup f_L_name_by = some ⟨oc_L_name_by, od_L_name_by, .func (PySem.W.fnOf "_law_name_by" "_law_name_by" (defArgs s_L_name_by) (defBody s_L_name_by) (defScope s_L_name_by) .none kV_L_name_by dc_L_name_by pm_L_name_by an_L_name_by cd_L_name_by ct_L_name_by), sl_L_name_by⟩)
    (c_L_name_by : PySem.W.codeIn K cd_L_name_by "_law_name_by" = true)
    (k_L_name_by : PySem.W.keepIn K (.ref f_L_name_by) = true)
    (a_L_text_by : PySem.W.nsIn K mainGlobals "_law_text_by" = some (some (.ref f_L_text_by)))
    (l_L_text_by : K.lookup f_L_text_by = some ⟨oc_L_text_by, od_L_text_by, .func (PySem.W.fnOf "_law_text_by" "_law_text_by" (defArgs s_L_text_by) (defBody s_L_text_by) (defScope s_L_text_by) .none kV_L_text_by dc_L_text_by pm_L_text_by an_L_text_by cd_L_text_by ct_L_text_by), sl_L_text_by⟩)
    (c_L_text_by : PySem.W.codeIn K cd_L_text_by "_law_text_by" = true)
    (k_L_text_by : PySem.W.keepIn K (.ref f_L_text_by) = true)
    (a_L_cell_at : PySem.W.nsIn K mainGlobals "_law_cell_at" = some (some (.ref f_L_cell_at)))
    (l_L_cell_at : K.lookup f_L_cell_at = some ⟨oc_L_cell_at, od_L_cell_at, .func (PySem.W.fnOf "_law_cell_at" "_law_cell_at" (defArgs s_L_cell_at) (defBody s_L_cell_at) (defScope s_L_cell_at) .none kV_L_cell_at dc_L_cell_at pm_L_cell_at an_L_cell_at cd_L_cell_at ct_L_cell_at), sl_L_cell_at⟩)
    (c_L_cell_at : PySem.W.codeIn K cd_L_cell_at "_law_cell_at" = true)
    (k_L_cell_at : PySem.W.keepIn K (.ref f_L_cell_at) = true)
    (a_L_faces_by : PySem.W.nsIn K mainGlobals "_law_faces_by" = some (some (.ref f_L_faces_by)))
    (l_L_faces_by : K.lookup f_L_faces_by = some ⟨oc_L_faces_by, od_L_faces_by, .func (PySem.W.fnOf "_law_faces_by" "_law_faces_by" (defArgs s_L_faces_by) (defBody s_L_faces_by) (defScope s_L_faces_by) .none kV_L_faces_by dc_L_faces_by pm_L_faces_by an_L_faces_by cd_L_faces_by ct_L_faces_by), sl_L_faces_by⟩)
    (c_L_faces_by : PySem.W.codeIn K cd_L_faces_by "_law_faces_by" = true)
    (k_L_faces_by : PySem.W.keepIn K (.ref f_L_faces_by) = true)
    (a_L_word_by : PySem.W.nsIn K mainGlobals "_law_word_by" = some (some (.ref f_L_word_by)))
    (l_L_word_by : K.lookup f_L_word_by = some ⟨oc_L_word_by, od_L_word_by, .func (PySem.W.fnOf "_law_word_by" "_law_word_by" (defArgs s_L_word_by) (defBody s_L_word_by) (defScope s_L_word_by) .none kV_L_word_by dc_L_word_by pm_L_word_by an_L_word_by cd_L_word_by ct_L_word_by), sl_L_word_by⟩)
    (c_L_word_by : PySem.W.codeIn K cd_L_word_by "_law_word_by" = true)
    (k_L_word_by : PySem.W.keepIn K (.ref f_L_word_by) = true)
    (a_is_whole_below : PySem.W.nsIn K mainGlobals "is_whole_below" = some (some (.ref f_is_whole_below)))
    (l_is_whole_below : K.lookup f_is_whole_below = some ⟨oc_is_whole_below, od_is_whole_below, .func (PySem.W.fnOf "is_whole_below" "is_whole_below" (defArgs s_is_whole_below) (defBody s_is_whole_below) (defScope s_is_whole_below) .none kV_is_whole_below dc_is_whole_below pm_is_whole_below an_is_whole_below cd_is_whole_below ct_is_whole_below), sl_is_whole_below⟩)
    (c_is_whole_below : PySem.W.codeIn K cd_is_whole_below "is_whole_below" = true)
    (k_is_whole_below : PySem.W.keepIn K (.ref f_is_whole_below) = true)
    (a_written : PySem.W.nsIn K mainGlobals "written" = some (some (.ref f_written)))
    (l_written : K.lookup f_written = some ⟨oc_written, od_written, .func (PySem.W.fnOf "written" "written" (defArgs s_written) (defBody s_written) (defScope s_written) .none kV_written dc_written pm_written an_written cd_written ct_written), sl_written⟩)
    (c_written : PySem.W.codeIn K cd_written "written" = true)
    (k_written : PySem.W.keepIn K (.ref f_written) = true)
    (a_rows_of : PySem.W.nsIn K mainGlobals "rows_of" = some (some (.ref f_rows_of)))
    (l_rows_of : K.lookup f_rows_of = some ⟨oc_rows_of, od_rows_of, .func (PySem.W.fnOf "rows_of" "rows_of" (defArgs s_rows_of) (defBody s_rows_of) (defScope s_rows_of) .none kV_rows_of dc_rows_of pm_rows_of an_rows_of cd_rows_of ct_rows_of), sl_rows_of⟩)
    (c_rows_of : PySem.W.codeIn K cd_rows_of "rows_of" = true)
    (k_rows_of : PySem.W.keepIn K (.ref f_rows_of) = true)
    (a_pieces_of : PySem.W.nsIn K mainGlobals "pieces_of" = some (some (.ref f_pieces_of)))
    (l_pieces_of : K.lookup f_pieces_of = some ⟨oc_pieces_of, od_pieces_of, .func (PySem.W.fnOf "pieces_of" "pieces_of" (defArgs s_pieces_of) (defBody s_pieces_of) (defScope s_pieces_of) .none kV_pieces_of dc_pieces_of pm_pieces_of an_pieces_of cd_pieces_of ct_pieces_of), sl_pieces_of⟩)
    (c_pieces_of : PySem.W.codeIn K cd_pieces_of "pieces_of" = true)
    (k_pieces_of : PySem.W.keepIn K (.ref f_pieces_of) = true)
    (a_L_names_by : PySem.W.nsIn K mainGlobals "_law_names_by" = some (some (.ref f_L_names_by)))
    (l_L_names_by : K.lookup f_L_names_by = some ⟨oc_L_names_by, od_L_names_by, .func (PySem.W.fnOf "_law_names_by" "_law_names_by" (defArgs s_L_names_by) (defBody s_L_names_by) (defScope s_L_names_by) .none kV_L_names_by dc_L_names_by pm_L_names_by an_L_names_by cd_L_names_by ct_L_names_by), sl_L_names_by⟩)
    (c_L_names_by : PySem.W.codeIn K cd_L_names_by "_law_names_by" = true)
    (k_L_names_by : PySem.W.keepIn K (.ref f_L_names_by) = true)
    (a_L_words_with : PySem.W.nsIn K mainGlobals "_law_words_with" = some (some (.ref f_L_words_with)))
    (l_L_words_with : K.lookup f_L_words_with = some ⟨oc_L_words_with, od_L_words_with, .func (PySem.W.fnOf "_law_words_with" "_law_words_with" (defArgs s_L_words_with) (defBody s_L_words_with) (defScope s_L_words_with) .none kV_L_words_with dc_L_words_with pm_L_words_with an_L_words_with cd_L_words_with ct_L_words_with), sl_L_words_with⟩)
    (c_L_words_with : PySem.W.codeIn K cd_L_words_with "_law_words_with" = true)
    (k_L_words_with : PySem.W.keepIn K (.ref f_L_words_with) = true)
    (a_is_place_of_level : PySem.W.nsIn K mainGlobals "is_place_of_level" = some (some (.ref f_is_place_of_level)))
    (l_is_place_of_level : K.lookup f_is_place_of_level = some ⟨oc_is_place_of_level, od_is_place_of_level, .func (PySem.W.fnOf "is_place_of_level" "is_place_of_level" (defArgs s_is_place_of_level) (defBody s_is_place_of_level) (defScope s_is_place_of_level) .none kV_is_place_of_level dc_is_place_of_level pm_is_place_of_level an_is_place_of_level cd_is_place_of_level ct_is_place_of_level), sl_is_place_of_level⟩)
    (c_is_place_of_level : PySem.W.codeIn K cd_is_place_of_level "is_place_of_level" = true)
    (k_is_place_of_level : PySem.W.keepIn K (.ref f_is_place_of_level) = true)
    (a_L_shape_by : PySem.W.nsIn K mainGlobals "_law_shape_by" = some (some (.ref f_L_shape_by)))
    (l_L_shape_by : K.lookup f_L_shape_by = some ⟨oc_L_shape_by, od_L_shape_by, .func (PySem.W.fnOf "_law_shape_by" "_law_shape_by" (defArgs s_L_shape_by) (defBody s_L_shape_by) (defScope s_L_shape_by) .none kV_L_shape_by dc_L_shape_by pm_L_shape_by an_L_shape_by cd_L_shape_by ct_L_shape_by), sl_L_shape_by⟩)
    (c_L_shape_by : PySem.W.codeIn K cd_L_shape_by "_law_shape_by" = true)
    (k_L_shape_by : PySem.W.keepIn K (.ref f_L_shape_by) = true)
    (a_fits : PySem.W.nsIn K mainGlobals "fits" = some (some (.ref f_fits)))
    (l_fits : K.lookup f_fits = some ⟨oc_fits, od_fits, .func (PySem.W.fnOf "fits" "fits" (defArgs s_fits) (defBody s_fits) (defScope s_fits) .none kV_fits dc_fits pm_fits an_fits cd_fits ct_fits), sl_fits⟩)
    (c_fits : PySem.W.codeIn K cd_fits "fits" = true)
    (k_fits : PySem.W.keepIn K (.ref f_fits) = true)
    (a_first_misfit : PySem.W.nsIn K mainGlobals "first_misfit" = some (some (.ref f_first_misfit)))
    (l_first_misfit : K.lookup f_first_misfit = some ⟨oc_first_misfit, od_first_misfit, .func (PySem.W.fnOf "first_misfit" "first_misfit" (defArgs s_first_misfit) (defBody s_first_misfit) (defScope s_first_misfit) .none kV_first_misfit dc_first_misfit pm_first_misfit an_first_misfit cd_first_misfit ct_first_misfit), sl_first_misfit⟩)
    (c_first_misfit : PySem.W.codeIn K cd_first_misfit "first_misfit" = true)
    (k_first_misfit : PySem.W.keepIn K (.ref f_first_misfit) = true)
    (a_shape_of : PySem.W.nsIn K mainGlobals "shape_of" = some (some (.ref f_shape_of)))
    (l_shape_of : K.lookup f_shape_of = some ⟨oc_shape_of, od_shape_of, .func (PySem.W.fnOf "shape_of" "shape_of" (defArgs s_shape_of) (defBody s_shape_of) (defScope s_shape_of) .none kV_shape_of dc_shape_of pm_shape_of an_shape_of cd_shape_of ct_shape_of), sl_shape_of⟩)
    (c_shape_of : PySem.W.codeIn K cd_shape_of "shape_of" = true)
    (k_shape_of : PySem.W.keepIn K (.ref f_shape_of) = true)
    (a_read : PySem.W.nsIn K mainGlobals "read" = some (some (.ref f_read)))
    (l_read : K.lookup f_read = some ⟨oc_read, od_read, .func (PySem.W.fnOf "read" "read" (defArgs s_read) (defBody s_read) (defScope s_read) .none kV_read dc_read pm_read an_read cd_read ct_read), sl_read⟩)
    (c_read : PySem.W.codeIn K cd_read "read" = true)
    (k_read : PySem.W.keepIn K (.ref f_read) = true)
    (a_law : PySem.W.nsIn K mainGlobals "law" = some (some (.ref f_law)))
    (l_law : K.lookup f_law = some ⟨oc_law, od_law, .func (PySem.W.fnOf "law" "law" (defArgs s_law) (defBody s_law) (defScope s_law) .none kV_law dc_law pm_law an_law cd_law ct_law), sl_law⟩)
    (c_law : PySem.W.codeIn K cd_law "law" = true)
    (k_law : PySem.W.keepIn K (.ref f_law) = true)
    (ac_FACE_COUNTS : PySem.W.nsIn K mainGlobals "FACE_COUNTS" = some (some (.ref fc_FACE_COUNTS)))
    (lc_FACE_COUNTS : K.lookup fc_FACE_COUNTS = some ⟨.type "tuple", none, .seq #[.int 0 tc_FACE_COUNTS_0, .int 2 tc_FACE_COUNTS_1, .int 3 tc_FACE_COUNTS_2, .int 4 tc_FACE_COUNTS_3] nc_FACE_COUNTS, slc_FACE_COUNTS⟩)
    (aq_MOST_PIECES : PySem.W.nsIn K mainGlobals "MOST_PIECES" = some (some (.int 40 t_MOST_PIECES)))
    (aq_LONGEST_NAME : PySem.W.nsIn K mainGlobals "LONGEST_NAME" = some (some (.int 8 t_LONGEST_NAME)))
    (z_isinstance : PySem.W.nsIn K mainGlobals "isinstance" = some none)
    (z_int : PySem.W.nsIn K mainGlobals "int" = some none)
    (z_bool : PySem.W.nsIn K mainGlobals "bool" = some none)
    (z_max : PySem.W.nsIn K mainGlobals "max" = some none)
    (z_len : PySem.W.nsIn K mainGlobals "len" = some none)
    (z_all : PySem.W.nsIn K mainGlobals "all" = some none)
    (z_tuple : PySem.W.nsIn K mainGlobals "tuple" = some none)
    (z_range : PySem.W.nsIn K mainGlobals "range" = some none)
    (z_list : PySem.W.nsIn K mainGlobals "list" = some none)
    (z_enumerate : PySem.W.nsIn K mainGlobals "enumerate" = some none)
    (z_str : PySem.W.nsIn K mainGlobals "str" = some none) :
    ∃ fd : FuncData, (∀ (s : Shared) (v : Value), BindsTo s fd ⟨[v], []⟩ [("_law_script", v)]) ∧ ∀ base : Heap, K.In base → base.Ns mainGlobals mg → FnOk l.prog w K mg base CX0 8 fa fd ["_law_script"] (sp_law K) := by
  have e := hfa.symm.trans (PySem.W.mg_of X G a_law)
  cases e
  have T : Txt K mg := ⟨⟨fc_FACE_COUNTS, PySem.W.mg_of X G ac_FACE_COUNTS, fun H => .inr ⟨_, _, _, lc_FACE_COUNTS, rfl, rfl, rfl, (by show (4 : Nat) ≤ sizeLine; decide), .cons ⟨_, rfl⟩ (.cons ⟨_, rfl⟩ (.cons ⟨_, rfl⟩ (.cons ⟨_, rfl⟩ (.nil))))⟩⟩, ⟨_, PySem.W.mg_of X G aq_MOST_PIECES⟩, ⟨_, PySem.W.mg_of X G aq_LONGEST_NAME⟩, PySem.W.mg_none_of X G z_isinstance, PySem.W.mg_none_of X G z_int, PySem.W.mg_none_of X G z_bool, PySem.W.mg_none_of X G z_max, PySem.W.mg_none_of X G z_len, PySem.W.mg_none_of X G z_all, PySem.W.mg_none_of X G z_tuple, PySem.W.mg_none_of X G z_range, PySem.W.mg_none_of X G z_list, PySem.W.mg_none_of X G z_enumerate, PySem.W.mg_none_of X G z_str⟩
  have F_is_whole := fun_mk (st := s_is_whole) l_is_whole c_is_whole k_is_whole
  have F_level_of := fun_mk (st := s_level_of) l_level_of c_level_of k_level_of
  have F_faces_agree := fun_mk (st := s_faces_agree) l_faces_agree c_faces_agree k_faces_agree
  have F_is_list_of_few := fun_mk (st := s_is_list_of_few) l_is_list_of_few c_is_list_of_few k_is_list_of_few
  have F_row_text := fun_mk (st := s_row_text) l_row_text c_row_text k_row_text
  have F_is_name := fun_mk (st := s_is_name) l_is_name c_is_name k_is_name
  have F_spot_of := fun_mk (st := s_spot_of) l_spot_of c_spot_of k_spot_of
  have F_L_name_by := fun_mk (st := s_L_name_by) l_L_name_by c_L_name_by k_L_name_by
  have F_L_text_by := fun_mk (st := s_L_text_by) l_L_text_by c_L_text_by k_L_text_by
  have F_L_cell_at := fun_mk (st := s_L_cell_at) l_L_cell_at c_L_cell_at k_L_cell_at
  have F_L_faces_by := fun_mk (st := s_L_faces_by) l_L_faces_by c_L_faces_by k_L_faces_by
  have F_L_word_by := fun_mk (st := s_L_word_by) l_L_word_by c_L_word_by k_L_word_by
  have F_is_whole_below := fun_mk (st := s_is_whole_below) l_is_whole_below c_is_whole_below k_is_whole_below
  have F_written := fun_mk (st := s_written) l_written c_written k_written
  have F_rows_of := fun_mk (st := s_rows_of) l_rows_of c_rows_of k_rows_of
  have F_pieces_of := fun_mk (st := s_pieces_of) l_pieces_of c_pieces_of k_pieces_of
  have F_L_names_by := fun_mk (st := s_L_names_by) l_L_names_by c_L_names_by k_L_names_by
  have F_L_words_with := fun_mk (st := s_L_words_with) l_L_words_with c_L_words_with k_L_words_with
  have F_is_place_of_level := fun_mk (st := s_is_place_of_level) l_is_place_of_level c_is_place_of_level k_is_place_of_level
  have F_L_shape_by := fun_mk (st := s_L_shape_by) l_L_shape_by c_L_shape_by k_L_shape_by
  have F_fits := fun_mk (st := s_fits) l_fits c_fits k_fits
  have F_first_misfit := fun_mk (st := s_first_misfit) l_first_misfit c_first_misfit k_first_misfit
  have F_shape_of := fun_mk (st := s_shape_of) l_shape_of c_shape_of k_shape_of
  have F_read := fun_mk (st := s_read) l_read c_read k_read
  have F_law := fun_mk (st := s_law) l_law c_law k_law
  refine ⟨PySem.W.fnOf "law" "law" (defArgs s_law) (defBody s_law) (defScope s_law) .none kV_law dc_law pm_law an_law cd_law ct_law, fun s v => .of_eq rfl, fun base _ _ => ?_⟩
  have h_is_whole : Has l.prog w K mg base "is_whole" ["thing"] 1 (sp_is_whole K) := ⟨_, _, PySem.W.mg_of X G a_is_whole, k_is_whole, F_is_whole.binds (ps := ["thing"]) (fun _ _ _ _ _ _ => elim1 (fun _ => rfl)), ok_is_whole F_is_whole T ⟩
  have h_level_of : Has l.prog w K mg base "level_of" ["piece"] 1 (sp_level_of K) := ⟨_, _, PySem.W.mg_of X G a_level_of, k_level_of, F_level_of.binds (ps := ["piece"]) (fun _ _ _ _ _ _ => elim1 (fun _ => rfl)), ok_level_of F_level_of T ⟩
  have h_faces_agree : Has l.prog w K mg base "faces_agree" ["shape", "faces"] 1 (sp_faces_agree K) := ⟨_, _, PySem.W.mg_of X G a_faces_agree, k_faces_agree, F_faces_agree.binds (ps := ["shape", "faces"]) (fun _ _ _ _ _ _ => elim2 (fun _ _ => rfl)), ok_faces_agree F_faces_agree T ⟩
  have h_is_list_of_few : Has l.prog w K mg base "is_list_of_few" ["thing"] 1 (sp_is_list_of_few K) := ⟨_, _, PySem.W.mg_of X G a_is_list_of_few, k_is_list_of_few, F_is_list_of_few.binds (ps := ["thing"]) (fun _ _ _ _ _ _ => elim1 (fun _ => rfl)), ok_is_list_of_few F_is_list_of_few T ⟩
  have h_row_text : Has l.prog w K mg base "row_text" ["names", "place", "piece"] 1 (sp_row_text K) := ⟨_, _, PySem.W.mg_of X G a_row_text, k_row_text, F_row_text.binds (ps := ["names", "place", "piece"]) (fun _ _ _ _ _ _ => elim3 (fun _ _ _ => rfl)), ok_row_text F_row_text T ⟩
  have h_is_name : Has l.prog w K mg base "is_name" ["word"] 1 (sp_is_name K) := ⟨_, _, PySem.W.mg_of X G a_is_name, k_is_name, F_is_name.binds (ps := ["word"]) (fun _ _ _ _ _ _ => elim1 (fun _ => rfl)), ok_is_name F_is_name T ⟩
  have h_spot_of : Has l.prog w K mg base "spot_of" ["spots", "name"] 1 (sp_spot_of K) := ⟨_, _, PySem.W.mg_of X G a_spot_of, k_spot_of, F_spot_of.binds (ps := ["spots", "name"]) (fun _ _ _ _ _ _ => elim2 (fun _ _ => rfl)), ok_spot_of F_spot_of T ⟩
  have h_L_name_by : Has l.prog w K mg base "_law_name_by" ["_law_number", "_law_stem"] 1 (sp_L_name_by K) := ⟨_, _, PySem.W.mg_of X G a_L_name_by, k_L_name_by, F_L_name_by.binds (ps := ["_law_number", "_law_stem"]) (fun _ _ _ _ _ _ => elim2 (fun _ _ => rfl)), ok_L_name_by F_L_name_by T ⟩
  have h_L_text_by : Has l.prog w K mg base "_law_text_by" ["_law_shape", "_law_names"] 1 (sp_L_text_by K) := ⟨_, _, PySem.W.mg_of X G a_L_text_by, k_L_text_by, F_L_text_by.binds (ps := ["_law_shape", "_law_names"]) (fun _ _ _ _ _ _ => elim2 (fun _ _ => rfl)), ok_L_text_by F_L_text_by T ⟩
  have h_L_cell_at : Has l.prog w K mg base "_law_cell_at" ["_law_script", "_law_k"] 1 (sp_L_cell_at K) := ⟨_, _, PySem.W.mg_of X G a_L_cell_at, k_L_cell_at, F_L_cell_at.binds (ps := ["_law_script", "_law_k"]) (fun _ _ _ _ _ _ => elim2 (fun _ _ => rfl)), ok_L_cell_at F_L_cell_at T ⟩
  have h_L_faces_by : Has l.prog w K mg base "_law_faces_by" ["_law_word", "_law_family"] 1 (sp_L_faces_by K) := ⟨_, _, PySem.W.mg_of X G a_L_faces_by, k_L_faces_by, F_L_faces_by.binds (ps := ["_law_word", "_law_family"]) (fun _ _ _ _ _ _ => elim2 (fun _ _ => rfl)), ok_L_faces_by F_L_faces_by T ⟩
  have h_L_word_by : Has l.prog w K mg base "_law_word_by" ["_law_cell", "_law_family", "_law_letters"] 1 (sp_L_word_by K) := ⟨_, _, PySem.W.mg_of X G a_L_word_by, k_L_word_by, F_L_word_by.binds (ps := ["_law_cell", "_law_family", "_law_letters"]) (fun _ _ _ _ _ _ => elim3 (fun _ _ _ => rfl)), ok_L_word_by F_L_word_by T ⟩
  have h_is_whole_below : Has l.prog w K mg base "is_whole_below" ["thing", "bound"] 2 (sp_is_whole_below K) := ⟨_, _, PySem.W.mg_of X G a_is_whole_below, k_is_whole_below, F_is_whole_below.binds (ps := ["thing", "bound"]) (fun _ _ _ _ _ _ => elim2 (fun _ _ => rfl)), ok_is_whole_below F_is_whole_below T h_is_whole⟩
  have h_written : Has l.prog w K mg base "written" ["shape", "names"] 2 (sp_written K) := ⟨_, _, PySem.W.mg_of X G a_written, k_written, F_written.binds (ps := ["shape", "names"]) (fun _ _ _ _ _ _ => elim2 (fun _ _ => rfl)), ok_written F_written T h_row_text⟩
  have h_rows_of : Has l.prog w K mg base "rows_of" ["thing"] 2 (sp_rows_of K) := ⟨_, _, PySem.W.mg_of X G a_rows_of, k_rows_of, F_rows_of.binds (ps := ["thing"]) (fun _ _ _ _ _ _ => elim1 (fun _ => rfl)), ok_rows_of F_rows_of T h_is_name⟩
  have h_pieces_of : Has l.prog w K mg base "pieces_of" ["rows"] 2 (sp_pieces_of K) := ⟨_, _, PySem.W.mg_of X G a_pieces_of, k_pieces_of, F_pieces_of.binds (ps := ["rows"]) (fun _ _ _ _ _ _ => elim1 (fun _ => rfl)), ok_pieces_of F_pieces_of T h_spot_of⟩
  have h_L_names_by : Has l.prog w K mg base "_law_names_by" ["_law_cell", "_law_many"] 2 (sp_L_names_by K) := ⟨_, _, PySem.W.mg_of X G a_L_names_by, k_L_names_by, F_L_names_by.binds (ps := ["_law_cell", "_law_many"]) (fun _ _ _ _ _ _ => elim2 (fun _ _ => rfl)), ok_L_names_by F_L_names_by T h_L_name_by⟩
  have h_L_words_with : Has l.prog w K mg base "_law_words_with" ["_law_words", "_law_word", "_law_family"] 2 (sp_L_words_with K) := ⟨_, _, PySem.W.mg_of X G a_L_words_with, k_L_words_with, F_L_words_with.binds (ps := ["_law_words", "_law_word", "_law_family"]) (fun _ _ _ _ _ _ => elim3 (fun _ _ _ => rfl)), ok_L_words_with F_L_words_with T h_L_faces_by⟩
  have h_is_place_of_level : Has l.prog w K mg base "is_place_of_level" ["shape", "thing", "level"] 3 (sp_is_place_of_level K) := ⟨_, _, PySem.W.mg_of X G a_is_place_of_level, k_is_place_of_level, F_is_place_of_level.binds (ps := ["shape", "thing", "level"]) (fun _ _ _ _ _ _ => elim3 (fun _ _ _ => rfl)), ok_is_place_of_level F_is_place_of_level T h_is_whole_below h_level_of⟩
  have h_L_shape_by : Has l.prog w K mg base "_law_shape_by" ["_law_kind", "_law_cells", "_law_most"] 3 (sp_L_shape_by K) := ⟨_, _, PySem.W.mg_of X G a_L_shape_by, k_L_shape_by, F_L_shape_by.binds (ps := ["_law_kind", "_law_cells", "_law_most"]) (fun _ _ _ _ _ _ => elim3 (fun _ _ _ => rfl)), ok_L_shape_by F_L_shape_by T h_L_words_with h_L_word_by h_L_faces_by⟩
  have h_fits : Has l.prog w K mg base "fits" ["shape", "thing"] 4 (sp_fits K) := ⟨_, _, PySem.W.mg_of X G a_fits, k_fits, F_fits.binds (ps := ["shape", "thing"]) (fun _ _ _ _ _ _ => elim2 (fun _ _ => rfl)), ok_fits F_fits T h_level_of h_faces_agree h_is_place_of_level⟩
  have h_first_misfit : Has l.prog w K mg base "first_misfit" ["pieces"] 5 (sp_first_misfit K) := ⟨_, _, PySem.W.mg_of X G a_first_misfit, k_first_misfit, F_first_misfit.binds (ps := ["pieces"]) (fun _ _ _ _ _ _ => elim1 (fun _ => rfl)), ok_first_misfit F_first_misfit T h_fits⟩
  have h_shape_of : Has l.prog w K mg base "shape_of" ["thing"] 6 (sp_shape_of K) := ⟨_, _, PySem.W.mg_of X G a_shape_of, k_shape_of, F_shape_of.binds (ps := ["thing"]) (fun _ _ _ _ _ _ => elim1 (fun _ => rfl)), ok_shape_of F_shape_of T h_first_misfit h_is_list_of_few⟩
  have h_read : Has l.prog w K mg base "read" ["thing"] 7 (sp_read K) := ⟨_, _, PySem.W.mg_of X G a_read, k_read, F_read.binds (ps := ["thing"]) (fun _ _ _ _ _ _ => elim1 (fun _ => rfl)), ok_read F_read T h_rows_of h_pieces_of h_shape_of⟩
  exact ok_law F_law T h_L_shape_by h_L_names_by h_L_text_by h_written h_L_cell_at h_read
theorem walk {l : PySem.W.OpenLaw} {q : Program} {loose : List Str} {XP : (Str → Option Value) → Heap → Prop} {YP : World → Heap → Prop} {d : DefRec} {K : Params → PySem.W.Frag} (hn : l.most = some 63) (hdf : d.params.defaults = [])
    (hY : ∀ (w : World) (h : Heap), YP w h → (K w.params).In h)
    (F : ∀ (w : World) (mg : Str → Option Value) (fa : Addr) (h : Heap), (K w.params).In h → h.Ns mainGlobals mg → mg d.name = some (.ref fa) →
      ∃ fd : FuncData, (∀ (s : Shared) (u : Value), BindsTo s fd ⟨[u], []⟩ [("_law_script", u)]) ∧ ∀ base : Heap, (K w.params).In base → base.Ns mainGlobals mg → FnOk l.prog w (K w.params) mg base CX0 8 fa fd ["_law_script"] (sp_law (K w.params))) :
    PySem.W.WalkO q loose XP YP l.row.toRowW d [] (fun f vs => PySem.call f vs) :=
  L2.walk_of (n := 63) (k := 8) (x := "_law_script") (CX := fun _ => CX0) (sp := fun w => sp_law (K w.params)) hn (by decide) hdf ⟨rfl, by decide, by decide, rfl⟩ hY F (fun _ _ a ns hl _ hS => ⟨a, ns, rfl, hS, hl, fun _ => rfl⟩) fun _ _ _ _ _ z => z
end Hb
open PySem PySem.W PyProof.Rows
set_option maxRecDepth 100000 in
set_option maxHeartbeats 0 in
theorem PySem.Challenge.cw_holebook_k07_text_there_and_back_holds : PySem.Challenge.rw_holebook_k07_text_there_and_back.Holds := by
  w_on; o_law; k_head; (case hw => w_witness2)
  k_fill
  refine Hb.walk (l := PySem.Challenge.rw_holebook_k07_text_there_and_back) rfl rfl (fun w h Y => PySem.W.kIn_of Y) ?F
  case F =>
    intro w mg fa h KX G hmg
    refine' Hb.all_mk KX G hmg ?a_is_whole ?l_is_whole ?c_is_whole ?k_is_whole ?a_level_of ?l_level_of ?c_level_of ?k_level_of ?a_faces_agree ?l_faces_agree ?c_faces_agree ?k_faces_agree ?a_is_list_of_few ?l_is_list_of_few ?c_is_list_of_few ?k_is_list_of_few ?a_row_text ?l_row_text ?c_row_text ?k_row_text ?a_is_name ?l_is_name ?c_is_name ?k_is_name ?a_spot_of ?l_spot_of ?c_spot_of ?k_spot_of ?a_L_name_by ?l_L_name_by ?c_L_name_by ?k_L_name_by ?a_L_text_by ?l_L_text_by ?c_L_text_by ?k_L_text_by ?a_L_cell_at ?l_L_cell_at ?c_L_cell_at ?k_L_cell_at ?a_L_faces_by ?l_L_faces_by ?c_L_faces_by ?k_L_faces_by ?a_L_word_by ?l_L_word_by ?c_L_word_by ?k_L_word_by ?a_is_whole_below ?l_is_whole_below ?c_is_whole_below ?k_is_whole_below ?a_written ?l_written ?c_written ?k_written ?a_rows_of ?l_rows_of ?c_rows_of ?k_rows_of ?a_pieces_of ?l_pieces_of ?c_pieces_of ?k_pieces_of ?a_L_names_by ?l_L_names_by ?c_L_names_by ?k_L_names_by ?a_L_words_with ?l_L_words_with ?c_L_words_with ?k_L_words_with ?a_is_place_of_level ?l_is_place_of_level ?c_is_place_of_level ?k_is_place_of_level ?a_L_shape_by ?l_L_shape_by ?c_L_shape_by ?k_L_shape_by ?a_fits ?l_fits ?c_fits ?k_fits ?a_first_misfit ?l_first_misfit ?c_first_misfit ?k_first_misfit ?a_shape_of ?l_shape_of ?c_shape_of ?k_shape_of ?a_read ?l_read ?c_read ?k_read ?a_law ?l_law ?c_law ?k_law ?ac_FACE_COUNTS ?lc_FACE_COUNTS ?aq_MOST_PIECES ?aq_LONGEST_NAME ?z_isinstance ?z_int ?z_bool ?z_max ?z_len ?z_all ?z_tuple ?z_range ?z_list ?z_enumerate ?z_str
    (case ac_FACE_COUNTS => k_is); (case a_is_whole => k_is); (case l_is_whole => k_is); (case c_is_whole => k_is)
    (case k_is_whole => k_is); (case a_level_of => k_is); (case l_level_of => k_is); (case c_level_of => k_is)
    (case k_level_of => k_is); (case a_faces_agree => k_is); (case l_faces_agree => k_is); (case c_faces_agree => k_is)
    (case k_faces_agree => k_is); (case a_is_list_of_few => k_is); (case l_is_list_of_few => k_is); (case c_is_list_of_few => k_is)
    (case k_is_list_of_few => k_is); (case a_row_text => k_is); (case l_row_text => k_is); (case c_row_text => k_is)
    (case k_row_text => k_is); (case a_is_name => k_is); (case l_is_name => k_is); (case c_is_name => k_is)
    (case k_is_name => k_is); (case a_spot_of => k_is); (case l_spot_of => k_is); (case c_spot_of => k_is)
    (case k_spot_of => k_is); (case a_L_name_by => k_is); (case l_L_name_by => k_is); (case c_L_name_by => k_is)
    (case k_L_name_by => k_is); (case a_L_text_by => k_is); (case l_L_text_by => k_is); (case c_L_text_by => k_is)
    (case k_L_text_by => k_is); (case a_L_cell_at => k_is); (case l_L_cell_at => k_is); (case c_L_cell_at => k_is)
    (case k_L_cell_at => k_is); (case a_L_faces_by => k_is); (case l_L_faces_by => k_is); (case c_L_faces_by => k_is)
    (case k_L_faces_by => k_is); (case a_L_word_by => k_is); (case l_L_word_by => k_is); (case c_L_word_by => k_is)
    (case k_L_word_by => k_is); (case a_is_whole_below => k_is); (case l_is_whole_below => k_is); (case c_is_whole_below => k_is)
    (case k_is_whole_below => k_is); (case a_written => k_is); (case l_written => k_is); (case c_written => k_is)
    (case k_written => k_is); (case a_rows_of => k_is); (case l_rows_of => k_is); (case c_rows_of => k_is)
    (case k_rows_of => k_is); (case a_pieces_of => k_is); (case l_pieces_of => k_is); (case c_pieces_of => k_is)
    (case k_pieces_of => k_is); (case a_L_names_by => k_is); (case l_L_names_by => k_is); (case c_L_names_by => k_is)
    (case k_L_names_by => k_is); (case a_L_words_with => k_is); (case l_L_words_with => k_is); (case c_L_words_with => k_is)
    (case k_L_words_with => k_is); (case a_is_place_of_level => k_is); (case l_is_place_of_level => k_is); (case c_is_place_of_level => k_is)
    (case k_is_place_of_level => k_is); (case a_L_shape_by => k_is); (case l_L_shape_by => k_is); (case c_L_shape_by => k_is)
    (case k_L_shape_by => k_is); (case a_fits => k_is); (case l_fits => k_is); (case c_fits => k_is)
    (case k_fits => k_is); (case a_first_misfit => k_is); (case l_first_misfit => k_is); (case c_first_misfit => k_is)
    (case k_first_misfit => k_is); (case a_shape_of => k_is); (case l_shape_of => k_is); (case c_shape_of => k_is)
    (case k_shape_of => k_is); (case a_read => k_is); (case l_read => k_is); (case c_read => k_is)
    (case k_read => k_is); (case a_law => k_is); (case l_law => k_is); (case c_law => k_is)
    (case k_law => k_is); (case lc_FACE_COUNTS => k_is); (case aq_MOST_PIECES => k_is); (case aq_LONGEST_NAME => k_is)
    (case z_isinstance => k_is); (case z_int => k_is); (case z_bool => k_is); (case z_max => k_is)
    (case z_len => k_is); (case z_all => k_is); (case z_tuple => k_is); (case z_range => k_is)
    (case z_list => k_is); (case z_enumerate => k_is); (case z_str => k_is)
