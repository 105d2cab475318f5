import PyProof.Rows.All
import Wide.All
import OpenK.AllK
import Wide.FinOn
import Lean
import PyProof.EqAt
import PyProof.EqKinds
import PyProof.TupleCall
import PySem.Challenge.RW_holebook_k12_no_chain_is_refused
set_option Elab.async false
set_option linter.all false
set_option maxRecDepth 100000

namespace L2
open PySem PySem.Spec PyProof.Rows


noncomputable abbrev Key := Sum Int Str
noncomputable def keyIs : Key → Value → Bool
  | .inl k, v => Value.isInt k v
  | .inr x, v => Value.isStrOf x v
noncomputable def keyH (w : World) : Key → Int
  | .inl k => hashInt k
  | .inr x => hashStr w x
theorem keyIs_shape : ∀ {k : Key} {v : Value}, keyIs k v = true → (∃ i t, k = Sum.inl i ∧ v = Value.int i t) ∨ (∃ x t, k = Sum.inr x ∧ v = Value.str x t)
  | .inl i, v, h => by
    obtain ⟨t, e⟩ := Value.isInt_shape (k := i) (v := v) h
    exact .inl ⟨i, t, rfl, e⟩
  | .inr x, v, h => by
    obtain ⟨t, e⟩ := Value.isStrOf_shape (x := x) (v := v) h
    exact .inr ⟨x, t, rfl, e⟩
theorem keyIs_int (i : Int) (t : Tok) : keyIs (.inl i) (.int i t) = true := by simp [keyIs, Value.isInt]
theorem keyIs_str (x : Str) (t : Tok) : keyIs (.inr x) (.str x t) = true := by simp [keyIs, Value.isStrOf]
theorem key_ll (a b : Int) : decide ((Sum.inl a : Key) = Sum.inl b) = (a == b) := by
  by_cases e : a = b
  · subst e; simp
  · have h : ¬ (Sum.inl a : Key) = Sum.inl b := fun q => e (Sum.inl.inj q)
    rw [decide_eq_false h]
    exact (beq_eq_false_iff_ne.mpr e).symm
theorem key_rr (a b : Str) : decide ((Sum.inr a : Key) = Sum.inr b) = decide (a = b) := by
  by_cases e : a = b
  · subst e; simp
  · have h : ¬ (Sum.inr a : Key) = Sum.inr b := fun q => e (Sum.inr.inj q)
    rw [decide_eq_false h, decide_eq_false e]
theorem key_lr (a : Int) (b : Str) : decide ((Sum.inl a : Key) = Sum.inr b) = false := decide_eq_false (fun q => nomatch q)
theorem key_rl (a : Str) (b : Int) : decide ((Sum.inr a : Key) = Sum.inl b) = false := decide_eq_false (fun q => nomatch q)

noncomputable def mixKind (prog : Program) (w : World) : PySem.KeyKind prog w Key where
  is := keyIs
  hash := keyH w
  inj := fun v a b ha hb => by
    rcases keyIs_shape ha with ⟨i, t, rfl, rfl⟩ | ⟨x, t, rfl, rfl⟩
    · rcases keyIs_shape hb with ⟨j, u, rfl, e⟩ | ⟨y, u, rfl, e⟩
      · injection e with e1 _; rw [e1]
      · exact nomatch e
    · rcases keyIs_shape hb with ⟨j, u, rfl, e⟩ | ⟨y, u, rfl, e⟩
      · exact nomatch e
      · injection e with e1 _; rw [e1]
  byValue := fun k v h => by
    rcases keyIs_shape h with ⟨i, t, rfl, rfl⟩ | ⟨x, t, rfl, rfl⟩ <;> rfl
  pyHash := fun hv h => by
    rcases keyIs_shape hv with ⟨i, t, rfl, rfl⟩ | ⟨x, t, rfl, rfl⟩
    · exact wpAny_pyHash_int h
    · exact wpAny_pyHash_str h
  eqBool := fun hu hv h => by
    rcases keyIs_shape hu with ⟨i, t, rfl, rfl⟩ | ⟨x, t, rfl, rfl⟩
    · rcases keyIs_shape hv with ⟨j, u, rfl, rfl⟩ | ⟨y, u, rfl, rfl⟩
      · rw [key_ll] at h; exact wpAny_eqBool_int h
      · rw [key_lr] at h; exact SeqAt.EqAt.int_str i t y u _ _ _ _ h
    · rcases keyIs_shape hv with ⟨j, u, rfl, rfl⟩ | ⟨y, u, rfl, rfl⟩
      · rw [key_rl] at h; exact SeqAt.EqAt.str_int x t j u _ _ _ _ h
      · rw [key_rr] at h; exact wpAny_eqBool_str h
  «strs» := fun k x t v h => by
    rcases keyIs_shape h with ⟨i, u, rfl, e⟩ | ⟨y, u, rfl, e⟩
    · exact nomatch e
    · injection e with e1 _
      subst e1
      cases v <;> rfl

theorem mixKind_int (prog : Program) (w : World) (i : Int) (t : Tok) : (mixKind prog w).is (.inl i) (.int i t) = true := keyIs_int i t
theorem mixKind_str (prog : Program) (w : World) (x : Str) (t : Tok) : (mixKind prog w).is (.inr x) (.str x t) = true := keyIs_str x t
end L2

namespace L2
open PySem PySem.Spec PyProof.Rows


inductive V where
  | non | bl (b : Bool) | int (i : Int) | str (x : Str) | byt (b : Array UInt8) | flt (b : UInt64) | ref (a : Addr) | ty (n : String)
  deriving DecidableEq

noncomputable def RelV : V → Value → Prop
  | .non, u => u = Value.none
  | .bl b, u => u = Value.bool b
  | .int i, u => ∃ t, u = Value.int i t
  | .str x, u => ∃ t, u = Value.str x t
  | .byt b, u => ∃ t, u = Value.bytes b t
  | .flt b, u => ∃ t, u = Value.float b t
  | .ref a, u => u = Value.ref a
  | .ty n, u => u = Value.type n

noncomputable abbrev Vals : List V → List Value → Prop := Paired RelV
theorem Vals.length {xs : List V} {us : List Value} (r : Vals xs us) : xs.length = us.length := Paired.length r
theorem Vals.get : ∀ {xs : List V} {us : List Value} {i : Nat} {x : V}, Vals xs us → xs[i]? = some x → ∃ u, us[i]? = some u ∧ RelV x u
  | _, _, _, _, .nil, e => by simp at e
  | _, _, 0, _, .cons r _, e => by simp at e; subst e; exact ⟨_, rfl, r⟩
  | _, _, i + 1, x, .cons _ t, e => by
    obtain ⟨u, h1, h2⟩ := Vals.get (i := i) (x := x) t (by simpa using e)
    exact ⟨u, by simpa using h1, h2⟩
theorem Vals.append : ∀ {xs ys : List V} {us ws : List Value}, Vals xs us → Vals ys ws → Vals (xs ++ ys) (us ++ ws)
  | _, _, _, _, .nil, s => s
  | _, _, _, _, .cons r t, s => .cons r (Vals.append t s)
theorem Vals.take : ∀ {xs : List V} {us : List Value} (n : Nat), Vals xs us → Vals (xs.take n) (us.take n)
  | _, _, 0, _ => .nil
  | _, _, _ + 1, .nil => .nil
  | _, _, n + 1, .cons r t => .cons r (Vals.take n t)
theorem Vals.drop : ∀ {xs : List V} {us : List Value} (n : Nat), Vals xs us → Vals (xs.drop n) (us.drop n)
  | _, _, 0, r => r
  | _, _, _ + 1, .nil => .nil
  | _, _, n + 1, .cons _ t => Vals.drop n t
noncomputable def RelO : Option V → Option Value → Prop
  | some v, some u => RelV v u
  | none, none => True
  | _, _ => False
noncomputable def KV {κ : Type} : List (κ × V) → List (κ × Value) → Prop := Paired fun (p : κ × V) (q : κ × Value) => p.1 = q.1 ∧ RelV p.2 q.2


noncomputable def kV : Key → V
  | .inl i => .int i
  | .inr x => .str x


inductive HO where
  
  | lst (xs : List V)
  
  | tup (xs : List V)
  
  | dK (kvs : List (Key × V)) | dT (kvs : List (List Key × V))
  
  | set (S : Int → Bool) (n : Nat)
  
  | ins (C dx : Addr) (fs : List (Str × V))
  
  | own (x : Addr)
  
  | xd (fs : List (Str × V))
  
  | met (f x : Addr)
  
  | rng (lo hi : Int)
  
  | frz (o : Obj) (u : HO)
  
  | tbl (ps : Array Value)
  
  | ext (φ : Heap → Prop)

noncomputable abbrev Hp := Addr → Option HO
noncomputable def upd (H : Hp) (a : Addr) (o : HO) : Hp := fun b => if b = a then some o else H b
theorem upd_same {H : Hp} {a : Addr} {o : HO} : upd H a o a = some o := by unfold upd; rw [if_pos rfl]
theorem upd_ne {H : Hp} {a b : Addr} {o : HO} (h : b ≠ a) : upd H a o b = H b := by unfold upd; rw [if_neg h]
theorem ne_of {H : Hp} {a b : Addr} {o u : HO} (h : H a = some o) (h' : H b = some u) (d : o ≠ u) : a ≠ b := by
  intro e; subst e; rw [h] at h'; exact d (Option.some.inj h')
theorem ne_of_none {H : Hp} {a b : Addr} {o : HO} (h : H a = some o) (h' : H b = none) : a ≠ b := by
  intro e; subst e; rw [h] at h'; cases h'


noncomputable def IsTupN (h : Heap) (a : Addr) (items : Array Value) : Prop := ∃ o, h.get? a = some o ∧ o.cls = .type "tuple" ∧ o.dict = none ∧ ∃ n, o.data = .seq items n
theorem IsTupN.tup {h : Heap} {a : Addr} {items : Array Value} (x : IsTupN h a items) : IsTup h a items := let ⟨o, e, c, _, d⟩ := x; ⟨o, e, c, d⟩
theorem IsTupN.lt {h : Heap} {a : Addr} {items : Array Value} (x : IsTupN h a items) : a < h.objs.size := x.tup.lt
theorem IsTupN.new (h : Heap) (items : Array Value) : IsTupN (h.push { cls := .type "tuple", data := .seq items }) h.objs.size items := ⟨_, Heap.get?_push_size _ rfl, rfl, rfl, _, rfl⟩
section
variable (P : Program) (w : World)
noncomputable def ObjOk (H : Hp) (h : Heap) (a : Addr) : HO → Prop
  | .lst xs => xs.length ≤ sizeLine ∧ ∃ (its : List Value) (n : Nat), Vals xs its ∧ h.get? a = some { cls := .type "list", data := .seq its.toArray n }
  | .tup xs => xs.length ≤ sizeLine ∧ ∃ its : List Value, Vals xs its ∧ IsTupN h a its.toArray
  | .dK kvs => kvs.length ≤ sizeLine ∧ (a == sysModules) = false ∧ ∃ vs, KV kvs vs ∧ h.DictOf (mixKind P w) a vs
  | .dT kvs => kvs.length ≤ sizeLine ∧ (a == sysModules) = false ∧ ∃ xs : List (List Key × Addr × Value),
      Paired (fun (p : List Key × V) (q : List Key × Addr × Value) => p.1 = q.1 ∧ H q.2.1 = some (.tup (p.1.map kV)) ∧ RelV p.2 q.2.2) kvs xs ∧
      ∃ o es ep, h.get? a = some o ∧ o.ExactDict ∧ o.data = .dict es ep ∧ es.toList = xs.map (entryOfKey (tupleKind (mixKind P w))) ∧ (xs.map (·.1)).Nodup
  | .set S n => h.SetOf (intKind P w) a S n
  | .ins C dx fs => H dx = some (.own a) ∧ fs.length ≤ 1000 ∧ dx ≠ a ∧ h.get? a = some (PySem.W.instObj C dx) ∧
      ∃ mA, h.Ns1 dx mA ∧ (∀ f, RelO (fs.lookup f) (mA f)) ∧ PySem.Within mA (fs.map (·.1))
  | .own _ => ∃ o, h.get? a = some o
  | .xd fs => ∃ mA, h.Ns1 a mA ∧ ∀ f, RelO (fs.lookup f) (mA f)
  | .rng lo hi => ∃ t u v, h.get? a = some { cls := .type "range", data := .fields #[.int lo t, .int hi u, .int 1 v] }
  | .frz o u => h.get? a = some o ∧ ObjOk H h a u
  | .tbl ps => h.get? a = some { cls := .none, data := .fields ps }
  | .met f x => h.get? a = some (PySem.W.methodObj (.ref f) (.ref x))
  | .ext φ => φ h ∧ (∃ o, h.get? a = some o) ∧ ∀ h1 h2 : Heap, φ h1 → (∀ o, h1.get? a = some o → h2.get? a = some o) → φ h2

noncomputable def HOk (H : Hp) (h : Heap) : Prop := ∀ a o, H a = some o → ObjOk P w H h a o
end

section
variable {P : Program} {w : World} {H H' : Hp} {h h' : Heap} {a : Addr} {o : HO}
theorem ObjOk.lt (x : ObjOk P w H h a o) : a < h.objs.size := by
  cases o with
  | lst xs => obtain ⟨_, _, _, _, e⟩ := x; exact Heap.lt_size e
  | tup xs => obtain ⟨_, _, _, p⟩ := x; exact p.lt
  | dK kvs => obtain ⟨_, _, _, _, o, _, _, e, _⟩ := x; exact Heap.lt_size e
  | dT kvs => obtain ⟨_, _, _, _, o, _, _, e, _⟩ := x; exact Heap.lt_size e
  | set S n => obtain ⟨o, _, _, _, e, _⟩ := x; exact Heap.lt_size e
  | ins C dx fs => obtain ⟨_, _, _, e, _⟩ := x; exact Heap.lt_size e
  | own y => obtain ⟨_, e⟩ := x; exact Heap.lt_size e
  | xd fs => obtain ⟨_, ⟨_, _, _, e, _⟩, _⟩ := x; exact Heap.lt_size e
  | rng lo hi => obtain ⟨_, _, _, e⟩ := x; exact Heap.lt_size e
  | frz ob u => obtain ⟨e, _⟩ := x; exact Heap.lt_size e
  | tbl ps => exact Heap.lt_size (show h.get? a = some _ from x)
  | met f y => exact Heap.lt_size (show h.get? a = some _ from x)
  | ext φ => obtain ⟨_, ⟨_, e⟩, _⟩ := x; exact Heap.lt_size e
theorem Paired.mapP {α β : Type} {F G : α → β → Prop} : ∀ {l₁ : List α} {l₂ : List β}, Paired F l₁ l₂ → (∀ a b, F a b → G a b) → Paired G l₁ l₂
  | _, _, .nil, _ => .nil
  | _, _, .cons r t, f => .cons (f _ _ r) (Paired.mapP t f)
theorem ObjOk.stay (x : ObjOk P w H h a o) (k : ∀ b u, (b = a ∨ H b = some (.own a)) → h.get? b = some u → h'.get? b = some u)
    (ho : ∀ b, H b = some (.own a) → H' b = some (.own a)) (ht : ∀ b xs, H b = some (.tup xs) → H' b = some (.tup xs)) : ObjOk P w H' h' a o := by
  induction o with
  | lst xs => obtain ⟨z, its, n, r, e⟩ := x; exact ⟨z, its, n, r, k _ _ (.inl rfl) e⟩
  | tup xs => obtain ⟨z, its, r, ob, e, c⟩ := x; exact ⟨z, its, r, ob, k _ _ (.inl rfl) e, c⟩
  | dK kvs => obtain ⟨z, y, vs, r, ob, es, ep, e, c⟩ := x; exact ⟨z, y, vs, r, ob, es, ep, k _ _ (.inl rfl) e, c⟩
  | dT kvs =>
    obtain ⟨z, y, xs, r, ob, es, ep, e, c⟩ := x
    exact ⟨z, y, xs, Paired.mapP r fun p q z => ⟨z.1, ht _ _ z.2.1, z.2.2⟩, ob, es, ep, k _ _ (.inl rfl) e, c⟩
  | set S n => obtain ⟨ob, es, ep, t, e, c⟩ := x; exact ⟨ob, es, ep, t, k _ _ (.inl rfl) e, c⟩
  | ins C dx fs =>
    obtain ⟨d, z, ne, e, mA, ⟨od, es, ep, e2, c⟩, r⟩ := x
    exact ⟨ho _ d, z, ne, k _ _ (.inl rfl) e, mA, ⟨od, es, ep, k _ _ (.inr d) e2, c⟩, r⟩
  | own y => obtain ⟨ob, e⟩ := x; exact ⟨ob, k _ _ (.inl rfl) e⟩
  | xd fs => obtain ⟨mA, ⟨od, es, ep, e, c⟩, r⟩ := x; exact ⟨mA, ⟨od, es, ep, k _ _ (.inl rfl) e, c⟩, r⟩
  | rng lo hi => obtain ⟨t, u, v, e⟩ := x; exact ⟨t, u, v, k _ _ (.inl rfl) e⟩
  | frz ob u ih => obtain ⟨e, q⟩ := x; exact ⟨k _ _ (.inl rfl) e, ih q⟩
  | tbl ps =>
    have e : h.get? a = some { cls := .none, data := .fields ps } := x
    show h'.get? a = some { cls := .none, data := .fields ps }
    exact k a _ (.inl rfl) e
  | met f y =>
    have e : h.get? a = some (PySem.W.methodObj (.ref f) (.ref y)) := x
    show h'.get? a = some (PySem.W.methodObj (.ref f) (.ref y))
    exact k a _ (.inl rfl) e
  | ext φ => obtain ⟨p, ⟨o, e⟩, st⟩ := x; exact ⟨st _ _ p fun o q => k _ _ (.inl rfl) q, ⟨o, k _ _ (.inl rfl) e⟩, st⟩
theorem HOk.lt (x : HOk P w H h) (e : H a = some o) : a < h.objs.size := (x a o e).lt
theorem HOk.fresh (x : HOk P w H h) (e : h.objs.size ≤ a) : H a = none := by
  cases q : H a with
  | none => rfl
  | some u => exact absurd (Nat.lt_of_lt_of_le (x.lt q) e) (Nat.lt_irrefl _)

theorem HOk.kept (x : HOk P w H h) (k : ∀ b u, h.get? b = some u → h'.get? b = some u) : HOk P w H h' := fun a o e =>
  (x a o e).stay (fun b u _ q => k b u q) (fun _ q => q) fun _ _ q => q

theorem HOk.laid (x : HOk P w H h) (k : ∀ b u, h.get? b = some u → h'.get? b = some u) (hp : h.objs.size ≤ a) (new : ObjOk P w (upd H a o) h' a o) : HOk P w (upd H a o) h' := fun b u e => by
  have hn := x.fresh hp
  by_cases hb : b = a
  · subst hb; rw [upd_same] at e; cases e; exact new
  · rw [upd_ne hb] at e
    exact (x b u e).stay (fun c v _ q => k c v q) (fun c q => by rw [upd_ne (ne_of_none q hn)]; exact q) fun c xs q => by rw [upd_ne (ne_of_none q hn)]; exact q
end


noncomputable def Rd (H : Hp) (a : Addr) (u : HO) : Prop := H a = some u ∨ ∃ o, H a = some (.frz o u)
theorem Rd.ok {P : Program} {w : World} {H : Hp} {h : Heap} {a : Addr} {u : HO} (r : Rd H a u) (x : HOk P w H h) : ObjOk P w H h a u := by
  rcases r with r | ⟨o, r⟩
  · exact x a u r
  · obtain ⟨_, q⟩ := x a _ r
    exact q

noncomputable def Mut : Option HO → Prop
  | some (.lst _) => True
  | some (.dK _) => True
  | some (.dT _) => True
  | some (.set _ _) => True
  | some (.ins _ _ _) => True
  | some (.ext _) => True
  | _ => False
section
variable {P : Program} {w : World} {H : Hp} {h h' : Heap} {x e : Addr} {o' : HO}

theorem HOk.write (ok : HOk P w H h) (mu : Mut (H x)) (he : e = x ∨ H e = some (.own x)) (k : ∀ b u, b ≠ e → h.get? b = some u → h'.get? b = some u) (heo : ∃ u, h'.get? e = some u)
    (new : ObjOk P w (upd H x o') h' x o') : HOk P w (upd H x o') h' := fun b u q => by
  have nown : ∀ c y, H c = some (.own y) → c ≠ x := fun c y r z => by subst z; rw [r] at mu; exact mu
  have ntup : ∀ c xs, H c = some (.tup xs) → c ≠ x := fun c xs r z => by subst z; rw [r] at mu; exact mu
  by_cases hb : b = x
  · subst hb; rw [upd_same] at q; cases q; exact new
  · rw [upd_ne hb] at q
    by_cases hbe : b = e
    · have q' : H b = some (.own x) := by
        rcases he with z | z
        · exact absurd (hbe.trans z) hb
        · rw [hbe]; exact z
      rw [q] at q'; cases q'
      obtain ⟨v, hv⟩ := heo
      exact ⟨v, by rw [hbe]; exact hv⟩
    · refine (ok b u q).stay (fun c v hc r => k c v ?_ r) (fun c r => by rw [upd_ne (nown c b r)]; exact r) fun c xs r => by rw [upd_ne (ntup c xs r)]; exact r
      rcases hc with rfl | hc
      · exact hbe
      · rintro rfl
        rcases he with z | z
        · exact nown c b hc z
        · rw [hc] at z; cases z; exact hb rfl
end


structure Un (fs ex : List Addr) (H H' : Hp) (h h' : Heap) : Prop where
  keep : ∀ b o, h.get? b = some o → H b = none → b ∉ fs → b ∉ ex → h'.get? b = some o
  slot : ∀ b o, h.get? b = some o → H b = none → b ∈ fs → b ∉ ex → ∃ sl, h'.get? b = some { o with slots := sl }
  free : ∀ b o, h.get? b = some o → H b = none → b ∉ ex → H' b = none
  there : ∀ b o, h.get? b = some o → b ∉ ex → ∃ o', h'.get? b = some o'
  tups : ∀ b xs, H b = some (.tup xs) → H' b = some (.tup xs)
  frzs : ∀ b o u, H b = some (.frz o u) → H' b = some (.frz o u)
  tbls : ∀ b ps, H b = some (.tbl ps) → ∃ more, H' b = some (.tbl (ps ++ more))
section
variable {fs fs' ex ex' : List Addr} {H H1 H2 : Hp} {h h1 h2 h' : Heap} {a x e : Addr} {o : HO}
theorem Un.any (u : Un fs ex H H1 h h1) {b : Addr} {ob : Obj} (q : h.get? b = some ob) (n : H b = none) (hx : b ∉ ex) : ∃ sl, h1.get? b = some { ob with slots := sl } := by
  by_cases hb : b ∈ fs
  · exact u.slot b ob q n hb hx
  · exact ⟨ob.slots, u.keep b ob q n hb hx⟩
theorem Un.kept (k : ∀ b u, h.get? b = some u → h'.get? b = some u) : Un fs ex H H h h' :=
  ⟨fun b ob q _ _ _ => k b ob q, fun b ob q _ _ _ => ⟨ob.slots, k b ob q⟩, fun _ _ _ n _ => n, fun b ob q _ => ⟨ob, k b ob q⟩, fun _ _ q => q, fun _ _ _ q => q, fun _ ps q => ⟨#[], by rw [q]; simp⟩⟩
theorem Un.refl : Un fs ex H H h h := Un.kept fun _ _ q => q
theorem Un.laid (k : ∀ b u, h.get? b = some u → h'.get? b = some u) (hp : h.objs.size ≤ a) (hn : H a = none) : Un fs ex H (upd H a o) h h' where
  keep := fun b u q _ _ _ => k b u q
  slot := fun b u q _ _ _ => ⟨u.slots, k b u q⟩
  free := fun b u q n _ => by rw [upd_ne (Nat.ne_of_lt (Nat.lt_of_lt_of_le (Heap.lt_size q) hp))]; exact n
  there := fun b u q _ => ⟨u, k b u q⟩
  tups := fun b xs q => by rw [upd_ne (ne_of_none q hn)]; exact q
  frzs := fun b u xs q => by rw [upd_ne (ne_of_none q hn)]; exact q
  tbls := fun b ps q => ⟨#[], by rw [upd_ne (ne_of_none q hn), q]; simp⟩
theorem Un.write (mu : Mut (H x)) (he : e = x ∨ H e = some (.own x)) (k : ∀ b u, b ≠ e → h.get? b = some u → h'.get? b = some u) (heo : ∃ u, h'.get? e = some u) : Un fs ex H (upd H x o) h h' := by
  have hx : ∀ b, H b = none → b ≠ x := fun b n z => by subst z; rw [n] at mu; exact mu
  have hb : ∀ b, H b = none → b ≠ e := fun b n z => by
    subst z
    rcases he with r | r
    · exact hx b n r
    · rw [n] at r; cases r
  have hm : ∀ b u, H b = some u → ¬ Mut (some u) → b ≠ x := fun b u q nm z => by subst z; rw [q] at mu; exact nm mu
  refine ⟨fun b u q n _ _ => k b u (hb b n) q, fun b u q n _ _ => ⟨u.slots, k b u (hb b n) q⟩, fun b u q n _ => by rw [upd_ne (hx b n)]; exact n, fun b u q _ => ?_,
    fun b xs q => by rw [upd_ne (hm b _ q fun z => z)]; exact q, fun b u xs q => by rw [upd_ne (hm b _ q fun z => z)]; exact q, fun b ps q => ⟨#[], by rw [upd_ne (hm b _ q fun z => z), q]; simp⟩⟩
  by_cases hbe : b = e
  · subst hbe; exact heo
  · exact ⟨u, k b u hbe q⟩
end


noncomputable def trk (h : Heap) (H : Hp) : List Addr := (List.range h.objs.size).filter fun a => (H a).isSome
noncomputable def hidT (h : Heap) (H : Hp) : Heap := PySem.W.hideAll h (trk h H)
theorem hidT_size (h : Heap) (H : Hp) : (hidT h H).objs.size = h.objs.size := PySem.W.hideAll_size _ _
theorem hidT_get {h : Heap} {H : Hp} {b : Addr} {o : Obj} (e : h.get? b = some o) (n : H b = none) : (hidT h H).get? b = some o :=
  PySem.W.hideAll_get _ e fun hm => by
    have q : (H b).isSome = true := (List.mem_filter.mp hm).2
    rw [n] at q; simp at q
theorem of_hidT {h : Heap} {H : Hp} {b : Addr} {o : Obj} (e : (hidT h H).get? b = some o) : h.get? b = some o ∧ H b = none := by
  have e' : h.get? b = some o := PySem.W.of_hideAll (trk h H) e
  refine ⟨e', ?_⟩
  cases q : H b with
  | none => rfl
  | some x =>
    have hm : b ∈ trk h H := List.mem_filter.mpr ⟨List.mem_range.mpr (Heap.lt_size e'), by simp [q]⟩
    have z : (hidT h H).get? b = none := PySem.W.hideAll_none (trk h H) hm
    rw [z] at e; cases e


noncomputable def allNews (g h : Heap) (L : Addr) : List (Addr × Obj) := (List.range h.objs.size).filterMap fun a => if a = L ∨ (g.get? a).isSome = true then none else (h.get? a).map fun o => (a, o)
noncomputable def rest (g h : Heap) (L d : Addr) : List (Addr × Obj) := (allNews g h L).filter fun p => decide (p.1 ≠ d)
end L2

namespace L2
open PySem PySem.Spec PyProof.Rows


structure Mod (K : PySem.W.Frag) (mg : Str → Option Value) (base : Heap) : Prop where
  kin : K.In base
  glob : base.Ns mainGlobals mg
  blt : ∃ mb, base.Ns builtinsNs mb ∧ ∀ x : Str, x ≠ "__name__" → mb x = bootBuiltins x
  nolimit : base.NoLimit


structure Cx where
  prog : Program
  w : World
  K : PySem.W.Frag
  mg : Str → Option Value
  base : Heap
  A : Around
  N : List Str
  s₀ : Shared
  H₀ : Hp
  env : Env
  outer : List Env
  stack : List Env
  ex : List Addr
  fn : Str → Bool
  calm : Bool
  pn : List (Addr × Obj)
  xe : Value → Shared → Prop

noncomputable def frs (l : List Env) : List Addr := l.filterMap (·.frame)
noncomputable abbrev Cx.fs (X : Cx) : List Addr := frs X.outer

noncomputable def Vis (sc : Scope) (x : Str) : Prop := sc.names.lookup x = some .local ∨ sc.names.lookup x = some .cell ∨ sc.names.lookup x = some .free
noncomputable def Loc (sc : Scope) (x : Str) : Prop := sc.names.lookup x = some .local ∨ sc.names.lookup x = some .cell
noncomputable def Look (env : Env) (h : Heap) (m : Str → Option Value) (x : Str) (u : Value) : Prop :=
  (env.kindOf x = some .local ∧ m x = some u) ∨ ((env.kindOf x = some .cell ∨ env.kindOf x = some .free) ∧ ∃ c, env.cells.lookup x = some c ∧ h.IsCell c (some u))

structure Cx.Ok (X : Cx) : Prop where
  mod : Mod X.K X.mg X.base
  kind : X.env.scope.kind = .function
  glob : X.env.globals = mainGlobals
  blt : X.env.builtins = builtinsNs
  above : X.s₀.heap.objs.size ≤ X.env.locals
  inj : ∀ x y c, X.env.cells.lookup x = some c → X.env.cells.lookup y = some c → x = y
  has : ∀ x, (X.env.kindOf x = some .cell ∨ X.env.kindOf x = some .free) → ∃ c, X.env.cells.lookup x = some c
  cab : ∀ x c, X.fn x = true → X.env.cells.lookup x = some c → X.s₀.heap.objs.size ≤ c
  hd : X.calm = true → X.A.handled = none
  frames : X.A.frames = some X.stack
  stk : X.stack = X.outer ∨ (X.stack = X.env :: X.outer ∧ X.env.frame = some X.env.locals)
  exf : ∀ b ∈ X.ex, b ≠ X.env.locals ∧ ∀ x c, X.env.cells.lookup x = some c → c ≠ b
  bs : ∀ b o, X.base.get? b = some o → X.s₀.heap.get? b = some o ∧ X.H₀ b = none
  bsz : X.base.objs.size ≤ X.s₀.heap.objs.size
  noex : ∀ b o, X.base.get? b = some o → b ∉ X.ex
  exfs : ∀ b ∈ X.ex, b ∉ X.fs
  funs : X.s₀.heap.FunFrames X.base X.outer
  frf : ∀ b ∈ X.fs, X.H₀ b = none

structure Inv (X : Cx) (pins : List (Addr × Obj)) (σ : List (Option V)) (H : Hp) (s : Shared) : Prop where
  ok : X.Ok
  os : s.os = X.s₀.os
  bare : AllBare s.gens
  base : Un X.fs X.ex X.H₀ H X.s₀.heap s.heap
  loc : ∃ m, s.heap.Ns X.env.locals m ∧ ∀ (i : Nat) (x : Str) (v : V), X.N[i]? = some x → σ[i]? = some (some v) → Vis X.env.scope x → ∃ u, RelV v u ∧ Look X.env s.heap m x u
  cell : ∀ x c, X.env.cells.lookup x = some c → ∃ v, s.heap.IsCell c v
  free : H X.env.locals = none
  freeC : ∀ x c, X.env.cells.lookup x = some c → H c = none
  pin : ∀ p ∈ X.pn ++ pins, s.heap.get? p.1 = some p.2 ∧ H p.1 = none ∧ p.1 ≠ X.env.locals ∧ p.1 ∉ X.fs ∧ ∀ v, p.2.data ≠ .cell v
  hok : HOk X.prog X.w H s.heap
  len : σ.length = X.N.length

section
variable {X : Cx} {pins : List (Addr × Obj)} {σ : List (Option V)} {H H' : Hp} {s : Shared} {h' : Heap}

theorem Cx.Ok.nofr (ok : X.Ok) {b : Addr} {o : Obj} (e : X.base.get? b = some o) : b ∉ X.fs := fun hb => by
  have := (ok.funs.mem hb).1
  rw [e] at this; cases this
theorem Inv.bs (I : Inv X pins σ H s) : ∀ b o, X.base.get? b = some o → s.heap.get? b = some o ∧ H b = none := fun b o e =>
  ⟨I.base.keep b o (I.ok.bs b o e).1 (I.ok.bs b o e).2 (I.ok.nofr e) (I.ok.noex b o e), I.base.free b o (I.ok.bs b o e).1 (I.ok.bs b o e).2 (I.ok.noex b o e)⟩
theorem Inv.bk (I : Inv X pins σ H s) : ∀ b o, X.base.get? b = some o → s.heap.get? b = some o := fun b o e => (I.bs b o e).1
theorem Inv.mod (I : Inv X pins σ H s) : Mod X.K X.mg X.base := I.ok.mod
theorem Inv.kIn (I : Inv X pins σ H s) : X.K.In s.heap := I.ok.mod.kin.keeps I.bk
theorem Inv.lt (I : Inv X pins σ H s) : X.env.locals < s.heap.objs.size := let ⟨_, hn, _⟩ := I.loc; hn.lt
theorem Inv.sz (I : Inv X pins σ H s) : X.s₀.heap.objs.size ≤ s.heap.objs.size := Nat.le_trans I.ok.above (Nat.le_of_lt I.lt)
theorem Inv.nofs (I : Inv X pins σ H s) {a : Addr} (h : s.heap.objs.size ≤ a) : a ∉ X.fs := fun hb => by
  obtain ⟨_, o, ho, _⟩ := I.ok.funs.mem hb
  exact absurd (Nat.lt_of_lt_of_le (Heap.lt_size ho) (Nat.le_trans I.sz h)) (Nat.lt_irrefl _)
theorem Inv.cne (I : Inv X pins σ H s) : ∀ x c, X.env.cells.lookup x = some c → c ≠ X.env.locals := fun x c e z => by
  obtain ⟨v, o, ho, hd⟩ := I.cell x c e
  obtain ⟨m, ⟨o', es, ep, ho', hd', _⟩, _⟩ := I.loc
  rw [z, ho'] at ho; cases ho; rw [hd'] at hd; cases hd
theorem Inv.funs (I : Inv X pins σ H s) : s.heap.FunFrames X.base X.outer := by
  have all : ∀ (l : List Env), (∀ b ∈ frs l, b ∈ X.fs) → X.s₀.heap.FunFrames X.base l → s.heap.FunFrames X.base l := by
    intro l
    induction l with
    | nil => intro _ _; trivial
    | cons env r ih =>
      intro hs hl
      obtain ⟨hk, ⟨L, o, hf, hn, ho, hd⟩, hr⟩ := hl
      have hL : L ∈ X.fs := hs L (by unfold frs; rw [List.filterMap_cons, hf]; exact List.mem_cons_self)
      obtain ⟨sl, e⟩ := I.base.slot L o ho (I.ok.frf L hL) hL fun z => I.ok.exfs L z hL
      exact ⟨hk, ⟨L, _, hf, hn, e, hd⟩, ih (fun b hb => hs b (by unfold frs; rw [List.filterMap_cons, hf]; exact List.mem_cons_of_mem _ hb)) hr⟩
  exact all X.outer (fun _ hb => hb) I.ok.funs


theorem Inv.stack (I : Inv X pins σ H s) : s.heap.FunFrames X.base X.stack := by
  rcases I.ok.stk with e | ⟨e, hf⟩
  · rw [e]; exact I.funs
  · rw [e]
    obtain ⟨m, hn, _⟩ := I.loc
    refine .cons (by rw [I.ok.kind]; decide) hf hn ?_ I.funs
    exact Heap.get?_none_of_le (Nat.le_trans I.ok.bsz I.ok.above)
theorem Inv.stkSub (I : Inv X pins σ H s) : ∀ b ∈ frs X.stack, b ∈ X.env.locals :: X.fs := fun b hb => by
  rcases I.ok.stk with e | ⟨e, hf⟩
  · rw [e] at hb; exact List.mem_cons_of_mem _ hb
  · rw [e] at hb
    unfold frs at hb
    rw [List.filterMap_cons, hf] at hb
    exact hb
theorem Inv.stkFree (I : Inv X pins σ H s) : ∀ b ∈ frs X.stack, H b = none := fun b hb => by
  rcases List.mem_cons.mp (I.stkSub b hb) with e | hb
  · rw [e]; exact I.free
  · obtain ⟨_, o, ho, _⟩ := I.ok.funs.mem hb
    exact I.base.free b o ho (I.ok.frf b hb) fun z => I.ok.exfs b z hb


theorem Inv.step {g' : Array GenState} {t' : Nat} {d' : Drawn} {ch : List Addr} (I : Inv X pins σ H s)
    (hch : ∀ b ∈ ch, (b ∈ X.ex ∨ X.s₀.heap.objs.size ≤ b) ∧ b ≠ X.env.locals ∧ (∀ x c, X.env.cells.lookup x = some c → c ≠ b) ∧ ∀ p ∈ X.pn ++ pins, p.1 ≠ b)
    (keep : ∀ b o, b ≠ X.env.locals → b ∉ X.fs → b ∉ ch → s.heap.get? b = some o → H b = none → h'.get? b = some o)
    (slot : ∀ b o, b ≠ X.env.locals → b ∈ X.fs → b ∉ ch → s.heap.get? b = some o → H b = none → ∃ sl, h'.get? b = some { o with slots := sl }) (free : ∀ b o, b ∉ ch → s.heap.get? b = some o → H b = none → H' b = none)
    (there : ∀ b o, b ∉ ch → s.heap.get? b = some o → ∃ o', h'.get? b = some o')
    (tups : ∀ b xs, H b = some (.tup xs) → H' b = some (.tup xs)) (frzs : ∀ b o u, H b = some (.frz o u) → H' b = some (.frz o u)) (tbls : ∀ b ps, H b = some (.tbl ps) → ∃ more, H' b = some (.tbl (ps ++ more)))
    (ns : ∀ m, s.heap.Ns X.env.locals m → h'.Ns X.env.locals m) (hok : HOk X.prog X.w H' h') (hg : AllBare g') :
    Inv X pins σ H' { s with heap := h', gens := g', drawn := d', toks := t' } := by
  have neL : ∀ b o, X.s₀.heap.get? b = some o → b ≠ X.env.locals := fun b o e => Nat.ne_of_lt (Nat.lt_of_lt_of_le (Heap.lt_size e) I.ok.above)
  have neC : ∀ b o, X.s₀.heap.get? b = some o → b ∉ X.ex → b ∉ ch := fun b o e hx hb => by
    rcases (hch b hb).1 with z | z
    · exact hx z
    · exact absurd (Nat.lt_of_lt_of_le (Heap.lt_size e) z) (Nat.lt_irrefl _)
  have cellK : ∀ x c, X.env.cells.lookup x = some c → ∀ v, s.heap.IsCell c v → h'.IsCell c v := fun x c e v ⟨o, ho, hd⟩ => by
    have nch : c ∉ ch := fun z => (hch c z).2.2.1 x c e rfl
    by_cases hc : c ∈ X.fs
    · obtain ⟨sl, q⟩ := slot c o (I.cne x c e) hc nch ho (I.freeC x c e)
      exact ⟨_, q, hd⟩
    · exact ⟨o, keep c o (I.cne x c e) hc nch ho (I.freeC x c e), hd⟩
  refine ⟨I.ok, I.os, hg, ⟨fun b o e n hb hx => ?_, fun b o e n hb hx => ?_, fun b o e n hx => ?_, fun b o e hx => ?_, fun b xs e => tups b xs (I.base.tups b xs e), fun b o xs e => frzs b o xs (I.base.frzs b o xs e), fun b ps e => ?_⟩, ?_, fun x c e => ?_, ?_, fun x c e => ?_, fun p hp => ?_, hok, I.len⟩
  · exact keep b o (neL b o e) hb (neC b o e hx) (I.base.keep b o e n hb hx) (I.base.free b o e n hx)
  · obtain ⟨sl, e1⟩ := I.base.slot b o e n hb hx
    obtain ⟨sl', e2⟩ := slot b _ (neL b o e) hb (neC b o e hx) e1 (I.base.free b o e n hx)
    exact ⟨sl', e2⟩
  · obtain ⟨o', e1⟩ := I.base.there b o e hx
    exact free b o' (neC b o e hx) e1 (I.base.free b o e n hx)
  · obtain ⟨o', e1⟩ := I.base.there b o e hx
    exact there b o' (neC b o e hx) e1
  · obtain ⟨m1, e1⟩ := I.base.tbls b ps e
    obtain ⟨m2, e2⟩ := tbls b _ e1
    exact ⟨m1 ++ m2, by rw [e2, Array.append_assoc]⟩
  · obtain ⟨m, hn, hl⟩ := I.loc
    refine ⟨m, ns m hn, fun i x v e1 e2 e3 => ?_⟩
    obtain ⟨u, r, l⟩ := hl i x v e1 e2 e3
    refine ⟨u, r, ?_⟩
    rcases l with l | ⟨k, c, e, z⟩
    · exact .inl l
    · exact .inr ⟨k, c, e, cellK x c e _ z⟩
  · obtain ⟨v, z⟩ := I.cell x c e
    exact ⟨v, cellK x c e v z⟩
  · obtain ⟨m, ⟨o, _, _, ho, _⟩, _⟩ := I.loc
    exact free _ o (fun z => (hch _ z).2.1 rfl) ho I.free
  · obtain ⟨v, o, ho, hd⟩ := I.cell x c e
    exact free c o (fun z => (hch c z).2.2.1 x c e rfl) ho (I.freeC x c e)
  · obtain ⟨e, n, ne, nf, d⟩ := I.pin p hp
    have nch : p.1 ∉ ch := fun z => (hch p.1 z).2.2.2 p hp rfl
    exact ⟨keep p.1 p.2 ne nf nch e n, free p.1 p.2 nch e n, ne, nf, d⟩

theorem Inv.un {t' : Nat} (I : Inv X pins σ H s) (u : Un X.fs [] H H' s.heap h') (hok : HOk X.prog X.w H' h') : Inv X pins σ H' { s with heap := h', toks := t' } := by
  obtain ⟨m, ⟨o, es, ep, ho, r⟩, _⟩ := id I.loc
  obtain ⟨sl, hL⟩ := u.any ho I.free (by simp)
  exact I.step (g' := s.gens) (d' := s.drawn) (ch := []) (fun _ z => nomatch z) (fun b o _ hb _ e n => u.keep b o e n hb (by simp)) (fun b o _ hb _ e n => u.slot b o e n hb (by simp)) (fun b o _ e n => u.free b o e n (by simp)) (fun b o _ e => u.there b o e (by simp)) u.tups u.frzs u.tbls (fun m' hm => by
    obtain ⟨o', es', ep', ho', r'⟩ := hm
    rw [ho] at ho'; cases ho'
    exact ⟨_, es', ep', hL, r'⟩) hok I.bare

theorem Inv.call {g' : Array GenState} {t' : Nat} {d' : Drawn} {ch : List Addr} (I : Inv X pins σ H s) (u : Un (frs X.stack) ch H H' s.heap h') (hok : HOk X.prog X.w H' h') (hg : AllBare g')
    (hch : ∀ b ∈ ch, (b ∈ X.ex ∨ X.s₀.heap.objs.size ≤ b) ∧ b ≠ X.env.locals ∧ (∀ x c, X.env.cells.lookup x = some c → c ≠ b) ∧ ∀ p ∈ X.pn ++ pins, p.1 ≠ b) :
    Inv X pins σ H' { s with heap := h', gens := g', drawn := d', toks := t' } := by
  obtain ⟨m, ⟨o, es, ep, ho, r⟩, _⟩ := id I.loc
  obtain ⟨sl, hL⟩ := u.any ho I.free fun z => (hch _ z).2.1 rfl
  exact I.step (ch := ch) hch (fun b o hL hb hc e n => u.keep b o e n (fun z => (List.mem_cons.mp (I.stkSub b z)).elim hL hb) hc) (fun b o _ _ hc e n => u.any e n hc) (fun b o hc e n => u.free b o e n hc) (fun b o hc e => u.there b o e hc) u.tups u.frzs u.tbls (fun m' hm => by
    obtain ⟨o', es', ep', ho', r'⟩ := hm
    rw [ho] at ho'; cases ho'
    exact ⟨_, es', ep', hL, r'⟩) hok hg

theorem Inv.turned {t' : Nat} {it : Addr} (I : Inv X pins σ H s) (k : ∀ b o, b ≠ it → s.heap.get? b = some o → h'.get? b = some o) (hn : H it = none) (hL : it ≠ X.env.locals)
    (h1 : it ∈ X.ex ∨ X.s₀.heap.objs.size ≤ it) (h2 : ∀ x c, X.env.cells.lookup x = some c → c ≠ it) (h3 : ∀ p ∈ X.pn ++ pins, p.1 ≠ it) : Inv X pins σ H { s with heap := h', toks := t' } := by
  have nit : ∀ b u, H b = some u → b ≠ it := fun b u e z => by rw [z, hn] at e; cases e
  refine I.step (g' := s.gens) (d' := s.drawn) (ch := [it]) (fun b hb => ?_) (fun b o _ _ hc e _ => k b o (fun z => hc (by simp [z])) e) (fun b o _ _ hc e _ => ⟨o.slots, k b o (fun z => hc (by simp [z])) e⟩) (fun _ _ _ _ n => n)
    (fun b o hc e => ⟨o, k b o (fun z => hc (by simp [z])) e⟩) (fun _ _ e => e) (fun _ _ _ e => e) (fun b ps e => ⟨#[], by rw [e]; simp⟩) (fun m hm => ?_) (fun b u e => ?_) I.bare
  · have e : b = it := by simpa using hb
    subst e
    exact ⟨h1, hL, h2, h3⟩
  · obtain ⟨o, es, ep, ho, r⟩ := hm
    exact ⟨o, es, ep, k _ o (Ne.symm hL) ho, r⟩
  · refine (I.hok b u e).stay (fun c v hc q => k c v ?_ q) (fun _ q => q) fun _ _ q => q
    rcases hc with z | z
    · rw [z]; exact nit b u e
    · exact nit c _ z
theorem Inv.tok (I : Inv X pins σ H s) (t : Nat) : Inv X pins σ H { s with toks := t } := I.un (h' := s.heap) (t' := t) Un.refl I.hok

theorem Inv.kept {t' : Nat} (I : Inv X pins σ H s) (k : ∀ b u, s.heap.get? b = some u → h'.get? b = some u) : Inv X pins σ H { s with heap := h', toks := t' } := I.un (Un.kept k) (I.hok.kept k)

theorem Inv.laid {a : Addr} {o : HO} {t' : Nat} (I : Inv X pins σ H s) (k : ∀ b u, s.heap.get? b = some u → h'.get? b = some u) (hp : s.heap.objs.size ≤ a) (new : ObjOk X.prog X.w (upd H a o) h' a o) :
    Inv X pins σ (upd H a o) { s with heap := h', toks := t' } := I.un (Un.laid k hp (I.hok.fresh hp)) (I.hok.laid k hp new)

theorem Inv.write {x e : Addr} {o : HO} {t' : Nat} (I : Inv X pins σ H s) (mu : Mut (H x)) (he : e = x ∨ H e = some (.own x)) (k : ∀ b u, b ≠ e → s.heap.get? b = some u → h'.get? b = some u) (heo : ∃ u, h'.get? e = some u)
    (new : ObjOk X.prog X.w (upd H x o) h' x o) : Inv X pins σ (upd H x o) { s with heap := h', toks := t' } := I.un (Un.write mu he k heo) (I.hok.write mu he k heo new)

theorem Inv.pins_of {pins' : List (Addr × Obj)} (I : Inv X pins σ H s) (h : ∀ p ∈ pins', s.heap.get? p.1 = some p.2 ∧ H p.1 = none ∧ p.1 ≠ X.env.locals ∧ p.1 ∉ X.fs ∧ ∀ v, p.2.data ≠ .cell v) : Inv X pins' σ H s :=
  ⟨I.ok, I.os, I.bare, I.base, I.loc, I.cell, I.free, I.freeC, fun p hp => (List.mem_append.mp hp).elim (fun z => I.pin p (List.mem_append_left _ z)) (h p), I.hok, I.len⟩

theorem nodup_ix {N : List Str} (hN : N.Nodup) {i j : Nat} {x : Str} (a : N[i]? = some x) (b : N[j]? = some x) : i = j := by
  obtain ⟨h1, e1⟩ := List.getElem?_eq_some_iff.mp a
  obtain ⟨h2, e2⟩ := List.getElem?_eq_some_iff.mp b
  exact (List.getElem_inj hN).mp (e1.trans e2.symm)


theorem store_ok2 {M : Model} {A : Around} {E : Value → Shared → Prop} {i : Nat} {x : Str} {v : V} {u : Value} {Q : Unit → Shared → Prop} (I : Inv X pins σ H s) (hN : X.N.Nodup) (hi : X.N[i]? = some x) (hx : Loc X.env.scope x) (r : RelV v u)
    (h : ∀ s', Inv X pins (σ.set i (some v)) H s' → (∃ a, Heap.SameBut a s.heap s'.heap ∧ (a = X.env.locals ∨ X.env.cells.lookup x = some a)) → Q () s') (hf : X.fn x = true ∨ X.env.scope.names.lookup x = some .local := by first | exact .inl rfl | exact .inr rfl | assumption) : wpAny M A (storeName X.env x u) Q E s := by
  obtain ⟨m, hn, hl⟩ := id I.loc
  have hcls : (X.env.scope.kind == .class || (X.env.scope.kind == .module && X.env.locals != X.env.globals)) = false := by rw [I.ok.kind]; rfl
  have hiσ : i < σ.length := by rw [I.len]; exact (List.getElem?_eq_some_iff.mp hi).1
  have cne := I.cne
  have tracked : ∀ {a : Addr} {h' : Heap}, (∃ o, s.heap.get? a = some o ∧ H a = none) → Heap.SameBut a s.heap h' → HOk X.prog X.w H h' := fun {a h'} ha hs b ob e => by
    obtain ⟨_, _, hfree⟩ := ha
    refine (I.hok b ob e).stay (fun c w' hc q => (hs.2 c ?_).trans q) (fun _ q => q) fun _ _ q => q
    rintro rfl
    rcases hc with rfl | hc
    · rw [hfree] at e; cases e
    · rw [hfree] at hc; cases hc
  rcases hx with hk | hk
  · refine wpAny_storeName_local hk hn (fun h' hn' hs => ?_) hcls
    obtain ⟨oL, _, _, hoL, _⟩ := id hn
    refine h _ ⟨I.ok, I.os, I.bare, ⟨fun b o e n hb hx => ?_, fun b o e n hb hx => ?_, I.base.free, fun b o e hx => ?_, I.base.tups, I.base.frzs, I.base.tbls⟩, ⟨_, hn', fun j y v' e1 e2 e3 => ?_⟩, fun y c e => ?_, I.free, I.freeC, fun p hp => ?_, tracked ⟨oL, hoL, I.free⟩ hs, by simpa using I.len⟩ ⟨_, hs, .inl rfl⟩
    · exact (hs.2 b (Nat.ne_of_lt (Nat.lt_of_lt_of_le (Heap.lt_size e) I.ok.above))).trans (I.base.keep b o e n hb hx)
    · obtain ⟨sl, e1⟩ := I.base.slot b o e n hb hx
      exact ⟨sl, (hs.2 b (Nat.ne_of_lt (Nat.lt_of_lt_of_le (Heap.lt_size e) I.ok.above))).trans e1⟩
    · obtain ⟨o', e1⟩ := I.base.there b o e hx
      exact ⟨o', (hs.2 b (Nat.ne_of_lt (Nat.lt_of_lt_of_le (Heap.lt_size e) I.ok.above))).trans e1⟩
    · by_cases hj : j = i
      · subst hj
        rw [hi] at e1; cases e1
        rw [List.getElem?_set_self hiσ] at e2
        cases e2
        exact ⟨u, r, .inl ⟨hk, by simp⟩⟩
      · rw [List.getElem?_set_ne (Ne.symm hj)] at e2
        obtain ⟨u', r', q⟩ := hl j y v' e1 e2 e3
        refine ⟨u', r', ?_⟩
        rcases q with ⟨k, e⟩ | ⟨k, c, e, z⟩
        · refine .inl ⟨k, ?_⟩
          have : y ≠ x := fun e => hj (nodup_ix hN e1 (e ▸ hi))
          simp [this, e]
        · exact .inr ⟨k, c, e, z.sameBut hs (cne y c e)⟩
    · obtain ⟨w', z⟩ := I.cell y c e
      exact ⟨w', z.sameBut hs (cne y c e)⟩
    · obtain ⟨e, n, ne, nf, d⟩ := I.pin p hp
      exact ⟨(hs.2 p.1 ne).trans e, n, ne, nf, d⟩
  · have hfn : X.fn x = true := by
      rcases hf with z | z
      · exact z
      · rw [z] at hk; cases hk
    obtain ⟨c, hc⟩ := I.ok.has x (.inl hk)
    obtain ⟨w', z⟩ := I.cell x c hc
    refine wpAny_storeName_cell I.ok.kind hk hc z (fun h' hc' hs => ?_)
    obtain ⟨oc, hoc, hocd⟩ := id z
    refine h { s with heap := h' } ⟨I.ok, I.os, I.bare, ⟨fun b o e n hb hx => ?_, fun b o e n hb hx => ?_, I.base.free, fun b o e hx => ?_, I.base.tups, I.base.frzs, I.base.tbls⟩, ⟨m, hn.sameBut hs (Ne.symm (cne x c hc)), fun j y v' e1 e2 e3 => ?_⟩, fun y c' e => ?_, I.free, I.freeC, fun p hp => ?_, tracked ⟨oc, hoc, I.freeC x c hc⟩ hs, by simpa using I.len⟩ ⟨c, hs, .inr hc⟩
    · exact (hs.2 b (Nat.ne_of_lt (Nat.lt_of_lt_of_le (Heap.lt_size e) (I.ok.cab x c hfn hc)))).trans (I.base.keep b o e n hb hx)
    · obtain ⟨sl, e1⟩ := I.base.slot b o e n hb hx
      exact ⟨sl, (hs.2 b (Nat.ne_of_lt (Nat.lt_of_lt_of_le (Heap.lt_size e) (I.ok.cab x c hfn hc)))).trans e1⟩
    · obtain ⟨o', e1⟩ := I.base.there b o e hx
      exact ⟨o', (hs.2 b (Nat.ne_of_lt (Nat.lt_of_lt_of_le (Heap.lt_size e) (I.ok.cab x c hfn hc)))).trans e1⟩
    · by_cases hj : j = i
      · subst hj
        rw [hi] at e1; cases e1
        rw [List.getElem?_set_self hiσ] at e2
        cases e2
        exact ⟨u, r, .inr ⟨.inl hk, c, hc, hc'⟩⟩
      · rw [List.getElem?_set_ne (Ne.symm hj)] at e2
        obtain ⟨u', r', q⟩ := hl j y v' e1 e2 e3
        refine ⟨u', r', ?_⟩
        rcases q with q | ⟨k, c', e, z'⟩
        · exact .inl q
        · refine .inr ⟨k, c', e, z'.sameBut hs ?_⟩
          rintro rfl
          exact hj (nodup_ix hN e1 (I.ok.inj _ _ _ e hc ▸ hi))
    · by_cases hcc : c' = c
      · subst hcc; exact ⟨_, hc'⟩
      · obtain ⟨w2, z2⟩ := I.cell y c' e
        exact ⟨w2, z2.sameBut hs hcc⟩
    · obtain ⟨e, n, ne, nf, d⟩ := I.pin p hp
      refine ⟨(hs.2 p.1 ?_).trans e, n, ne, nf, d⟩
      intro q
      rw [q, hoc] at e
      have q' : oc = p.2 := Option.some.inj e
      exact d w' (by rw [← q']; exact hocd)
theorem store_ok {M : Model} {A : Around} {E : Value → Shared → Prop} {i : Nat} {x : Str} {v : V} {u : Value} {Q : Unit → Shared → Prop} (I : Inv X pins σ H s) (hN : X.N.Nodup) (hi : X.N[i]? = some x) (hx : Loc X.env.scope x) (r : RelV v u)
    (h : ∀ s', Inv X pins (σ.set i (some v)) H s' → Q () s') (hf : X.fn x = true ∨ X.env.scope.names.lookup x = some .local := by first | exact .inl rfl | exact .inr rfl | assumption) : wpAny M A (storeName X.env x u) Q E s :=
  store_ok2 I hN hi hx r (fun s' I' _ => h s' I') hf

theorem Inv.call' {s' : Shared} {ch : List Addr} (I : Inv X pins σ H s) (ho : s'.os = s.os) (u : Un (frs X.stack) ch H H' s.heap s'.heap) (hok : HOk X.prog X.w H' s'.heap) (hg : AllBare s'.gens)
    (hch : ∀ b ∈ ch, (b ∈ X.ex ∨ X.s₀.heap.objs.size ≤ b) ∧ b ≠ X.env.locals ∧ (∀ x c, X.env.cells.lookup x = some c → c ≠ b) ∧ ∀ p ∈ X.pn ++ pins, p.1 ≠ b) : Inv X pins σ H' s' := by
  obtain ⟨h', g', d', t', o'⟩ := s'
  have e : o' = s.os := ho
  subst e
  exact I.call (g' := g') (t' := t') (d' := d') u hok hg hch
end



noncomputable abbrev XK := Value → Option Addr → Hp → Prop
noncomputable abbrev St := List (Option V)
noncomputable abbrev VK := V → Hp → Prop

noncomputable abbrev TE := St → Hp → VK → Prop
noncomputable abbrev TT := St → Hp → (Bool → Hp → Prop) → Prop
noncomputable abbrev TA := St → Hp → (List V → Hp → Prop) → Prop

structure Ends where
  nx : St → Hp → Prop
  rt : VK
  bk : St → Hp → Prop := fun _ _ => False
  ct : St → Hp → Prop := fun _ _ => False
noncomputable abbrev TS := Ends → St → Hp → Prop

noncomputable def EP (X : Cx) (pins : List (Addr × Obj)) (σ : St) (Q : VK) (u : Value) (s' : Shared) : Prop := ∃ v H', Inv X pins σ H' s' ∧ RelV v u ∧ Q v H'
noncomputable def TP (X : Cx) (pins : List (Addr × Obj)) (σ : St) (Q : Bool → Hp → Prop) (b : Bool) (s' : Shared) : Prop := ∃ H', Inv X pins σ H' s' ∧ Q b H'
noncomputable def AP (X : Cx) (pins : List (Addr × Obj)) (σ : St) (Q : List V → Hp → Prop) (us : List Value) (s' : Shared) : Prop := ∃ vs H', Inv X pins σ H' s' ∧ Vals vs us ∧ Q vs H'
noncomputable def SP (X : Cx) (pins : List (Addr × Obj)) (D : Ends) (f : Flow) (s' : Shared) : Prop :=
  match f with
  | .next => ∃ σ' H', Inv X pins σ' H' s' ∧ D.nx σ' H'
  | .brk => ∃ σ' H', Inv X pins σ' H' s' ∧ D.bk σ' H'
  | .cont => ∃ σ' H', Inv X pins σ' H' s' ∧ D.ct σ' H'
  | .ret u => ∃ v σ' H', Inv X pins σ' H' s' ∧ RelV v u ∧ D.rt v H'

noncomputable def PE (X : Cx) (e : Expr) (t : TE) : Prop :=
  ∀ (pins : List (Addr × Obj)) (s : Shared) (σ : St) (H : Hp) (Q : VK), Inv X pins σ H s → t σ H Q → wpAny (model X.prog X.w) X.A (eval e X.env) (EP X pins σ Q) X.xe s
noncomputable def PT (X : Cx) (e : Expr) (t : TT) : Prop :=
  ∀ (pins : List (Addr × Obj)) (s : Shared) (σ : St) (H : Hp) (Q : Bool → Hp → Prop), Inv X pins σ H s → t σ H Q → wpAny (model X.prog X.w) X.A (isTrue e X.env (eval e X.env)) (TP X pins σ Q) X.xe s

noncomputable def PW (X : Cx) (e : Expr) (t : TT) : Prop :=
  ∀ (whole : Sem Value) (pins : List (Addr × Obj)) (s : Shared) (σ : St) (H : Hp) (Q : Bool → Hp → Prop), Inv X pins σ H s → t σ H Q → wpAny (model X.prog X.w) X.A (isTrue e X.env whole) (TP X pins σ Q) X.xe s
theorem PW.pt {X : Cx} {e : Expr} {t : TT} (h : PW X e t) : PT X e t := h _

noncomputable def PA (X : Cx) (es : List Expr) (t : TA) : Prop :=
  ∀ (pos : Pos) (pins : List (Addr × Obj)) (s : Shared) (σ : St) (H : Hp) (Q : List V → Hp → Prop), Inv X pins σ H s → t σ H Q → wpAny (model X.prog X.w) X.A (spliced (backTo pos (starEach es X.env))) (AP X pins σ Q) X.xe s
noncomputable def PS (X : Cx) (st : Stmt) (t : TS) : Prop :=
  ∀ (pins : List (Addr × Obj)) (s : Shared) (σ : St) (H : Hp) (D : Ends), Inv X pins σ H s → t D σ H → wpAny (model X.prog X.w) X.A (exec st X.env) (SP X pins D) X.xe s
noncomputable def PSs (X : Cx) (st : List Stmt) (t : TS) : Prop :=
  ∀ (pins : List (Addr × Obj)) (s : Shared) (σ : St) (H : Hp) (D : Ends), Inv X pins σ H s → t D σ H → wpAny (model X.prog X.w) X.A (execs st X.env) (SP X pins D) X.xe s

theorem thn {α : Type} {t : Sem α} {Q Q' : α → Shared → Prop} {M : Model} {A : Around} {E : Value → Shared → Prop} {s : Shared} (h : wpAny M A t Q E s) (hQ : ∀ a s, Q a s → Q' a s) : wpAny M A t Q' E s := wpAny_mono h hQ fun _ _ x => x
end L2

namespace L2
open PySem PySem.Spec PyProof.Rows
section
variable {X : Cx}


theorem bin {a b : Expr} {ta tb : TE} (ha : PE X a ta) (hb : PE X b tb) {pins : List (Addr × Obj)} {s : Shared} {σ : St} {H : Hp} {R : V → V → Hp → Prop} (I : Inv X pins σ H s) (h : ta σ H fun x H1 => tb σ H1 fun y H2 => R x y H2)
    {α : Type} {Q : α → Shared → Prop} {f : Value → Value → Sem α}
    (hf : ∀ v u s2 x y H2, Inv X pins σ H2 s2 → RelV x v → RelV y u → R x y H2 → wpAny (model X.prog X.w) X.A (f v u) Q X.xe s2) :
    wpAny (model X.prog X.w) X.A (eval a X.env) (fun v s₁ => wpAny (model X.prog X.w) X.A (eval b X.env) (fun u s₂ => wpAny (model X.prog X.w) X.A (f v u) Q X.xe s₂) X.xe s₁) X.xe s := by
  refine thn (ha pins s σ H _ I h) fun v s1 hm1_ => ?_
  obtain ⟨x, H1, I1, r1, q1⟩ := hm1_
  refine thn (hb pins s1 σ H1 _ I1 q1) fun u s2 hm1_ => ?_
  obtain ⟨y, H2, I2, r2, q2⟩ := hm1_
  exact hf v u s2 x y H2 I2 r1 r2 q2


noncomputable def tVar (i : Nat) : TE := fun σ H Q => ∃ v, σ[i]? = some (some v) ∧ Q v H
noncomputable def tC (v : V) : TE := fun _ H Q => Q v H
theorem pe_var {i : Nat} {x : Str} {pos : Pos} (hN : X.N[i]? = some x) (hv : Vis X.env.scope x) (hd : (x == ("__debug__" : Str)) = false := by decide) (hcd : (x == ("__classdict__" : Str)) = false := by decide) : PE X (.Name x pos) (tVar i) := by
  intro pins s σ H Q I h
  obtain ⟨v, e, h⟩ := h
  obtain ⟨m, hn, hl⟩ := I.loc
  obtain ⟨u, r, l⟩ := hl i x v hN e hv
  have fin : EP X pins σ Q u s := ⟨v, H, I, r, h⟩
  rcases l with ⟨hk, hm⟩ | ⟨hk, c, hc, hcell⟩
  · exact wpAny_Name (wpAny_loadName_local I.ok.kind hk hn hm fin) hd
  · rcases hk with hk | hk
    · exact wpAny_Name (wpAny_loadName_cell I.ok.kind hk hc hcell fin) hd
    · exact wpAny_Name (wpAny_loadName_free I.ok.kind hk hc hcell fin hcd) hd
theorem pe_int {i j pos} : PE X (.Constant (.int i) j pos) (tC (.int i)) := fun _ _ _ H _ I h => wpAny_Constant_int ⟨.int i, H, I.tok _, ⟨_, rfl⟩, h⟩
theorem pe_bl {b j pos} : PE X (.Constant (.bool b) j pos) (tC (.bl b)) := fun _ _ _ H _ I h => Constant_bool ⟨.bl b, H, I, rfl, h⟩
theorem pe_non {j pos} : PE X (.Constant .none j pos) (tC .non) := fun _ _ _ H _ I h => Constant_none ⟨.non, H, I, rfl, h⟩
theorem pe_str {x j pos} : PE X (.Constant (.str x) j pos) (tC (.str x)) := fun _ _ _ H _ I h => Calls.Constant_str ⟨.str x, H, I.tok _, ⟨_, rfl⟩, h⟩


noncomputable def Gl (X : Cx) (x : Str) : Prop := X.env.kindOf x = some .globalImplicit
theorem ld_glob {E : Value → Shared → Prop} {pins : List (Addr × Obj)} {s : Shared} {σ : St} {H : Hp} {x : Str} {u : Value} {pos : Pos} {Q : Value → Shared → Prop} (I : Inv X pins σ H s) (hg : Gl X x) (hm : X.mg x = some u) (h : Q u s)
    (hd : (x == ("__debug__" : Str)) = false := by decide) : wpAny (model X.prog X.w) X.A (eval (.Name x pos) X.env) Q E s :=
  Calls.Name_function_global I.ok.kind hg (Calls.loadGlobal_global (by rw [I.ok.glob]; exact I.mod.glob.keeps I.bk) hm h) hd
theorem ld_blt {E : Value → Shared → Prop} {pins : List (Addr × Obj)} {s : Shared} {σ : St} {H : Hp} {x : Str} {u : Value} {pos : Pos} {Q : Value → Shared → Prop} (I : Inv X pins σ H s) (hg : Gl X x) (hm : X.mg x = none) (hv : bootBuiltins x = some u) (h : Q u s)
    (hn : x ≠ "__name__" := by decide) (hd : (x == ("__debug__" : Str)) = false := by decide) : wpAny (model X.prog X.w) X.A (eval (.Name x pos) X.env) Q E s := by
  obtain ⟨mb, h1, h2⟩ := I.mod.blt
  exact Calls.Name_function_global I.ok.kind hg (Calls.loadGlobal_builtin (by rw [I.ok.glob]; exact I.mod.glob.keeps I.bk) hm (by rw [I.ok.blt]; exact h1.keeps I.bk) ((h2 x hn).trans hv) h) hd

theorem pe_glob {x : Str} {v : V} {u : Value} {pos : Pos} (hg : Gl X x) (hm : X.mg x = some u) (r : RelV v u) (hd : (x == ("__debug__" : Str)) = false := by decide) : PE X (.Name x pos) (tC v) :=
  fun _ _ _ H _ I h => ld_glob I hg hm ⟨v, H, I, r, h⟩ hd
theorem pe_bltn {x : Str} {v : V} {u : Value} {pos : Pos} (hg : Gl X x) (hm : X.mg x = none) (hv : bootBuiltins x = some u) (r : RelV v u) (hn : x ≠ "__name__" := by decide) (hd : (x == ("__debug__" : Str)) = false := by decide) : PE X (.Name x pos) (tC v) :=
  fun _ _ _ H _ I h => ld_blt I hg hm hv ⟨v, H, I, r, h⟩ hn hd



variable {a b : Expr} {ta tb : TE} {pos : Pos}
noncomputable def PC (X : Cx) (op : CmpOp) (a b : Expr) (t : TE) : Prop :=
  ∀ (pins : List (Addr × Obj)) (s : Shared) (σ : St) (H : Hp) (Q : VK), Inv X pins σ H s → t σ H Q →
    wpAny (model X.prog X.w) X.A (eval a X.env) (fun v s₁ => wpAny (model X.prog X.w) X.A (eval b X.env) (fun u s₂ => wpAny (model X.prog X.w) X.A (compareOp op v u) (EP X pins σ Q) X.xe s₂) X.xe s₁) X.xe s
theorem nobehind (b : Expr) {op : CmpOp} (h : op ≠ .In) (h2 : op ≠ .NotIn) : behindInMarks op b = false := by
  have e1 : (op == CmpOp.In) = false := by cases op <;> first | rfl | exact absurd rfl h
  have e2 : (op == CmpOp.NotIn) = false := by cases op <;> first | rfl | exact absurd rfl h2
  cases b <;> simp [behindInMarks, e1, e2]
noncomputable def tB (t : TE) : TT := fun σ H Q => t σ H fun x H1 => ∃ c, x = .bl c ∧ Q c H1
theorem pt_cmp {op : CmpOp} {t : TE} (h : PC X op a b t) (h1 : behindInMarks op b = false := by first | exact nobehind _ (by decide) (by decide) | rfl) : PT X (.Compare a [op] [b] pos) (tB t) := by
  intro pins s σ H Q I hw
  refine wpAny_isTrue_Compare1 (thn (h pins s σ H _ I hw) fun v s1 h1 => thn h1 fun u s2 h2 => thn h2 fun c s3 hm1_ => ?_) h1
  obtain ⟨x, H1, I1, r1, q1⟩ := hm1_
  obtain ⟨d, rfl, q⟩ := q1
  cases r1
  exact wpAny_truthy_bool ⟨H1, I1, q⟩

theorem pt_val {e : Expr} {t : TE} (h : PE X e t) (he : ∀ whole, isTrue e X.env whole = (do let v ← whole; standAt e.pos; holding [v] (truthy v)) := by intro _; rfl) : PT X e (tB t) := by
  intro pins s σ H Q I hw
  refine isTrue_plain (thn (h pins s σ H _ I hw) fun v s1 hm1_ => ?_) (he _)
  obtain ⟨x, H1, I1, r1, q1⟩ := hm1_
  obtain ⟨d, rfl, q⟩ := q1
  cases r1
  exact wpAny_truthy_bool ⟨H1, I1, q⟩


variable {tA tB' : TT} {rest : List Expr}
noncomputable def tAnd (t u : TT) : TT := fun σ H Q => t σ H fun c H1 => if c = true then u σ H1 Q else Q false H1
noncomputable def tOr (t u : TT) : TT := fun σ H Q => t σ H fun c H1 => if c = true then Q true H1 else u σ H1 Q
noncomputable def tNot (t : TT) : TT := fun σ H Q => t σ H fun c H1 => Q (!c) H1
theorem pw_and1 (ha : PT X a tA) : PW X (.BoolOp .And [a] pos) tA := by
  intro wh pins s σ H Q I h
  refine isTrue_and (thn (ha pins s σ H Q I h) fun c s1 e => ?_)
  cases c with
  | true => exact isTrue_and_nil e
  | false => exact e
theorem pw_or1 (ha : PT X a tA) : PW X (.BoolOp .Or [a] pos) tA := by
  intro wh pins s σ H Q I h
  refine isTrue_or (thn (ha pins s σ H Q I h) fun c s1 e => ?_)
  cases c with
  | false => exact isTrue_or_nil e
  | true => exact e
theorem pw_and (ha : PT X a tA) (hb : PW X (.BoolOp .And (b :: rest) pos) tB') : PW X (.BoolOp .And (a :: b :: rest) pos) (tAnd tA tB') := by
  intro wh pins s σ H Q I h
  refine isTrue_and (thn (ha pins s σ H _ I h) fun c s1 hm1_ => ?_)
  obtain ⟨H1, I1, q1⟩ := hm1_
  cases c with
  | true => exact hb wh pins s1 σ H1 Q I1 q1
  | false => exact ⟨H1, I1, q1⟩
theorem pw_or (ha : PT X a tA) (hb : PW X (.BoolOp .Or (b :: rest) pos) tB') : PW X (.BoolOp .Or (a :: b :: rest) pos) (tOr tA tB') := by
  intro wh pins s σ H Q I h
  refine isTrue_or (thn (ha pins s σ H _ I h) fun c s1 hm1_ => ?_)
  obtain ⟨H1, I1, q1⟩ := hm1_
  cases c with
  | true => exact ⟨H1, I1, q1⟩
  | false => exact hb wh pins s1 σ H1 Q I1 q1
theorem pt_not (ha : PT X a tA) : PT X (.UnaryOp .Not a pos) (tNot tA) := by
  intro pins s σ H Q I h
  exact isTrue_not (ha pins s σ H (fun c H1 => Q (!c) H1) I h)

noncomputable def tAndV (ta tb : TE) : TE := fun σ H Q => ta σ H fun x H1 => ∃ c, x = .bl c ∧ if c = true then tb σ H1 Q else Q (.bl false) H1
noncomputable def tOrV (ta tb : TE) : TE := fun σ H Q => ta σ H fun x H1 => ∃ c, x = .bl c ∧ if c = true then Q (.bl true) H1 else tb σ H1 Q
noncomputable def tNotV (ta : TE) : TE := fun σ H Q => ta σ H fun x H1 => ∃ c, x = .bl c ∧ Q (.bl (!c)) H1
theorem pe_one {op} {t : TE} (h : PE X a t) : PE X (.BoolOp op [a] pos) t := fun pins s σ H Q I hw => BoolOp_one (h pins s σ H Q I hw)
theorem pe_and (ha : PE X a ta) (hb : PE X (.BoolOp .And (b :: rest) pos) tb) : PE X (.BoolOp .And (a :: b :: rest) pos) (tAndV ta tb) := by
  intro pins s σ H Q I h
  refine BoolOp_and (thn (ha pins s σ H _ I h) fun v s1 hm1_ => ?_)
  obtain ⟨x, H1, I1, r1, q1⟩ := hm1_
  obtain ⟨c, rfl, q1⟩ := q1
  cases r1
  refine wpAny_truthy_bool ?_
  cases c with
  | true => exact hb pins s1 σ H1 Q I1 q1
  | false => exact ⟨.bl false, H1, I1, rfl, q1⟩
theorem pe_or (ha : PE X a ta) (hb : PE X (.BoolOp .Or (b :: rest) pos) tb) : PE X (.BoolOp .Or (a :: b :: rest) pos) (tOrV ta tb) := by
  intro pins s σ H Q I h
  refine BoolOp_or (thn (ha pins s σ H _ I h) fun v s1 hm1_ => ?_)
  obtain ⟨x, H1, I1, r1, q1⟩ := hm1_
  obtain ⟨c, rfl, q1⟩ := q1
  cases r1
  refine wpAny_truthy_bool ?_
  cases c with
  | false => exact hb pins s1 σ H1 Q I1 q1
  | true => exact ⟨.bl true, H1, I1, rfl, q1⟩
theorem pe_not (ha : PE X a ta) : PE X (.UnaryOp .Not a pos) (tNotV ta) := by
  intro pins s σ H Q I h
  refine UnaryOp_ (thn (ha pins s σ H _ I h) fun v s1 hm1_ => ?_)
  obtain ⟨x, H1, I1, r1, q1⟩ := hm1_
  obtain ⟨c, rfl, q1⟩ := q1
  cases r1
  exact not_of (wpAny_truthy_bool ⟨.bl (!c), H1, I1, rfl, q1⟩)

noncomputable def tIf (t : TT) (ta tb : TE) : TE := fun σ H Q => t σ H fun c H1 => if c = true then ta σ H1 Q else tb σ H1 Q
theorem pe_ifExp {c : Expr} (hc : PT X c tA) (ha : PE X a ta) (hb : PE X b tb) : PE X (.IfExp c a b pos) (tIf tA ta tb) := by
  intro pins s σ H Q I h
  refine wpAny_IfExp (thn (hc pins s σ H _ I h) fun d s1 hm1_ => ?_)
  obtain ⟨H1, I1, q1⟩ := hm1_
  cases d with
  | true => exact ha pins s1 σ H1 Q I1 q1
  | false => exact hb pins s1 σ H1 Q I1 q1
end
end L2

namespace L2
open PySem PySem.Spec PyProof.Rows


noncomputable def SqL (K : PySem.W.Frag) (H : Hp) (a : Addr) (xs : List V) : Prop :=
  Rd H a (.lst xs) ∨
    ∃ (o : Obj) (its : Array Value) (n : Nat), K.lookup a = some o ∧ o.cls = .type "list" ∧ o.dict = none ∧ o.data = .seq its n ∧ its.size ≤ sizeLine ∧ Vals xs its.toList
noncomputable def SqT (K : PySem.W.Frag) (H : Hp) (a : Addr) (xs : List V) : Prop :=
  Rd H a (.tup xs) ∨
    ∃ (o : Obj) (its : Array Value) (n : Nat), K.lookup a = some o ∧ o.cls = .type "tuple" ∧ o.dict = none ∧ o.data = .seq its n ∧ its.size ≤ sizeLine ∧ Vals xs its.toList
noncomputable def absV : Value → Option V
  | .none => some .non
  | .bool b => some (.bl b)
  | .int i _ => some (.int i)
  | .str x _ => some (.str x)
  | .bytes b _ => some (.byt b)
  | .float b _ => some (.flt b)
  | .ref a => some (.ref a)
  | .type n => some (.ty n)
  | _ => none
theorem RelV.abs {x : V} {u : Value} (r : RelV x u) : absV u = some x := by
  cases x with
  | non => cases r; rfl
  | bl _ => cases r; rfl
  | int _ => obtain ⟨t, rfl⟩ := r; rfl
  | str _ => obtain ⟨t, rfl⟩ := r; rfl
  | byt _ => obtain ⟨t, rfl⟩ := r; rfl
  | flt _ => obtain ⟨t, rfl⟩ := r; rfl
  | ref _ => cases r; rfl
  | ty _ => cases r; rfl
theorem RelV.inj {x y : V} {u : Value} (r : RelV x u) (q : RelV y u) : x = y := Option.some.inj (r.abs.symm.trans q.abs)
theorem Vals.inj : ∀ {xs ys : List V} {us : List Value}, Vals xs us → Vals ys us → xs = ys
  | _, _, _, .nil, .nil => rfl
  | _, _, _, .cons r t, .cons r' t' => by rw [r.inj r', Vals.inj t t']
section
variable {X : Cx} {pins : List (Addr × Obj)} {σ : St} {H : Hp} {s : Shared} {a : Addr} {xs ys : List V}
theorem SqL.of {K : PySem.W.Frag} (h : H a = some (.lst xs)) : SqL K H a xs := .inl (.inl h)
theorem SqT.of {K : PySem.W.Frag} (h : H a = some (.tup xs)) : SqT K H a xs := .inl (.inl h)
theorem Inv.list (I : Inv X pins σ H s) (h : SqL X.K H a xs) : ∃ its : List Value, Vals xs its ∧ PlainL s.heap a its.toArray ∧ xs.length ≤ sizeLine := by
  rcases h with h | ⟨o, its, n, hk, hc, hd, hs, hz, r⟩
  · obtain ⟨z, its, n, r, e⟩ := h.ok I.hok
    exact ⟨its, r, ⟨_, n, e, rfl, rfl, rfl⟩, z⟩
  · refine ⟨its.toList, r, ⟨o, n, I.kIn a o hk, hc, hd, by simpa using hs⟩, ?_⟩
    have e := r.length
    simp only [Array.length_toList] at e
    omega
theorem Inv.tuple (I : Inv X pins σ H s) (h : SqT X.K H a xs) : ∃ its : List Value, Vals xs its ∧ IsTup s.heap a its.toArray ∧ xs.length ≤ sizeLine := by
  rcases h with h | ⟨o, its, n, hk, hc, _, hs, hz, r⟩
  · obtain ⟨z, its, r, p⟩ := h.ok I.hok
    exact ⟨its, r, p.tup, z⟩
  · refine ⟨its.toList, r, ⟨o, I.kIn a o hk, hc, n, by simpa using hs⟩, ?_⟩
    have e := r.length
    simp only [Array.length_toList] at e
    omega
theorem Inv.list_inj (I : Inv X pins σ H s) (h : SqL X.K H a xs) (h' : SqL X.K H a ys) : xs = ys := by
  obtain ⟨its, r, ⟨o, n, e, _, _, d⟩, _⟩ := I.list h
  obtain ⟨its', r', ⟨o', n', e', _, _, d'⟩, _⟩ := I.list h'
  rw [e] at e'; cases e'
  rw [d] at d'
  injection d' with d1 _
  have : its = its' := by simpa using congrArg Array.toList d1
  subst this
  exact r.inj r'
theorem Inv.tuple_inj (I : Inv X pins σ H s) (h : SqT X.K H a xs) (h' : SqT X.K H a ys) : xs = ys := by
  obtain ⟨its, r, ⟨o, e, _, n, d⟩, _⟩ := I.tuple h
  obtain ⟨its', r', ⟨o', e', _, n', d'⟩, _⟩ := I.tuple h'
  rw [e] at e'; cases e'
  rw [d] at d'
  injection d' with d1 _
  have : its = its' := by simpa using congrArg Array.toList d1
  subst this
  exact r.inj r'
end


noncomputable abbrev Cx.wish (X : Cx) (E : Value → Shared → Prop) : Cx := { X with xe := E }

noncomputable abbrev Cx.nox (X : Cx) : Cx := X.wish fun _ _ => False
theorem Cx.Ok.wish {X : Cx} (ok : X.Ok) (E : Value → Shared → Prop) : (X.wish E).Ok :=
  ⟨ok.mod, ok.kind, ok.glob, ok.blt, ok.above, ok.inj, ok.has, ok.cab, ok.hd, ok.frames, ok.stk, ok.exf, ok.bs, ok.bsz, ok.noex, ok.exfs, ok.funs, ok.frf⟩
theorem Cx.Ok.unwish {X : Cx} {E : Value → Shared → Prop} (ok : (X.wish E).Ok) : X.Ok :=
  ⟨ok.mod, ok.kind, ok.glob, ok.blt, ok.above, ok.inj, ok.has, ok.cab, ok.hd, ok.frames, ok.stk, ok.exf, ok.bs, ok.bsz, ok.noex, ok.exfs, ok.funs, ok.frf⟩
section
variable {X : Cx} {pins : List (Addr × Obj)} {σ : St} {H : Hp} {s : Shared} {E : Value → Shared → Prop}
theorem Inv.wish (I : Inv X pins σ H s) (E : Value → Shared → Prop) : Inv (X.wish E) pins σ H s := ⟨I.ok.wish E, I.os, I.bare, I.base, I.loc, I.cell, I.free, I.freeC, I.pin, I.hok, I.len⟩
theorem Inv.unwish (I : Inv (X.wish E) pins σ H s) : Inv X pins σ H s := ⟨I.ok.unwish, I.os, I.bare, I.base, I.loc, I.cell, I.free, I.freeC, I.pin, I.hok, I.len⟩
theorem SP.unwish {D : Ends} {f : Flow} {s' : Shared} (h : SP (X.wish E) pins D f s') : SP X pins D f s' := by
  cases f with
  | next => obtain ⟨σ', H', I, q⟩ := h; exact ⟨σ', H', I.unwish, q⟩
  | brk => obtain ⟨σ', H', I, q⟩ := h; exact ⟨σ', H', I.unwish, q⟩
  | cont => obtain ⟨σ', H', I, q⟩ := h; exact ⟨σ', H', I.unwish, q⟩
  | ret u => obtain ⟨v, σ', H', I, r, q⟩ := h; exact ⟨v, σ', H', I.unwish, r, q⟩
theorem PSs.nox {st : List Stmt} {t : TS} (h : PSs X.nox st t) : PSs X st t := fun pins s σ H D I hw =>
  wpAny_mono (h pins s σ H D (I.wish _) hw) (fun _ _ q => q.unwish) fun _ _ z => False.elim z
end


section
variable {X : Cx} {st : Stmt} {rest : List Stmt} {t u : TS} {e : Expr} {te : TE} {pos : Pos}
noncomputable def tNext : TS := fun D σ H => D.nx σ H
noncomputable def tSeq (t u : TS) : TS := fun D σ H => t { D with nx := u D } σ H
theorem pss_nil : PSs X [] tNext := fun _ _ σ H _ I h => wpAny_execs_nil ⟨σ, H, I, h⟩
theorem pss_cons (h1 : PS X st t) (h2 : PSs X rest u) : PSs X (st :: rest) (tSeq t u) := by
  intro pins s σ H D I h
  refine wpAny_execs_cons (thn (h1 pins s σ H { D with nx := u D } I h) fun f s1 q => ?_)
  cases f with
  | next =>
    obtain ⟨σ', H', I', q⟩ := q
    exact h2 pins s1 σ' H' D I' q
  | ret v => exact q
  | brk => exact q
  | cont => exact q
theorem pss_one (h1 : PS X st t) : PSs X [st] t := by
  intro pins s σ H D I h
  refine wpAny_execs_cons (thn (h1 pins s σ H D I h) fun f s1 q => ?_)
  cases f with
  | next => exact wpAny_execs_nil q
  | ret v => exact q
  | brk => exact q
  | cont => exact q
theorem Inv.quiet {pins : List (Addr × Obj)} {σ : St} {H : Hp} {s : Shared} (I : Inv X pins σ H s) : interactive X.env = false := by simp [interactive, I.ok.kind]

noncomputable def tDrop (te : TE) : TS := fun D σ H => te σ H fun _ H1 => D.nx σ H1
theorem ps_expr (he : PE X e te) (hs : swapsWith e none pos.line X.env = pure false := by rfl) : PS X (.Expr e pos) (tDrop te) := by
  intro pins s σ H D I h
  refine wpAny_Expr_any (thn (he pins s σ H _ I h) fun v s1 hm1_ => ?_) I.quiet hs
  obtain ⟨x, H1, I1, r1, q1⟩ := hm1_
  exact ⟨σ, H1, I1, q1⟩
noncomputable def tRet (te : TE) : TS := fun D σ H => te σ H D.rt
theorem ps_ret (he : PE X e te) : PS X (.Return (some e) pos) (tRet te) := by
  intro pins s σ H D I h
  refine wpAny_Return_some (thn (he pins s σ H _ I h) fun v s1 hm1_ => ?_)
  obtain ⟨x, H1, I1, r1, q1⟩ := hm1_
  exact ⟨x, σ, H1, I1, r1, q1⟩
noncomputable def tIfS (c : TT) (t u : TS) : TS := fun D σ H => c σ H fun b H1 => if b = true then t D σ H1 else u D σ H1
theorem ps_if {c : Expr} {a b : List Stmt} {tc : TT} (hc : PT X c tc) (ha : PSs X a t) (hb : PSs X b u) : PS X (.If c a b pos) (tIfS tc t u) := by
  intro pins s σ H D I h
  refine wpAny_If (thn (hc pins s σ H _ I h) fun d s1 hm1_ => ?_)
  obtain ⟨H1, I1, q1⟩ := hm1_
  cases d with
  | true => exact ha pins s1 σ H1 D I1 q1
  | false => exact hb pins s1 σ H1 D I1 q1

end


noncomputable abbrev TG := V → St → Hp → (St → Hp → Prop) → Prop
noncomputable abbrev TGs := List V → St → Hp → (St → Hp → Prop) → Prop
noncomputable def PG (X : Cx) (target : Expr) (t : TG) : Prop :=
  ∀ (pins : List (Addr × Obj)) (s : Shared) (σ : St) (H : Hp) (v : V) (u : Value) (Q : St → Hp → Prop), Inv X pins σ H s → RelV v u → t v σ H Q →
    wpAny (model X.prog X.w) X.A (assign target X.env u) (fun _ s' => ∃ σ' H', Inv X pins σ' H' s' ∧ Q σ' H') X.xe s

noncomputable def PGs (X : Cx) (ts : List Expr) (t : TGs) : Prop :=
  ∀ (pins : List (Addr × Obj)) (s : Shared) (σ : St) (H : Hp) (vs : List V) (us : List Value) (Q : St → Hp → Prop), Inv X pins σ H s → Vals vs us → t vs σ H Q →
    wpAny (model X.prog X.w) X.A (assignInOrder ((assignEach ts X.env).map (·.2)) us) (fun _ s' => ∃ σ' H', Inv X pins σ' H' s' ∧ Q σ' H') X.xe s

section
variable {X : Cx} {pos : Pos}
noncomputable def gName (i : Nat) : TG := fun v σ H Q => Q (σ.set i (some v)) H
theorem pg_name {i : Nat} {x : Str} (hN : X.N.Nodup) (hi : X.N[i]? = some x) (hx : Loc X.env.scope x) (hf : X.fn x = true ∨ X.env.scope.names.lookup x = some .local := by first | exact .inl rfl | exact .inr rfl | assumption) : PG X (.Name x pos) (gName i) := by
  intro pins s σ H v u Q I r h
  exact wpAny_assign_Name (store_ok I hN hi hx r (fun s' I' => ⟨_, H, I', h⟩) hf)
noncomputable def gNil : TGs := fun vs σ H Q => vs = [] ∧ Q σ H
noncomputable def gCons (t : TG) (u : TGs) : TGs := fun vs σ H Q => ∃ v r, vs = v :: r ∧ t v σ H fun σ' H' => u r σ' H' Q
theorem pgs_nil : PGs X [] gNil := by
  intro pins s σ H vs us Q I r h
  obtain ⟨e, h⟩ := h
  subst e
  cases r
  exact assignInOrder_nil ⟨σ, H, I, h⟩
theorem pgs_cons {e : Expr} {es : List Expr} {t : TG} {u : TGs} (h1 : PG X e t) (h2 : PGs X es u)
    (hs : (assignEach (e :: es) X.env).map (·.2) = assign e X.env :: (assignEach es X.env).map (·.2) := by rfl) : PGs X (e :: es) (gCons t u) := by
  intro pins s σ H vs us Q I r h
  obtain ⟨v, vr, e1, h⟩ := h
  subst e1
  cases r with
  | cons r rr =>
    rw [hs]
    refine assignInOrder_cons (thn (h1 pins s σ H _ _ _ I r h) fun _ s1 hm1_ => ?_)
    obtain ⟨σ1, H1, I1, q1⟩ := hm1_
    exact h2 pins s1 σ1 H1 _ _ Q I1 rr q1

noncomputable def gTup (K : PySem.W.Frag) (n : Nat) (t : TGs) : TG := fun v σ H Q => ∃ a xs, v = .ref a ∧ SqT K H a xs ∧ xs.length = n ∧ t xs σ H Q
theorem pg_tup {es : List Expr} {k : Nat} {t : TGs} {n : Nat} (hc : X.calm = true) (h : PGs X es t)
    (hn : (assignEach es X.env).length = n := by rfl) (hst : (assignEach es X.env).findIdx? (·.1) = none := by rfl) : PG X (.Tuple es k pos) (gTup X.K n t) := by
  intro pins s σ H v u Q I r hw
  obtain ⟨a, xs, e1, hq, hl, hw⟩ := hw
  subst e1
  cases r
  obtain ⟨its, rv, ht, hz⟩ := I.tuple hq
  refine assign_Tuple_tuple (I.ok.hd hc) ht (by simp [hn, ← hl, rv.length]) hst fun h' hx => ?_
  have I1 : Inv X pins σ H { s with heap := h' } := I.kept (t' := s.toks) fun b o e => hx b o (Nat.ne_of_lt (Heap.lt_size e)) e
  exact h pins _ σ H xs _ Q I1 (by simpa using rv) hw

noncomputable def tAsg (te : TE) (g : TG) : TS := fun D σ H => te σ H fun x H1 => g x σ H1 D.nx
theorem ps_set {i : Nat} {x : Str} {e : Expr} {te : TE} {pos' : Pos} (hN : X.N.Nodup) (hi : X.N[i]? = some x) (hx : Loc X.env.scope x) (he : PE X e te) (hs : swapsWith e (some (.Name x pos')) pos.line X.env = pure false := by rfl) (hf : X.fn x = true ∨ X.env.scope.names.lookup x = some .local := by first | exact .inl rfl | exact .inr rfl | assumption) :
    PS X (.Assign [.Name x pos'] e pos) (tAsg te (gName i)) := by
  intro pins s σ H D I h
  refine wpAny_Assign_Name (thn (he pins s σ H _ I h) fun v s1 hm1_ => ?_) hs
  obtain ⟨y, H1, I1, r1, q1⟩ := hm1_
  exact store_ok I1 hN hi hx r1 (fun s2 I2 => ⟨_, H1, I2, q1⟩) hf

end


section
variable {X : Cx} {pos : Pos}

end



structure It where
  go : Nat → Hp → Prop
  yld : Nat → Hp → V → Hp → Prop
  stop : Nat → Hp → Prop

noncomputable def FpOk (X : Cx) (pins : List (Addr × Obj)) (H : Hp) (b : Addr) : Prop :=
  H b = none ∧ b ≠ X.env.locals ∧ b ∉ X.fs ∧ (b ∈ X.ex ∨ X.s₀.heap.objs.size ≤ b) ∧ (∀ x c, X.env.cells.lookup x = some c → c ≠ b) ∧ ∀ p ∈ X.pn ++ pins, p.1 ≠ b
theorem Inv.fpOk {X : Cx} {pins : List (Addr × Obj)} {σ : St} {H H' : Hp} {s : Shared} {b : Addr} (I : Inv X pins σ H s) (hb : s.heap.objs.size ≤ b) (hn : H' b = none) : FpOk X pins H' b := by
  refine ⟨hn, Nat.ne_of_gt (Nat.lt_of_lt_of_le I.lt hb), I.nofs hb, .inr (Nat.le_trans I.sz hb), fun x c e z => ?_, fun p hp z => ?_⟩
  · obtain ⟨v, q⟩ := I.cell x c e
    exact absurd (Nat.lt_of_lt_of_le q.lt (by rw [z]; exact hb)) (Nat.lt_irrefl _)
  · exact absurd (Nat.lt_of_lt_of_le (Heap.lt_size (I.pin p hp).1) (by rw [z]; exact hb)) (Nat.lt_irrefl _)
structure Turn (P : Program) (w : World) (K : PySem.W.Frag) (tg : Expr) (J : It) (fp : List Addr) (it : Addr) (tn : Nat → Heap → Prop) : Prop where
  mem : it ∈ fp
  obj : ∀ i h, tn i h → ∀ b ∈ fp, ∃ o, h.get? b = some o ∧ ∀ v, o.data ≠ .cell v
  keep : ∀ i h h', tn i h → (∀ b ∈ fp, ∀ o, h.get? b = some o → h'.get? b = some o) → tn i h'
  item : ∀ (X : Cx), X.prog = P → X.w = w → X.K = K → X.calm = true → ∀ (i : Nat) (pins : List (Addr × Obj)) (s : Shared) (σ : St) (H : Hp) (E : Value → Shared → Prop), Inv X pins σ H s → (∀ b ∈ fp, FpOk X pins H b) → tn i s.heap → J.go i H →
    wpAny (model P w) X.A (pyNext (.ref it)) (fun r s1 => ∃ u, r = some u ∧
      wpAny (model P w) X.A (letOwnedTupleGo tg (.ref it) u) (fun _ s2 => ∃ x H', Inv X pins σ H' s2 ∧ RelV x u ∧ J.yld i H x H' ∧ tn (i + 1) s2.heap ∧ ∀ b ∈ fp, H' b = none) E s1) E s
  done : ∀ (X : Cx), X.prog = P → X.w = w → X.K = K → X.calm = true → ∀ (i : Nat) (pins : List (Addr × Obj)) (s : Shared) (σ : St) (H : Hp) (E : Value → Shared → Prop), Inv X pins σ H s → (∀ b ∈ fp, FpOk X pins H b) → tn i s.heap → J.stop i H →
    wpAny (model P w) X.A (pyNext (.ref it)) (fun r s1 => r = none ∧ Inv X pins σ H s1) E s
  self : ∀ (A : Around) (i : Nat) (s : Shared) (Q : Value → Shared → Prop) (E : Value → Shared → Prop), tn i s.heap → Q (.ref it) s → wpAny (model P w) A (pyIter (.ref it)) Q E s
noncomputable abbrev TI := St → Hp → (It → Hp → Prop) → Prop

noncomputable def PIE (X : Cx) (pins : List (Addr × Obj)) (σ : St) (tg : Expr) (R : It → Hp → Prop) (itv : Value) (s2 : Shared) : Prop :=
  ∃ (it : Addr) (fp : List Addr) (tn : Nat → Heap → Prop) (J : It) (H' : Hp), itv = .ref it ∧ Inv X pins σ H' s2 ∧ Turn X.prog X.w X.K tg J fp it tn ∧ tn 0 s2.heap ∧ (∀ b ∈ fp, FpOk X pins H' b) ∧ R J H'
noncomputable def PI (X : Cx) (tg iter : Expr) (wi : TI) : Prop :=
  ∀ (pins : List (Addr × Obj)) (s : Shared) (σ : St) (H : Hp) (R : It → Hp → Prop), Inv X pins σ H s → wi σ H R →
    wpAny (model X.prog X.w) X.A (eval iter X.env) (fun v s1 => wpAny (model X.prog X.w) X.A (pyIter v) (PIE X pins σ tg R) X.xe s1) X.xe s


theorem go_of {M : Model} {A : Around} {E : Value → Shared → Prop} {s : Shared} {tg : Expr} {it : Addr} {u : Value} {o : Obj} {n : String} {vs : Array Value} {Q : Unit → Shared → Prop} (ho : s.heap.get? it = some o) (hc : o.cls = .type n) (hd : o.data = .fields vs)
    (hn : ["enumerate", "zip", "dict_itemiterator", "dict_reverseitemiterator", "odict_iterator", "itertools.zip_longest", "itertools.pairwise"].contains n = false) (hQ : Q () s) : wpAny M A (letOwnedTupleGo tg (.ref it) u) Q E s := by
  unfold letOwnedTupleGo
  cases tg <;> first
    | exact wpAny_pure hQ
    | (cases u <;> first
        | exact wpAny_pure hQ
        | (refine wpAny_bind (wpAny_load ho ?_)
           rw [hc, hd]
           show wpAny M A (if (["enumerate", "zip", "dict_itemiterator", "dict_reverseitemiterator", "odict_iterator", "itertools.zip_longest", "itertools.pairwise"].contains n && vs[0]? == some (rawInt _)) = true then _ else _) Q E s
           rw [if_neg (by intro h; rw [hn, Bool.false_and] at h; cases h)]
           exact wpAny_pure hQ))


noncomputable def Itl (K : PySem.W.Frag) (a : Addr) : It :=
  ⟨fun i H => ∃ xs x, SqL K H a xs ∧ xs[i]? = some x, fun i H x H' => H' = H ∧ ∀ xs, SqL K H a xs → xs[i]? = some x, fun i H => ∃ xs, SqL K H a xs ∧ xs.length ≤ i⟩
noncomputable def Itt (K : PySem.W.Frag) (a : Addr) : It :=
  ⟨fun i H => ∃ xs x, SqT K H a xs ∧ xs[i]? = some x, fun i H x H' => H' = H ∧ ∀ xs, SqT K H a xs → xs[i]? = some x, fun i H => ∃ xs, SqT K H a xs ∧ xs.length ≤ i⟩

noncomputable def Itr (lo : Int) (n : Nat) : It := ⟨fun i _ => i < n, fun i H x H' => H' = H ∧ x = .int (lo + i), fun i _ => n ≤ i⟩
theorem turn_list {P : Program} {w : World} {K : PySem.W.Frag} {tg : Expr} (a it : Addr) : Turn P w K tg (Itl K a) [it] it (fun i h => h.IsListIter it a i) where
  mem := by simp
  obj := fun i h st b hb => by
    have e : b = it := by simpa using hb
    subst e
    obtain ⟨o, e, c, d⟩ := st
    exact ⟨o, e, fun v z => by rw [d] at z; cases z⟩
  keep := fun i h h' st k => st.at fun o e => k it (by simp) o e
  item := by
    intro X hP hw hK hc i pins s σ H E I hf st hg
    subst hP hw hK
    obtain ⟨xs, x, hq, hx⟩ := hg
    obtain ⟨its, rv, p, hz⟩ := I.list hq
    obtain ⟨u, hu, ru⟩ := rv.get hx
    obtain ⟨f0, f1, f2, f3, f4, f5⟩ := hf it (by simp)
    refine wpAny_pyNext_list_item st p.isList (x := u) (by simpa using hu) fun h' st' sb => ?_
    have I1 : Inv X pins σ H { s with heap := h' } := I.turned (t' := s.toks) (fun b o hb e => (sb.2 b hb).trans e) f0 f1 f3 f4 f5
    obtain ⟨o, e, c, d⟩ := id st'
    exact ⟨u, rfl, go_of (s := { s with heap := h' }) e c d (by decide) ⟨x, H, I1, ru, ⟨rfl, fun ys hy => by rw [I.list_inj hy hq]; exact hx⟩, st', fun b hb => (hf b hb).1⟩⟩
  done := by
    intro X hP hw hK hc i pins s σ H E I hf st hg
    subst hP hw hK
    obtain ⟨xs, hq, hx⟩ := hg
    obtain ⟨its, rv, p, hz⟩ := I.list hq
    obtain ⟨f0, f1, f2, f3, f4, f5⟩ := hf it (by simp)
    have hl := rv.length
    exact wpAny_pyNext_list_end (I.ok.hd hc) st p.isList (by simp; omega) fun h' eb => ⟨rfl, I.turned (t' := s.toks) (fun b o hb e => eb b o hb e) f0 f1 f3 f4 f5⟩
  self := fun _ _ _ _ _ st h => wpAny_pyIter_listiter st h
theorem turn_tuple {P : Program} {w : World} {K : PySem.W.Frag} {tg : Expr} (a it : Addr) : Turn P w K tg (Itt K a) [it] it (fun i h => h.IsTupleIter it a i) where
  mem := by simp
  obj := fun i h st b hb => by
    have e : b = it := by simpa using hb
    subst e
    obtain ⟨o, e, c, d⟩ := st
    exact ⟨o, e, fun v z => by rw [d] at z; cases z⟩
  keep := fun i h h' st k => st.at fun o e => k it (by simp) o e
  item := by
    intro X hP hw hK hc i pins s σ H E I hf st hg
    subst hP hw hK
    obtain ⟨xs, x, hq, hx⟩ := hg
    obtain ⟨its, rv, p, hz⟩ := I.tuple hq
    obtain ⟨u, hu, ru⟩ := rv.get hx
    obtain ⟨f0, f1, f2, f3, f4, f5⟩ := hf it (by simp)
    refine wpAny_pyNext_tuple_item st (show s.heap.IsTuple a its.toArray from p) (x := u) (by simpa using hu) fun h' st' sb => ?_
    have I1 : Inv X pins σ H { s with heap := h' } := I.turned (t' := s.toks) (fun b o hb e => (sb.2 b hb).trans e) f0 f1 f3 f4 f5
    obtain ⟨o, e, c, d⟩ := id st'
    exact ⟨u, rfl, go_of (s := { s with heap := h' }) e c d (by decide) ⟨x, H, I1, ru, ⟨rfl, fun ys hy => by rw [I.tuple_inj hy hq]; exact hx⟩, st', fun b hb => (hf b hb).1⟩⟩
  done := by
    intro X hP hw hK hc i pins s σ H E I hf st hg
    subst hP hw hK
    obtain ⟨xs, hq, hx⟩ := hg
    obtain ⟨its, rv, p, hz⟩ := I.tuple hq
    obtain ⟨f0, f1, f2, f3, f4, f5⟩ := hf it (by simp)
    have hl := rv.length
    exact wpAny_pyNext_tuple_end (I.ok.hd hc) st (show s.heap.IsTuple a its.toArray from p) (by simp; omega) fun h' eb => ⟨rfl, I.turned (t' := s.toks) (fun b o hb e => eb b o hb e) f0 f1 f3 f4 f5⟩
  self := fun _ _ _ _ _ st h => wpAny_pyIter_tupleiter st h
theorem turn_range {P : Program} {w : World} {K : PySem.W.Frag} {tg : Expr} (it : Addr) (lo : Int) (n : Nat) : Turn P w K tg (Itr lo n) [it] it (fun i h => IsRangeIter h it (lo + (i : Nat) * 1) ((n : Int) - (i : Nat)) 1) where
  mem := by simp
  obj := fun i h st b hb => by
    have e : b = it := by simpa using hb
    subst e
    exact ⟨_, st, fun v z => by
      have z' : Data.fields _ = Data.cell v := z
      cases z'⟩
  keep := fun i h h' st k => k it (by simp) _ st
  item := by
    intro X hP hw hK hc i pins s σ H E I hf st hg
    subst hP hw hK
    obtain ⟨f0, f1, f2, f3, f4, f5⟩ := hf it (by simp)
    have W := Walks.range (prog := X.prog) (w := X.w) (I.ok.hd hc) it lo 1 n
    refine W.item i s _ _ hg st fun v h' tk hv st' kk => ?_
    obtain ⟨t, rfl⟩ := hv
    have I1 : Inv X pins σ H { s with heap := h', toks := tk } := I.turned (fun b o hb e => kk b o (by simpa using hb) e) f0 f1 f3 f4 f5
    refine ⟨_, rfl, go_of (s := { s with heap := h', toks := tk }) (n := "range_iterator") st' rfl rfl (by decide) ⟨.int (lo + i), H, I1, ⟨t, ?_⟩, ⟨rfl, rfl⟩, st', fun b hb => (hf b hb).1⟩⟩
    rw [Int.mul_one]
  done := by
    intro X hP hw hK hc i pins s σ H E I hf st hg
    subst hP hw hK
    obtain ⟨f0, f1, f2, f3, f4, f5⟩ := hf it (by simp)
    exact wpAny_pyNext_range_end (I.ok.hd hc) st (by have : n ≤ i := hg; omega) fun h' eb => ⟨rfl, I.turned (t' := s.toks) (fun b o hb e => eb b o hb e) f0 f1 f3 f4 f5⟩
  self := fun _ _ _ _ _ st h => wpAny_pyIter_rangeiter st h
end L2

namespace L2
open PySem PySem.Spec PyProof.Rows
section
variable {X : Cx} {tg : Expr}
noncomputable def iList (K : PySem.W.Frag) (tl : TE) : TI := fun σ H R => tl σ H fun x H1 => ∃ a, x = .ref a ∧ (∃ xs, SqL K H1 a xs) ∧ R (Itl K a) H1
noncomputable def iTup (K : PySem.W.Frag) (tl : TE) : TI := fun σ H R => tl σ H fun x H1 => ∃ a, x = .ref a ∧ (∃ xs, SqT K H1 a xs) ∧ R (Itt K a) H1
theorem pi_list {l : Expr} {tl : TE} (hl : PE X l tl) : PI X tg l (iList X.K tl) := by
  intro pins s σ H R I h
  refine thn (hl pins s σ H _ I h) fun v s1 hm1_ => ?_
  obtain ⟨x, H1, I1, r1, q1⟩ := hm1_
  obtain ⟨a, e, ⟨xs, hq⟩, q⟩ := q1
  subst e
  cases r1
  obtain ⟨its, rv, p, hz⟩ := I1.list hq
  refine wpAny_pyIter_list p.isList ?_
  refine ⟨s1.heap.objs.size, [s1.heap.objs.size], _, _, H1, rfl, I1.kept (t' := s1.toks) fun b o e => Heap.get?_push_of_some _ e, turn_list a _, ⟨_, Heap.get?_push_size _ rfl, rfl, rfl⟩, fun b hb => ?_, q⟩
  have e : b = s1.heap.objs.size := by simpa using hb
  subst e
  exact I1.fpOk (Nat.le_refl _) (I1.hok.fresh (Nat.le_refl _))
theorem pi_tup {l : Expr} {tl : TE} (hl : PE X l tl) : PI X tg l (iTup X.K tl) := by
  intro pins s σ H R I h
  refine thn (hl pins s σ H _ I h) fun v s1 hm1_ => ?_
  obtain ⟨x, H1, I1, r1, q1⟩ := hm1_
  obtain ⟨a, e, ⟨xs, hq⟩, q⟩ := q1
  subst e
  cases r1
  obtain ⟨its, rv, p, hz⟩ := I1.tuple hq
  refine wpAny_pyIter_tuple (show s1.heap.IsTuple a its.toArray from p) ?_
  refine ⟨s1.heap.objs.size, [s1.heap.objs.size], _, _, H1, rfl, I1.kept (t' := s1.toks) fun b o e => Heap.get?_push_of_some _ e, turn_tuple a _, ⟨_, Heap.get?_push_size _ rfl, rfl, rfl⟩, fun b hb => ?_, q⟩
  have e : b = s1.heap.objs.size := by simpa using hb
  subst e
  exact I1.fpOk (Nat.le_refl _) (I1.hok.fresh (Nat.le_refl _))

theorem range_it {pins : List (Addr × Obj)} {σ : St} {H : Hp} {s : Shared} {R : It → Hp → Prop} {E : Value → Shared → Prop} {lo hi : Int} {t u v : Tok} {tk : Nat} (I : Inv X pins σ H s) (h1 : -(2 ^ 62) ≤ lo) (h2 : lo < 2 ^ 62) (h3 : -(2 ^ 62) ≤ hi) (h4 : hi < 2 ^ 62)
    (q : R (Itr lo (hi - lo).toNat) H) : wpAny (model X.prog X.w) X.A (pyIter (.ref s.heap.objs.size)) (PIE X pins σ tg R) E { s with heap := s.heap.push { cls := .type "range", data := .fields #[.int lo t, .int hi u, .int 1 v] }, toks := tk } := by
  refine wpAny_pyIter_range (IsRange.new ..) (small_one h1 h2 h3 h4) ?_
  have I1 : Inv X pins σ H { s with heap := s.heap.push { cls := .type "range", data := .fields #[.int lo t, .int hi u, .int 1 v] }, toks := tk } := I.kept fun b o e => Heap.get?_push_of_some _ e
  refine ⟨(s.heap.push { cls := .type "range", data := .fields #[.int lo t, .int hi u, .int 1 v] }).objs.size, [(s.heap.push { cls := .type "range", data := .fields #[.int lo t, .int hi u, .int 1 v] }).objs.size], _, _, H, rfl,
    I1.kept (t' := tk) fun b o e => Heap.get?_push_of_some _ e, turn_range _ lo (hi - lo).toNat, ?_, fun b hb => ?_, q⟩
  · have e1 : lo + ((0 : Nat) : Int) * 1 = lo := by simp
    have e2 : (((hi - lo).toNat : Nat) : Int) - ((0 : Nat) : Int) = Builtin.Range.rangeSize lo hi 1 := by rw [rangeSize_one]; split <;> omega
    show IsRangeIter _ _ (lo + ((0 : Nat) : Int) * 1) ((((hi - lo).toNat : Nat) : Int) - ((0 : Nat) : Int)) 1
    rw [e1, e2]
    exact Heap.get?_push_size _ rfl
  · have e : b = (s.heap.push { cls := .type "range", data := .fields #[.int lo t, .int hi u, .int 1 v] }).objs.size := by simpa using hb
    subst e
    exact I1.fpOk (Nat.le_refl _) (I1.hok.fresh (Nat.le_refl _))
noncomputable def iRng1 (ta : TA) : TI := fun σ H R => ta σ H fun vs H1 => ∃ j : Int, vs = [.int j] ∧ -(2 ^ 62) ≤ j ∧ j < 2 ^ 62 ∧ R (Itr 0 j.toNat) H1
theorem pi_range1 {a : Expr} {ta : TA} {p pos : Pos} (hg : Gl X "range") (hm : X.mg "range" = none) (ha : PA X [a] ta) (hs : starEach [a] X.env = [(false, eval a X.env)] := by rfl) : PI X tg (.Call (.Name "range" p) [a] [] pos) (iRng1 ta) := by
  intro pins s σ H R I h
  refine Call_ (ld_blt I hg hm boot_range (PyProof.Rows.callWith_type1 (thn (ha pos pins s σ H _ I h) fun us s1 hm1_ => ?_) hs rfl))
  obtain ⟨vs, H1, I1, r1, q1⟩ := hm1_
  obtain ⟨j, e, q1, q2, q⟩ := q1
  subst e
  cases r1 with
  | cons r rr =>
    cases rr
    obtain ⟨t, rfl⟩ := r
    exact call_range_1 (range_it I1 (by omega) (by omega) q1 q2 (by simpa using q))
noncomputable def tFor (wi : TI) (g : TG) (tb : TS) : TS := fun D σ H => wi σ H fun J H1 => ∃ W : Nat → Nat → St → Hp → Prop, (∃ m, W 0 m σ H1) ∧ ∀ i m σ H, W i m σ H →
  (J.stop i H ∧ D.nx σ H) ∨ (J.go i H ∧ ∃ N : St → Hp → Prop, (∀ σ' H', N σ' H' → ∃ m', m' < m ∧ W (i + 1) m' σ' H') ∧ ∀ x H', J.yld i H x H' → g x σ H' fun σ2 H2 => tb { D with nx := N, ct := N, bk := D.nx } σ2 H2)

noncomputable def pinsAt (fp : List Addr) (h : Heap) : List (Addr × Obj) := fp.filterMap fun b => (h.get? b).map fun o => (b, o)
theorem mem_pinsAt {fp : List Addr} {h : Heap} {b : Addr} {o : Obj} (hb : b ∈ fp) (e : h.get? b = some o) : (b, o) ∈ pinsAt fp h := List.mem_filterMap.mpr ⟨b, hb, by rw [e]; rfl⟩
theorem of_pinsAt {fp : List Addr} {h : Heap} {p : Addr × Obj} (hp : p ∈ pinsAt fp h) : p.1 ∈ fp ∧ h.get? p.1 = some p.2 := by
  obtain ⟨b, hb, e⟩ := List.mem_filterMap.mp hp
  cases q : h.get? b with
  | none => rw [q] at e; cases e
  | some o =>
    rw [q] at e
    have e' : (b, o) = p := Option.some.inj e
    subst e'
    exact ⟨hb, q⟩
theorem Inv.pinned {pins : List (Addr × Obj)} {σ : St} {H : Hp} {s : Shared} {fp : List Addr} (I : Inv X pins σ H s) (hf : ∀ b ∈ fp, FpOk X pins H b) (ho : ∀ b ∈ fp, ∃ o, s.heap.get? b = some o ∧ ∀ v, o.data ≠ .cell v) : Inv X (pins ++ pinsAt fp s.heap) σ H s :=
  I.pins_of fun p hp => (List.mem_append.mp hp).elim (fun z => I.pin p (List.mem_append_right _ z)) fun z => by
    obtain ⟨hb, e⟩ := of_pinsAt z
    obtain ⟨f0, f1, f2, _⟩ := hf p.1 hb
    obtain ⟨o, e', d⟩ := ho p.1 hb
    rw [e] at e'; cases e'
    exact ⟨e, f0, f1, f2, d⟩
theorem Inv.unpinned {pins pl : List (Addr × Obj)} {σ : St} {H : Hp} {s : Shared} (I : Inv X (pins ++ pl) σ H s) : Inv X pins σ H s := I.pins_of fun p hp => I.pin p (List.mem_append_right _ (List.mem_append_left _ hp))
theorem ps_for {iter : Expr} {body : List Stmt} {wi : TI} {g : TG} {tb : TS} {pos : Pos} (hp : PassesOwn (model X.prog X.w) X.A X.env X.xe) (hc : X.calm = true) (hi : PI X tg iter wi) (hg : PG X tg g) (hb : PSs X body tb)
    (hs : ∀ x, foldedSetIterable iter X.env x = pure x := by intro _; rfl) : PS X (.For tg iter body [] pos) (tFor wi g tb) := by
  intro pins s σ H D I h
  refine wpAny_For (thn (hi pins s σ H _ I h) fun v s1 h1 => thn h1 fun itv s2 h2 => ?_) hs
  obtain ⟨it, fp, tn, J, H2, e, I2, T, st2, f2, W, ⟨m0, w0⟩, turn⟩ := h2
  subst e
  have stat : ∀ {H' : Hp}, (∀ b ∈ fp, H' b = none) → ∀ b ∈ fp, FpOk X pins H' b := fun hn b hb => ⟨hn b hb, (f2 b hb).2⟩
  refine codeAny_forLoop_any (fun n s' => ∃ i σ' H', Inv X pins σ' H' s' ∧ tn i s'.heap ∧ (∀ b ∈ fp, H' b = none) ∧ W i n σ' H') ?_ m0 ⟨0, σ, H2, I2, st2, fun b hb => (f2 b hb).1, w0⟩
  rintro n s3 ⟨i, σ3, H3, I3, st3, fr3, w3⟩
  rcases turn i n σ3 H3 w3 with ⟨stop, qn⟩ | ⟨go, N, hN, step⟩
  · refine wpAny_passesOwn hp (thn (T.done X rfl rfl rfl hc i pins s3 σ3 H3 X.xe I3 (stat fr3) st3 stop) fun r s4 hm1_ => ?_)
    obtain ⟨hr, I4⟩ := hm1_
    subst hr
    exact wpAny_execs_nil ⟨σ3, H3, I4, qn⟩
  · refine wpAny_passesOwn hp (thn (T.item X rfl rfl rfl hc i pins s3 σ3 H3 X.xe I3 (stat fr3) st3 go) fun r s4 hm1_ => ?_)
    obtain ⟨u, hr, h4⟩ := hm1_
    subst hr
    refine wpAny_passesOwn hp (thn h4 fun _ s5 hm1_ => ?_)
    obtain ⟨x, H5, I5, r5, y5, st5, fr5⟩ := hm1_
    have I5' := I5.pinned (stat fr5) (T.obj _ _ st5)
    refine wpAny_passesOwn hp (thn (hg _ s5 σ3 H5 x u _ I5' r5 (step x H5 y5)) fun _ s6 hm1_ => ?_)
    obtain ⟨σ6, H6, I6, q6⟩ := hm1_
    refine wpAny_passesOwn hp (thn (hb _ s6 σ6 H6 _ I6 q6) fun f s7 q7 => ?_)
    have again : ∀ {σ7 : St} {H7 : Hp}, Inv X (pins ++ pinsAt fp s5.heap) σ7 H7 s7 → N σ7 H7 → ∃ m, m < n ∧ ∃ i σ' H', Inv X pins σ' H' s7 ∧ tn i s7.heap ∧ (∀ b ∈ fp, H' b = none) ∧ W i m σ' H' := fun {σ7 H7} I7 n7 => by
      obtain ⟨m', hm, w7⟩ := hN σ7 H7 n7
      refine ⟨m', hm, i + 1, σ7, H7, I7.unpinned, T.keep _ _ _ st5 fun b hb o e => (I7.pin (b, o) (List.mem_append_right _ (List.mem_append_right _ (mem_pinsAt hb e)))).1, fun b hb => ?_, w7⟩
      obtain ⟨o, e, d⟩ := T.obj _ _ st5 b hb
      exact (I7.pin (b, o) (List.mem_append_right _ (List.mem_append_right _ (mem_pinsAt hb e)))).2.1
    cases f with
    | next => obtain ⟨σ7, H7, I7, n7⟩ := q7; exact again I7 n7
    | cont => obtain ⟨σ7, H7, I7, n7⟩ := q7; exact again I7 n7
    | brk => obtain ⟨σ7, H7, I7, q7⟩ := q7; exact ⟨σ7, H7, I7.unpinned, q7⟩
    | ret v => obtain ⟨x7, σ7, H7, I7, r7, q7⟩ := q7; exact ⟨x7, σ7, H7, I7.unpinned, r7, q7⟩
end



theorem for_list {K : PySem.W.Frag} {a : Addr} {xs : List V} {g : TG} {tb : TS} {D : Ends} {σ : St} {H : Hp} (Pv : Nat → St → Hp → Prop) (h0 : Pv 0 σ H) (hl : ∀ i σ H, i ≤ xs.length → Pv i σ H → SqL K H a xs)
    (hs : ∀ i x σ H, xs[i]? = some x → Pv i σ H → g x σ H fun σ2 H2 => tb { D with nx := Pv (i + 1), ct := Pv (i + 1), bk := D.nx } σ2 H2) (hd : ∀ σ H, Pv xs.length σ H → D.nx σ H) :
    ∃ W : Nat → Nat → St → Hp → Prop, (∃ m, W 0 m σ H) ∧ ∀ i m σ H, W i m σ H →
      ((Itl K a).stop i H ∧ D.nx σ H) ∨ ((Itl K a).go i H ∧ ∃ N : St → Hp → Prop, (∀ σ' H', N σ' H' → ∃ m', m' < m ∧ W (i + 1) m' σ' H') ∧ ∀ x H', (Itl K a).yld i H x H' → g x σ H' fun σ2 H2 => tb { D with nx := N, ct := N, bk := D.nx } σ2 H2) := by
  refine ⟨fun i m σ H => m = xs.length - i ∧ i ≤ xs.length ∧ Pv i σ H, ⟨xs.length, by simp, Nat.zero_le _, h0⟩, ?_⟩
  rintro i m σ H ⟨rfl, hi, p⟩
  have q := hl i σ H hi p
  by_cases hlt : i < xs.length
  · refine .inr ⟨⟨xs, xs[i], q, by simp [hlt]⟩, Pv (i + 1), fun σ' H' p' => ⟨xs.length - (i + 1), by omega, rfl, hlt, p'⟩, fun x H' y => ?_⟩
    obtain ⟨e, y⟩ := y
    subst e
    exact hs i x σ _ (y xs q) p
  · have e : i = xs.length := by omega
    subst e
    exact .inl ⟨⟨xs, q, Nat.le_refl _⟩, hd σ H p⟩
theorem for_range {lo : Int} {n : Nat} {g : TG} {tb : TS} {D : Ends} {σ : St} {H : Hp} (Pv : Nat → St → Hp → Prop) (h0 : Pv 0 σ H)
    (hs : ∀ i σ H, i < n → Pv i σ H → g (.int (lo + i)) σ H fun σ2 H2 => tb { D with nx := Pv (i + 1), ct := Pv (i + 1), bk := D.nx } σ2 H2) (hd : ∀ σ H, Pv n σ H → D.nx σ H) :
    ∃ W : Nat → Nat → St → Hp → Prop, (∃ m, W 0 m σ H) ∧ ∀ i m σ H, W i m σ H →
      ((Itr lo n).stop i H ∧ D.nx σ H) ∨ ((Itr lo n).go i H ∧ ∃ N : St → Hp → Prop, (∀ σ' H', N σ' H' → ∃ m', m' < m ∧ W (i + 1) m' σ' H') ∧ ∀ x H', (Itr lo n).yld i H x H' → g x σ H' fun σ2 H2 => tb { D with nx := N, ct := N, bk := D.nx } σ2 H2) := by
  refine ⟨fun i m σ H => m = n - i ∧ i ≤ n ∧ Pv i σ H, ⟨n, by simp, Nat.zero_le _, h0⟩, ?_⟩
  rintro i m σ H ⟨rfl, hi, p⟩
  by_cases hlt : i < n
  · refine .inr ⟨hlt, Pv (i + 1), fun σ' H' p' => ⟨n - (i + 1), by omega, rfl, hlt, p'⟩, fun x H' y => ?_⟩
    obtain ⟨e, y⟩ := y
    subst e y
    exact hs i σ _ hlt p
  · have e : i = n := by omega
    subst e
    exact .inl ⟨Nat.le_refl _, hd σ H p⟩

end L2

namespace L2
open PySem PySem.Spec PyProof.Rows

noncomputable abbrev R2 := V → V → Hp → VK → Prop

noncomputable def OpR (X : Cx) (f : Value → Value → Sem Value) (r : R2) : Prop :=
  ∀ (pins : List (Addr × Obj)) (s : Shared) (σ : St) (H : Hp) (x y : V) (v u : Value) (Q : VK), Inv X pins σ H s → RelV x v → RelV y u → r x y H Q →
    wpAny (model X.prog X.w) X.A (f v u) (EP X pins σ Q) X.xe s

noncomputable def UnR (X : Cx) (f : Value → Sem Value) (r : V → Hp → VK → Prop) : Prop :=
  ∀ (pins : List (Addr × Obj)) (s : Shared) (σ : St) (H : Hp) (x : V) (v : Value) (Q : VK), Inv X pins σ H s → RelV x v → r x H Q →
    wpAny (model X.prog X.w) X.A (f v) (EP X pins σ Q) X.xe s

noncomputable def CallR (X : Cx) (f : Value) (r : List V → Hp → VK → Prop) : Prop :=
  ∀ (pins : List (Addr × Obj)) (s : Shared) (σ : St) (H : Hp) (xs : List V) (us : List Value) (Q : VK), Inv X pins σ H s → Vals xs us → r xs H Q →
    wpAny (model X.prog X.w) X.A (call f us) (EP X pins σ Q) X.xe s

noncomputable def tOp (r : R2) (ta tb : TE) : TE := fun σ H Q => ta σ H fun x H1 => tb σ H1 fun y H2 => r x y H2 Q
noncomputable def tUn (r : V → Hp → VK → Prop) (ta : TE) : TE := fun σ H Q => ta σ H fun x H1 => r x H1 Q

noncomputable def rI (C : Int → Int → Prop) (g : Int → Int → V) : R2 := fun x y H Q => ∃ i j, x = .int i ∧ y = .int j ∧ C i j ∧ Q (g i j) H
noncomputable def rI0 (g : Int → Int → V) : R2 := fun x y H Q => ∃ i j, x = .int i ∧ y = .int j ∧ Q (g i j) H
noncomputable def rU (g : Int → V) : V → Hp → VK → Prop := fun x H Q => ∃ i, x = .int i ∧ Q (g i) H

section
variable {X : Cx} {a b c : Expr} {ta tb tc : TE} {pos : Pos}

theorem binT (ha : PE X a ta) (hb : PE X b tb) {pins : List (Addr × Obj)} {s : Shared} {σ : St} {H : Hp} {R : V → V → Hp → Prop} (I : Inv X pins σ H s)
    (h : ta σ H fun x H1 => tb σ H1 fun y H2 => R x y H2) {Q : Value → Shared → Prop} {f : Value → Value → Sem Value}
    (hf : ∀ v u s2 x y H2, Inv X pins σ H2 s2 → RelV x v → RelV y u → R x y H2 → wpAny (model X.prog X.w) X.A (f v u) Q X.xe s2) :
    wpAny (model X.prog X.w) X.A (eval a X.env) (fun v s₁ => wpAny (model X.prog X.w) X.A (eval b X.env) (fun u s₂ => wpAny (model X.prog X.w) X.A (f v u) Q X.xe s₂) X.xe s₁) X.xe s := by
  refine thn (ha pins s σ H _ I h) fun v s1 hm1_ => ?_
  obtain ⟨x, H1, I1, r1, q1⟩ := hm1_
  refine thn (hb pins s1 σ H1 _ I1 q1) fun u s2 hm1_ => ?_
  obtain ⟨y, H2, I2, r2, q2⟩ := hm1_
  exact hf v u s2 x y H2 I2 r1 r2 q2

theorem pe_op {op : Operator} {r : R2} (ho : OpR X (binaryOp op) r) (ha : PE X a ta) (hb : PE X b tb) : PE X (.BinOp a op b pos) (tOp r ta tb) := by
  intro pins s σ H Q I h
  exact wpAny_BinOp (binT ha hb I h fun v u s2 x y H2 I2 rx ry q => ho pins s2 σ H2 x y v u Q I2 rx ry q)
theorem pe_un {op : UnaryOp} {r : V → Hp → VK → Prop} (ho : UnR X (unaryOp op) r) (ha : PE X a ta) : PE X (.UnaryOp op a pos) (tUn r ta) := by
  intro pins s σ H Q I h
  refine UnaryOp_ (thn (ha pins s σ H _ I h) fun v s1 hm1_ => ?_)
  obtain ⟨x, H1, I1, r1, q1⟩ := hm1_
  exact ho pins s1 σ H1 x v Q I1 r1 q1

theorem opI {f : Value → Value → Sem Value} {C : Int → Int → Prop} {g : Int → Int → Int}
    (rule : ∀ (i j : Int) (t u : Tok) (s : Shared) (Q : Value → Shared → Prop) (E : Value → Shared → Prop), C i j → Q (.int (g i j) s.toks) { s with toks := s.toks + 1 } → wpAny (model X.prog X.w) X.A (f (.int i t) (.int j u)) Q E s) :
    OpR X f (rI C fun i j => .int (g i j)) := by
  intro pins s σ H x y v u Q I rx ry h
  obtain ⟨i, j, rfl, rfl, hc, q⟩ := h
  obtain ⟨t, rfl⟩ := rx
  obtain ⟨t', rfl⟩ := ry
  exact rule i j t t' s _ _ hc ⟨.int (g i j), H, I.tok _, ⟨_, rfl⟩, q⟩
theorem opI0 {f : Value → Value → Sem Value} {g : Int → Int → Int}
    (rule : ∀ (i j : Int) (t u : Tok) (s : Shared) (Q : Value → Shared → Prop) (E : Value → Shared → Prop), Q (.int (g i j) s.toks) { s with toks := s.toks + 1 } → wpAny (model X.prog X.w) X.A (f (.int i t) (.int j u)) Q E s) :
    OpR X f (rI0 fun i j => .int (g i j)) := by
  intro pins s σ H x y v u Q I rx ry h
  obtain ⟨i, j, rfl, rfl, q⟩ := h
  obtain ⟨t, rfl⟩ := rx
  obtain ⟨t', rfl⟩ := ry
  exact rule i j t t' s _ _ ⟨.int (g i j), H, I.tok _, ⟨_, rfl⟩, q⟩
theorem opB0 {f : Value → Value → Sem Value} {g : Int → Int → Bool}
    (rule : ∀ (i j : Int) (t u : Tok) (s : Shared) (Q : Value → Shared → Prop) (E : Value → Shared → Prop), Q (.bool (g i j)) s → wpAny (model X.prog X.w) X.A (f (.int i t) (.int j u)) Q E s) :
    OpR X f (rI0 fun i j => .bl (g i j)) := by
  intro pins s σ H x y v u Q I rx ry h
  obtain ⟨i, j, rfl, rfl, q⟩ := h
  obtain ⟨t, rfl⟩ := rx
  obtain ⟨t', rfl⟩ := ry
  exact rule i j t t' s _ _ ⟨.bl (g i j), H, I, rfl, q⟩

noncomputable def CDiv (i j : Int) : Prop := 0 < j ∧ j < 1073741824
noncomputable def CPow (i j : Int) : Prop := 0 ≤ j ∧ j ≤ 1000000 ∧ i.natAbs < 2 ^ 64
theorem op_add : OpR X (binaryOp .Add) (rI0 fun i j => .int (i + j)) := opI0 fun _ _ _ _ _ _ _ q => add_int q
theorem op_sub : OpR X (binaryOp .Sub) (rI0 fun i j => .int (i - j)) := opI0 fun _ _ _ _ _ _ _ q => sub_int q
theorem op_fdiv : OpR X (binaryOp .FloorDiv) (rI CDiv fun i j => .int (i / j)) := opI fun i j _ _ _ _ _ hc q => by
  have h1 : (0 : Int) < j := hc.1
  have h2 : j < 1073741824 := hc.2
  exact floordiv_int (by omega) (by rw [Int.fdiv_eq_ediv_of_nonneg i (by omega)]; exact q) (.inl (PyProof.noPylong_small (by omega)))
theorem op_mod : OpR X (binaryOp .Mod) (rI (fun _ j => 0 < j) fun i j => .int (i % j)) := opI fun i j _ _ _ _ _ hc q => by
  have h1 : (0 : Int) < j := hc
  exact mod_int' (by omega) (by rw [Int.fmod_eq_emod_of_nonneg i (by omega)]; exact q)
theorem op_pow : OpR X (binaryOp .Pow) (rI CPow fun i j => .int (i ^ j.toNat)) := opI fun _ _ _ _ _ _ _ hc q => pow_int_small hc.1 hc.2.1 hc.2.2 q
theorem unI {f : Value → Sem Value} {g : Int → Int}
    (rule : ∀ (i : Int) (t : Tok) (s : Shared) (Q : Value → Shared → Prop) (E : Value → Shared → Prop), Q (.int (g i) s.toks) { s with toks := s.toks + 1 } → wpAny (model X.prog X.w) X.A (f (.int i t)) Q E s) :
    UnR X f (rU fun i => .int (g i)) := by
  intro pins s σ H x v Q I rx h
  obtain ⟨i, rfl, q⟩ := h
  obtain ⟨t, rfl⟩ := rx
  exact rule i t s _ _ ⟨.int (g i), H, I.tok _, ⟨_, rfl⟩, q⟩
theorem un_neg : UnR X (unaryOp .USub) (rU fun i => .int (-i)) := unI fun _ _ _ _ _ q => neg_int q
end



noncomputable def scal : V → V → Bool
  | .non, .non => true | .non, .int _ => true | .int _, .non => true | .non, .bl _ => true | .bl _, .non => true | .non, .str _ => true | .str _, .non => true
  | .int _, .int _ => true | .bl _, .bl _ => true | .str _, .str _ => true | .byt _, .byt _ => true
  | .int _, .str _ => true | .str _, .int _ => true | .bl _, .str _ => true | .str _, .bl _ => true
  | _, _ => false
noncomputable def rEq : R2 := fun x y H Q => scal x y = true ∧ Q (.bl (decide (x = y))) H
noncomputable def rNe : R2 := fun x y H Q => scal x y = true ∧ Q (.bl (!decide (x = y))) H

theorem dec_int {i j : Int} : decide (V.int i = V.int j) = (i == j) := by
  rw [Bool.eq_iff_iff]
  simp
theorem dec_bl {i j : Bool} : decide (V.bl i = V.bl j) = (i == j) := by
  rw [Bool.eq_iff_iff]
  simp
theorem dec_str {i j : Str} : decide (V.str i = V.str j) = (i == j) := by
  rw [Bool.eq_iff_iff]
  simp
theorem dec_byt {i j : Array UInt8} : decide (V.byt i = V.byt j) = (i.toList == j.toList) := by
  rw [Bool.eq_iff_iff]
  cases i
  cases j
  simp

section
variable {X : Cx} {a b c : Expr} {ta tb tc : TE} {pos : Pos}
theorem fin_bl {pins : List (Addr × Obj)} {σ : St} {H : Hp} {s : Shared} {Q : VK} {k k' : Bool} (I : Inv X pins σ H s) (q : Q (.bl k) H) (e : k = k') : EP X pins σ Q (.bool k') s := by
  subst e
  exact ⟨.bl k, H, I, rfl, q⟩
theorem op_eq : OpR X (compareOp .Eq) rEq := by
  intro pins s σ H x y v u Q I rx ry h
  obtain ⟨hs, q⟩ := h
  cases x with
  | non =>
    cases rx
    cases y with
    | non => cases ry; exact PySem.EqNone.eq_none_none (fin_bl I q (by simp))
    | bl j => cases ry; exact PySem.EqNone.eq_none_bool (fin_bl I q (by simp))
    | int j => obtain ⟨t', rfl⟩ := ry; exact PySem.EqNone.eq_none_int (fin_bl I q (by simp))
    | str j => obtain ⟨t', rfl⟩ := ry; exact PySem.EqNone.eq_none_str (fin_bl I q (by simp))
    | _ => exact absurd (show false = true from hs) Bool.false_ne_true
  | bl i =>
    cases rx
    cases y with
    | non => cases ry; exact PySem.EqNone.eq_bool_none (fin_bl I q (by simp))
    | bl j => cases ry; exact eq_bool (fin_bl I q dec_bl)
    | str j => obtain ⟨t', rfl⟩ := ry; exact PySem.EqMixed.eq_bool_str (fin_bl I q (by simp))
    | _ => exact absurd (show false = true from hs) Bool.false_ne_true
  | int i =>
    obtain ⟨t, rfl⟩ := rx
    cases y with
    | non => cases ry; exact PySem.EqNone.eq_int_none (fin_bl I q (by simp))
    | int j => obtain ⟨t', rfl⟩ := ry; exact eq_int (fin_bl I q dec_int)
    | str j => obtain ⟨t', rfl⟩ := ry; exact PySem.EqMixed.eq_int_str (fin_bl I q (by simp))
    | _ => exact absurd (show false = true from hs) Bool.false_ne_true
  | str i =>
    obtain ⟨t, rfl⟩ := rx
    cases y with
    | non => cases ry; exact PySem.EqNone.eq_str_none (fin_bl I q (by simp))
    | bl j => cases ry; exact PySem.EqMixed.eq_str_bool (fin_bl I q (by simp))
    | int j => obtain ⟨t', rfl⟩ := ry; exact PySem.EqMixed.eq_str_int (fin_bl I q (by simp))
    | str j => obtain ⟨t', rfl⟩ := ry; exact eq_str (fin_bl I q dec_str)
    | _ => exact absurd (show false = true from hs) Bool.false_ne_true
  | byt i =>
    obtain ⟨t, rfl⟩ := rx
    cases y with
    | byt j => obtain ⟨t', rfl⟩ := ry; exact PySem.W.eq_bytes (fin_bl I q dec_byt)
    | _ => exact absurd (show false = true from hs) Bool.false_ne_true
  | _ => cases y <;> exact absurd (show false = true from hs) Bool.false_ne_true
theorem op_ne : OpR X (compareOp .NotEq) rNe := by
  intro pins s σ H x y v u Q I rx ry h
  obtain ⟨hs, q⟩ := h
  cases x with
  | non =>
    cases rx
    cases y with
    | non => cases ry; exact PySem.EqNone.ne_none_none (fin_bl I q (by simp))
    | bl j => cases ry; exact PySem.EqNone.ne_none_bool (fin_bl I q (by simp))
    | int j => obtain ⟨t', rfl⟩ := ry; exact PySem.EqNone.ne_none_int (fin_bl I q (by simp))
    | str j => obtain ⟨t', rfl⟩ := ry; exact PySem.EqNone.ne_none_str (fin_bl I q (by simp))
    | _ => exact absurd (show false = true from hs) Bool.false_ne_true
  | bl i =>
    cases rx
    cases y with
    | non => cases ry; exact PySem.EqNone.ne_bool_none (fin_bl I q (by simp))
    | bl j => cases ry; exact ne_bool (fin_bl I q (congrArg not dec_bl))
    | str j => obtain ⟨t', rfl⟩ := ry; exact PySem.EqMixed.ne_bool_str (fin_bl I q (by simp))
    | _ => exact absurd (show false = true from hs) Bool.false_ne_true
  | int i =>
    obtain ⟨t, rfl⟩ := rx
    cases y with
    | non => cases ry; exact PySem.EqNone.ne_int_none (fin_bl I q (by simp))
    | int j => obtain ⟨t', rfl⟩ := ry; exact ne_int (fin_bl I q (congrArg not dec_int))
    | str j => obtain ⟨t', rfl⟩ := ry; exact PySem.EqMixed.ne_int_str (fin_bl I q (by simp))
    | _ => exact absurd (show false = true from hs) Bool.false_ne_true
  | str i =>
    obtain ⟨t, rfl⟩ := rx
    cases y with
    | non => cases ry; exact PySem.EqNone.ne_str_none (fin_bl I q (by simp))
    | bl j => cases ry; exact PySem.EqMixed.ne_str_bool (fin_bl I q (by simp))
    | int j => obtain ⟨t', rfl⟩ := ry; exact PySem.EqMixed.ne_str_int (fin_bl I q (by simp))
    | str j => obtain ⟨t', rfl⟩ := ry; exact ne_str (fin_bl I q (congrArg not dec_str))
    | _ => exact absurd (show false = true from hs) Bool.false_ne_true
  | byt i =>
    obtain ⟨t, rfl⟩ := rx
    cases y with
    | byt j => obtain ⟨t', rfl⟩ := ry; exact PySem.W.ne_bytes (fin_bl I q (congrArg not dec_byt))
    | _ => exact absurd (show false = true from hs) Bool.false_ne_true
  | _ => cases y <;> exact absurd (show false = true from hs) Bool.false_ne_true

theorem op_lt : OpR X (compareOp .Lt) (rI0 fun i j => .bl (decide (i < j))) := opB0 fun _ _ _ _ _ _ _ q => lt_int q
theorem op_le : OpR X (compareOp .LtE) (rI0 fun i j => .bl (decide (i ≤ j))) := opB0 fun _ _ _ _ _ _ _ q => le_int q
theorem op_gt : OpR X (compareOp .Gt) (rI0 fun i j => .bl (decide (j < i))) := opB0 fun _ _ _ _ _ _ _ q => gt_int q
theorem op_isN : OpR X (compareOp .Is) (fun x y H Q => y = .non ∧ Q (.bl (decide (x = .non))) H) := by
  intro pins s σ H x y v u Q I rx ry h
  obtain ⟨rfl, q⟩ := h
  cases ry
  refine is_none_gen (fin_bl I q ?_)
  cases x <;> first
    | (cases rx; rfl)
    | (obtain ⟨t, rfl⟩ := rx; rfl)
theorem nomark (b : Expr) {op : CmpOp} (h : op ≠ .In := by decide) (h2 : op ≠ .NotIn := by decide) : behindInMarks op b = false := by
  have e1 : (op == CmpOp.In) = false := by cases op <;> first | rfl | exact absurd rfl h
  have e2 : (op == CmpOp.NotIn) = false := by cases op <;> first | rfl | exact absurd rfl h2
  cases b <;> simp [behindInMarks, e1, e2]

theorem pe_cmpR {op : CmpOp} {r : R2} (ho : OpR X (compareOp op) r) (ha : PE X a ta) (hb : PE X b tb) (hm : behindInMarks op b = false) : PE X (.Compare a [op] [b] pos) (tOp r ta tb) := by
  intro pins s σ H Q I h
  exact wpAny_Compare1 (binT ha hb I h fun v u s2 x y H2 I2 rx ry q => ho pins s2 σ H2 x y v u Q I2 rx ry q) hm

noncomputable def tTest (t : TE) : TT := fun σ H Q => t σ H fun x H' => ∃ k, x = .bl k ∧ Q k H'
theorem pt_cmpR {op : CmpOp} {r : R2} (ho : OpR X (compareOp op) r) (ha : PE X a ta) (hb : PE X b tb) (hm : behindInMarks op b = false) : PT X (.Compare a [op] [b] pos) (tTest (tOp r ta tb)) := by
  intro pins s σ H Q I h
  refine wpAny_isTrue_Compare1 (thn (ha pins s σ H _ I h) fun v s1 hm1_ => ?_) hm
  obtain ⟨x, H1, I1, r1, q1⟩ := hm1_
  refine thn (hb pins s1 σ H1 _ I1 q1) fun u s2 hm2_ => ?_
  obtain ⟨y, H2, I2, r2, q2⟩ := hm2_
  refine thn (ho pins s2 σ H2 x y v u _ I2 r1 r2 q2) fun c s3 hm3_ => ?_
  obtain ⟨z, H3, I3, r3, k, e, q3⟩ := hm3_
  subst e
  cases r3
  exact wpAny_truthy_bool ⟨H3, I3, q3⟩

noncomputable def tChain (r r' : R2) (ta tb tc : TE) : TE := fun σ H Q => ta σ H fun x H1 => tb σ H1 fun y H2 => r x y H2 fun z H3 => ∃ k, z = .bl k ∧
  (if k = true then tc σ H3 fun w' H4 => r' y w' H4 Q else Q (.bl false) H3)
theorem pe_chain {op op' : CmpOp} {r r' : R2} (ho : OpR X (compareOp op) r) (ho' : OpR X (compareOp op') r') (ha : PE X a ta) (hb : PE X b tb) (hc : PE X c tc)
    (hm : lastMarks [op, op'] [b, c] = false := by with_unfolding_all rfl) : PE X (.Compare a [op, op'] [b, c] pos) (tChain r r' ta tb tc) := by
  intro pins s σ H Q I h
  refine Compare_chain (thn (ha pins s σ H _ I h) fun v s1 hm1_ => ?_) hm
  obtain ⟨x, H1, I1, r1, q1⟩ := hm1_
  refine chain_link (thn (hb pins s1 σ H1 _ I1 q1) fun u s2 hm2_ => ?_)
  obtain ⟨y, H2, I2, r2, q2⟩ := hm2_
  refine thn (ho pins s2 σ H2 x y v u _ I2 r1 r2 q2) fun d s3 hm3_ => ?_
  obtain ⟨z, H3, I3, r3, k, e, q3⟩ := hm3_
  subst e
  cases r3
  refine wpAny_truthy_bool ?_
  cases k with
  | false => exact ite_ff ⟨.bl false, H3, I3, rfl, q3⟩
  | true => exact ite_tt (chain_last (thn (hc pins s3 σ H3 _ I3 q3) fun w' s4 ⟨z', H4, I4, r4, q4⟩ => ho' pins s4 σ H4 y z' u w' Q I4 r2 r4 q4))
theorem line63 : (sizeLine : Nat) < 2 ^ 63 := by rw [sizeLine_eq]; decide
theorem vals1 {x : V} {us : List Value} (r : Vals [x] us) : ∃ u, us = [u] ∧ RelV x u := by
  cases r with
  | cons r1 r2 => cases r2; exact ⟨_, rfl, r1⟩
theorem vals2 {x y : V} {us : List Value} (r : Vals [x, y] us) : ∃ u w', us = [u, w'] ∧ RelV x u ∧ RelV y w' := by
  cases r with
  | cons r1 r2 =>
    cases r2 with
    | cons r3 r4 => cases r4; exact ⟨_, _, rfl, r1, r3⟩
theorem call_max2 (hc : X.calm = true) : CallR X (.builtin "max") (fun xs H Q => ∃ i j, xs = [.int i, .int j] ∧ Q (.int (if j > i then j else i)) H) := by
  intro pins s σ H xs us Q I r h
  obtain ⟨i, j, rfl, q⟩ := h
  obtain ⟨u, w', rfl, ⟨t, rfl⟩, ⟨t', rfl⟩⟩ := vals2 r
  refine max_two_ints (I.ok.hd hc) fun h' tk k => ⟨_, H, I.kept k, ?_, q⟩
  by_cases hj : j > i
  · rw [if_pos hj, if_pos hj]; exact ⟨_, rfl⟩
  · rw [if_neg hj, if_neg hj]; exact ⟨_, rfl⟩
theorem call_int1 : CallR X (.type "int") (fun xs H Q => (∃ i, xs = [.int i] ∧ Q (.int i) H) ∨ ∃ k, xs = [.bl k] ∧ Q (.int (if k then 1 else 0)) H) := by
  intro pins s σ H xs us Q I r h
  rcases h with ⟨i, rfl, q⟩ | ⟨k, rfl, q⟩
  · obtain ⟨u, rfl, t, rfl⟩ := vals1 r
    exact call_int_int ⟨.int i, H, I, ⟨_, rfl⟩, q⟩
  · obtain ⟨u, rfl, r1⟩ := vals1 r
    cases r1
    exact call_int_bool ⟨.int (if k then 1 else 0), H, I.tok _, ⟨_, rfl⟩, q⟩
end
end L2

namespace L2
open PySem PySem.Spec PyProof.Rows


section
variable {prog : Program} {w : World} {A : Around} {E : Value → Shared → Prop} {s : Shared} {K : PySem.W.Frag} {x dx C f : Addr} {mA : Str → Option Value} {name : Str} {v : Value}

end


theorem RelO.some_of {v : V} {o : Option Value} (r : RelO (some v) o) : ∃ u, o = some u ∧ RelV v u := by
  cases o with
  | none => exact (show False from r).elim
  | some u => exact ⟨u, rfl, r⟩
theorem RelO.none_of {o : Option Value} (r : RelO none o) : o = none := by
  cases o with
  | none => rfl
  | some u => exact (show False from r).elim
section
variable {P : Program} {w : World} {H H' : Hp} {h h' : Heap} {a C dx : Addr} {fs fs' : List (Str × V)}
end


section
variable {X : Cx} {pins : List (Addr × Obj)} {σ : St} {H : Hp} {s : Shared} {a C dx : Addr} {fs : List (Str × V)} {f : Str} {v : V} {A : Around} {E : Value → Shared → Prop}

end



section
variable {X : Cx} {o e value : Expr} {f : Str} {pos pos' tpos : Pos} {ta tv : TE}
end


section
variable {X : Cx} {pins : List (Addr × Obj)} {σ : St} {H : Hp} {s : Shared} {A : Around} {E : Value → Shared → Prop} {Q : Value → Shared → Prop} {c : Value} {b : Bool}

end
end L2

namespace L2
open PySem PySem.Spec PyProof.Rows


structure Room (k : Nat) (A : Around) : Prop where
  hd : A.handled = none
  dp : A.depth + 3 * k + 5 < recursionLimit
  un : A.units + 16 * k + 200 < cLine
  gd : A.guards = some []
theorem Room.mono {j k : Nat} {A : Around} (r : Room k A) (h : j ≤ k) : Room j A := ⟨r.hd, by have := r.dp; omega, by have := r.un; omega, r.gd⟩
theorem Room.deeper {k : Nat} {A : Around} (r : Room (k + 1) A) (env : Env) : Room k (A.deeper env) :=
  ⟨r.hd, by have := r.dp; show A.depth + 1 + 3 * k + 5 < _; omega, by have := r.un; show A.units + 3 + 16 * k + 200 < _; omega, r.gd⟩
theorem Room.depth {k : Nat} {A : Around} (r : Room k A) : A.depth < recursionLimit := by have := r.dp; omega
theorem Room.units {k : Nat} {A : Around} (r : Room k A) : A.units + 64 < cLine := by have := r.un; omega
noncomputable def tNil : TA := fun _ H Q => Q [] H
noncomputable def tCons (ta : TE) (tr : TA) : TA := fun σ H Q => ta σ H fun x H1 => tr σ H1 fun xs H2 => Q (x :: xs) H2
section
variable {X : Cx} {e : Expr} {es : List Expr} {te : TE} {t : TA} {pos : Pos}
theorem pa_nil : PA X [] tNil := fun _ _ _ _ H Q I h => Calls.spliced_nil ⟨[], H, I, .nil, h⟩
theorem pa_cons (ha : PE X e te) (hr : PA X es t) (hs : starEach (e :: es) X.env = (false, eval e X.env) :: starEach es X.env := by rfl) : PA X (e :: es) (tCons te t) := by
  intro pos pins s σ H Q I h
  rw [hs]
  show wpAny _ _ (spliced ((false, eval e X.env) :: backTo pos (starEach es X.env))) _ _ s
  refine Calls.spliced_cons (thn (ha pins s σ H _ I h) fun u s1 hm1_ => ?_)
  obtain ⟨x, H1, I1, r1, q1⟩ := hm1_
  refine thn (hr pos pins s1 σ H1 _ I1 q1) fun us s2 hm1_ => ?_
  obtain ⟨xs, H2, I2, r2, q2⟩ := hm1_
  exact ⟨x :: xs, H2, I2, .cons r1 r2, q2⟩


noncomputable def tTup (t : TA) : TE := fun σ H Q => t σ H fun xs H1 => xs.length ≤ sizeLine ∧ ∀ p, H1 p = none → Q (.ref p) (upd H1 p (.tup xs))
noncomputable def tLst (t : TA) : TE := fun σ H Q => t σ H fun xs H1 => xs.length ≤ sizeLine ∧ ∀ p, H1 p = none → Q (.ref p) (upd H1 p (.lst xs))
theorem pe_tup {x1} (h : PA X es t) : PE X (.Tuple es x1 pos) (tTup t) := by
  intro pins s σ H Q I hq
  refine wpAny_Tuple_spliced (thn (h pos pins s σ H _ I hq) fun us s1 ⟨xs, H1, I1, r, z, q⟩ => ⟨by rw [← r.length]; exact z, ?_⟩)
  have hf : H1 s1.heap.objs.size = none := I1.hok.fresh (Nat.le_refl _)
  refine ⟨.ref s1.heap.objs.size, upd H1 s1.heap.objs.size (.tup xs), I1.laid (t' := s1.toks) (fun b u e => Heap.get?_push_of_some _ e) (Nat.le_refl _) ?_, rfl, q _ hf⟩
  exact ⟨z, us, r, ⟨_, Heap.get?_push_size _ rfl, rfl, rfl, _, rfl⟩⟩
theorem pe_lst (h : PA X es t) : PE X (.List es pos) (tLst t) := by
  intro pins s σ H Q I hq
  refine wpAny_List_spliced (thn (h pos pins s σ H _ I hq) fun us s1 ⟨xs, H1, I1, r, z, q⟩ => ⟨by rw [← r.length]; exact z, ?_⟩)
  have hf : H1 s1.heap.objs.size = none := I1.hok.fresh (Nat.le_refl _)
  refine ⟨.ref s1.heap.objs.size, upd H1 s1.heap.objs.size (.lst xs), I1.laid (t' := s1.toks) (fun b u e => Heap.get?_push_of_some _ e) (Nat.le_refl _) ?_, rfl, q _ hf⟩
  exact ⟨z, us, 0, r, Heap.get?_push_size _ rfl⟩
end



noncomputable abbrev Sp := List V → Hp → VK → XK → Prop

noncomputable abbrev CXT := List Env → Hp → Shared → XK → Value → Shared → Prop


structure Env0 (P : Program) (w : World) (K : PySem.W.Frag) (mg : Str → Option Value) (base : Heap) (A : Around) (outer : List Env) (s : Shared) (H : Hp) : Prop where
  frames : A.frames = some outer
  mod : Mod K mg base
  bs : ∀ b o, base.get? b = some o → s.heap.get? b = some o ∧ H b = none
  bsz : base.objs.size ≤ s.heap.objs.size
  funs : s.heap.FunFrames base outer
  frf : ∀ b ∈ frs outer, H b = none
  hok : HOk P w H s.heap
  bare : AllBare s.gens

noncomputable def CE (outer : List Env) (P : Program) (w : World) (H : Hp) (s : Shared) (Q : VK) (u : Value) (s' : Shared) : Prop :=
  ∃ v H', s'.os = s.os ∧ AllBare s'.gens ∧ Un (frs outer) [] H H' s.heap s'.heap ∧ HOk P w H' s'.heap ∧ RelV v u ∧ Q v H'
noncomputable def CR (CX : CXT) (outer : List Env) (P : Program) (w : World) (H : Hp) (s : Shared) (Q : VK) (E : XK) (r : Result) (s' : Shared) : Prop :=
  match r with
  | .ok (.ret u) => CE outer P w H s Q u s'
  | .ok _ => False
  | .error e => CX outer H s E e s'
structure FnOk (P : Program) (w : World) (K : PySem.W.Frag) (mg : Str → Option Value) (base : Heap) (CX : CXT) (k : Nat) (f : Addr) (fd : FuncData) (ps : List Str) (sp : Sp) : Prop where
  len : ∀ vs H Q E, sp vs H Q E → vs.length = ps.length
  run : ∀ (A : Around) (outer : List Env) (s : Shared) (H : Hp) (args : Args) (us : List Value) (vs : List V) (Q : VK) (E : XK), Room k A → Env0 P w K mg base A outer s H → BindsTo s fd args (ps.zip us) → Vals vs us → sp vs H Q E →
    codeAny (model P w) A (.call (.ref f) args) (CR CX outer P w H s Q E) s
section
variable {X : Cx} {pins : List (Addr × Obj)} {σ : St} {H : Hp} {s s' : Shared}

theorem Inv.env0 (I : Inv X pins σ H s) : Env0 X.prog X.w X.K X.mg X.base X.A X.stack s H :=
  ⟨I.ok.frames, I.ok.mod, I.bs, Nat.le_trans I.ok.bsz I.sz, I.stack, I.stkFree, I.hok, I.bare⟩

theorem Inv.after {Q : VK} {u : Value} (I : Inv X pins σ H s) (h : CE X.stack X.prog X.w H s Q u s') : EP X pins σ Q u s' := by
  obtain ⟨v, H', os, bare, un, hok, r, q⟩ := h
  obtain ⟨hh, g, d, t, os'⟩ := s'
  obtain rfl : os' = s.os := os
  exact ⟨v, H', I.call (h' := hh) (g' := g) (d' := d) (t' := t) (ch := []) un hok bare (fun b z => absurd z (by simp)), r, q⟩
end



noncomputable def tCall (sp : Sp) (dvs : List V) (E : XK) (t : TA) : TE := fun σ H Q => t σ H fun vs H1 => sp (vs ++ dvs) H1 Q E

noncomputable def Binds (K : PySem.W.Frag) (fd : FuncData) (ps : List Str) (ds : List Value) : Prop :=
  ∀ (s : Shared) (us : List Value), K.In s.heap → (us ++ ds).length = ps.length → BindsTo s fd ⟨us, []⟩ (ps.zip (us ++ ds))

theorem Binds.all {K : PySem.W.Frag} {fd : FuncData} {ps : List Str} (h : ∀ us : List Value, us.length = ps.length → bindArgs fd ⟨us, []⟩ = pure (ps.zip us)) : Binds K fd ps [] := fun s us _ hl => by
  rw [List.append_nil] at hl ⊢
  exact .of_eq (h us hl)


noncomputable def Passes (CX : CXT) (X : Cx) (E : XK) : Prop := ∀ (pins : List (Addr × Obj)) (σ : St) (H : Hp) (s : Shared) (e : Value) (s' : Shared), Inv X pins σ H s → CX X.stack H s E e s' → X.xe e s'

section
variable {X : Cx} {CX : CXT} {k : Nat} {f C : Addr} {fd : FuncData} {ps : List Str} {sp : Sp} {dvs : List V} {ds : List Value} {E : XK} {x m : Str} {p pos apos : Pos} {e o : Expr} {es : List Expr} {ta : TE} {t : TA}


theorem run_fn {pins : List (Addr × Obj)} {σ : St} {H : Hp} {s : Shared} {Q : VK} {us : List Value} {vs : List V} (F : FnOk X.prog X.w X.K X.mg X.base CX k f fd ps sp) (hr : Room k X.A) (hb : Binds X.K fd ps ds) (hd : Vals dvs ds) (hx : Passes CX X E)
    (I : Inv X pins σ H s) (r : Vals vs us) (h : sp (vs ++ dvs) H Q E) : wpAny (model X.prog X.w) X.A (call (.ref f) us) (EP X pins σ Q) X.xe s := by
  have r2 : Vals (vs ++ dvs) (us ++ ds) := r.append hd
  have hl : (us ++ ds).length = ps.length := by rw [← r2.length]; exact F.len _ _ _ _ h
  refine wpAny_call (codeAny_mono (F.run X.A X.stack s H ⟨us, []⟩ (us ++ ds) (vs ++ dvs) Q E hr I.env0 (hb s us I.kIn hl) r2 h) fun r s' hq => ?_)
  cases r with
  | error e => exact hx pins σ H s e s' I hq
  | ok fl =>
    cases fl with
    | ret u => exact I.after hq
    | next => exact False.elim hq
    | brk => exact False.elim hq
    | cont => exact False.elim hq

theorem pe_call (F : FnOk X.prog X.w X.K X.mg X.base CX k f fd ps sp) (hr : Room k X.A) (hg : Gl X x) (hm : X.mg x = some (.ref f)) (hk : PySem.W.keepIn X.K (.ref f) = true) (hb : Binds X.K fd ps ds) (hd : Vals dvs ds) (hx : Passes CX X E)
    (ha : PA X (e :: es) t) (hdb : (x == ("__debug__" : Str)) = false := by decide) (he : starEach (e :: es) X.env = (false, eval e X.env) :: starEach es X.env := by rfl) (hpl : (backTo pos (starEach es X.env)).any (·.1) = false := by rfl) :
    PE X (.Call (.Name x p) (e :: es) [] pos) (tCall sp dvs E t) := by
  intro pins s σ H Q I h
  refine wpAny_Call_Name_kw (ld_glob I hg hm ?_ hdb)
  refine PySem.W.callWith_K (h₀ := X.base) I.ok.mod.kin hk (thn (ha pos pins s σ H _ I h) fun us s1 hm1_ => ?_) he hpl
  obtain ⟨vs, H1, I1, r, q⟩ := hm1_
  refine ⟨I1.kIn, ?_⟩
  exact run_fn F hr hb hd hx I1 r q
end



section
variable {X : Cx} {CX : CXT} {k : Nat} {f C : Addr} {fd : FuncData} {ps ks : List Str} {sp : Sp} {E : XK} {x m : Str} {p pos apos kpos : Pos} {e o : Expr} {es : List Expr} {kws : List Keyword} {te ta : TE} {t tk : TA} {nm : Option Str}
variable {g : List Value → List Value → List Value} {gV : List V → List V → List V}
end



structure FnScope (N P : List Str) (sc : Scope) : Prop where
  kind : sc.kind = .function
  co : sc.isCoroutine = false
  gen : sc.isGenerator = false
  nd : N.Nodup
  pre : N.take P.length = P
  par : ∀ x ∈ P, sc.names.lookup x = some .local ∨ sc.names.lookup x = some .cell
  nofree : ∀ y ∈ sc.names, y.2 ≠ .free

theorem bindL_out {kindOf : Str → Option NameKind} {x : Str} : ∀ {binds : List (Str × Value)} {m : Str → Option Value}, (∀ v, (x, v) ∉ binds) → bindL kindOf binds m x = m x
  | [], _, _ => rfl
  | (n, v) :: r, m, h => by
    unfold bindL
    rw [bindL_out fun w hw => h w (List.mem_cons_of_mem _ hw)]
    split
    · have : x ≠ n := by rintro rfl; exact h v List.mem_cons_self
      simp [this]
    · rfl
theorem bindC_out {kindOf : Str → Option NameKind} {x : Str} : ∀ {binds : List (Str × Value)} {m : Str → Option Value}, (∀ v, (x, v) ∉ binds) → bindC kindOf binds m x = m x
  | [], _, _ => rfl
  | (n, v) :: r, m, h => by
    unfold bindC
    rw [bindC_out fun w hw => h w (List.mem_cons_of_mem _ hw)]
    split
    · rfl
    · have : x ≠ n := by rintro rfl; exact h v List.mem_cons_self
      simp [this]
theorem bindL_get {kindOf : Str → Option NameKind} {x : Str} {v : Value} : ∀ {P : List Str} {vs : List Value} {i : Nat} {m : Str → Option Value}, P.Nodup → P[i]? = some x → vs[i]? = some v → kindOf x = some .local →
    bindL kindOf (P.zip vs) m x = some v
  | [], _, _, _, _, h, _, _ => by simp at h
  | _ :: _, [], _, _, _, _, h, _ => by simp at h
  | p :: P, w :: vs, 0, m, nd, h1, h2, hk => by
    simp at h1 h2; subst h1; subst h2
    show bindL kindOf ((p, w) :: P.zip vs) m p = _
    unfold bindL
    rw [bindL_out fun v hv => (List.nodup_cons.mp nd).1 (List.of_mem_zip hv).1, if_pos hk]
    simp
  | p :: P, w :: vs, i + 1, m, nd, h1, h2, hk => by
    show bindL kindOf ((p, w) :: P.zip vs) m x = _
    unfold bindL
    exact bindL_get (i := i) (List.nodup_cons.mp nd).2 (by simpa using h1) (by simpa using h2) hk
theorem bindC_get {kindOf : Str → Option NameKind} {x : Str} {v : Value} : ∀ {P : List Str} {vs : List Value} {i : Nat} {m : Str → Option Value}, P.Nodup → P[i]? = some x → vs[i]? = some v → kindOf x ≠ some .local →
    bindC kindOf (P.zip vs) m x = some v
  | [], _, _, _, _, h, _, _ => by simp at h
  | _ :: _, [], _, _, _, _, h, _ => by simp at h
  | p :: P, w :: vs, 0, m, nd, h1, h2, hk => by
    simp at h1 h2; subst h1; subst h2
    show bindC kindOf ((p, w) :: P.zip vs) m p = _
    unfold bindC
    rw [bindC_out fun v hv => (List.nodup_cons.mp nd).1 (List.of_mem_zip hv).1, if_neg hk]
    simp
  | p :: P, w :: vs, i + 1, m, nd, h1, h2, hk => by
    show bindC kindOf ((p, w) :: P.zip vs) m x = _
    unfold bindC
    exact bindC_get (i := i) (List.nodup_cons.mp nd).2 (by simpa using h1) (by simpa using h2) hk


noncomputable def start (N : List Str) (vs : List V) : St := vs.map some ++ List.replicate (N.length - vs.length) none


noncomputable def cxOf (CX : CXT) (P : Program) (w : World) (K : PySem.W.Frag) (mg : Str → Option Value) (base : Heap) (N : List Str) (qual : Str) (scope : Scope) (f : Addr) (cd : Value) (A : Around) (outer : List Env) (s : Shared) (H : Hp) (E : XK) : Cx where
  prog := P
  w := w
  K := K
  mg := mg
  base := base
  A := A.deeper (envOfC qual scope s.heap.objs.size f cd)
  N := N
  s₀ := s
  H₀ := H
  env := envOfC qual scope s.heap.objs.size f cd
  outer := outer
  stack := envOfC qual scope s.heap.objs.size f cd :: outer
  ex := []
  calm := true
  fn := fun _ => true
  pn := []
  xe := fun e s' => wpAny (model P w) (A.deeper (envOfC qual scope s.heap.objs.size f cd)) (leaving (envOfC qual scope s.heap.objs.size f cd) e) (fun _ s'' => CX outer H s E e s'') (fun e' s'' => CX outer H s E e' s'') s'

theorem cell_has {sc : Scope} {n : Nat} {x : Str} (h : sc.names.lookup x = some .cell) : ∃ c, (cellsFrom n sc.names []).lookup x = some c := by
  have q := PySem.W.cellsFrom_some sc.names n [] (.inl h)
  exact Option.isSome_iff_exists.mp q

theorem inv_start {CX : CXT} {P : Program} {w : World} {K : PySem.W.Frag} {mg : Str → Option Value} {base : Heap} {N ps : List Str} {qual : Str} {scope : Scope} {f : Addr} {cd : Value} {A : Around} {outer : List Env} {s s1 : Shared} {H : Hp} {E : XK} {us : List Value} {vs : List V}
    (S : FnScope N ps scope) (hd : A.handled = none) (e0 : Env0 P w K mg base A outer s H) (hl : vs.length = ps.length) (r : Vals vs us)
    (x : InCallC s s.heap.objs.size (bindL (envOfC qual scope s.heap.objs.size f cd).kindOf (ps.zip us) fun _ => none) (cellsFrom (s.heap.objs.size + 1) scope.names []) (bindC (envOfC qual scope s.heap.objs.size f cd).kindOf (ps.zip us) fun _ => none) s1) :
    Inv (cxOf CX P w K mg base N qual scope f cd A outer s H E) [] (start N vs) H s1 := by
  have hpl : ps.length ≤ N.length := by have := congrArg List.length S.pre; rw [List.length_take] at this; omega
  obtain ⟨h1, tk, rfl, hk⟩ := x.done
  have noA : ∀ b : Addr, b ∉ (cxOf CX P w K mg base N qual scope f cd A outer s H E).ex := fun b z => absurd (show b ∈ ([] : List Addr) from z) (by simp)
  refine ⟨⟨e0.mod, S.kind, rfl, rfl, Nat.le_refl _, fun y z c h1 h2 => ?_, fun y hy => ?_, fun y c _ h => ?_, fun _ => hd, Around.frames_deeper e0.frames, .inr ⟨rfl, rfl⟩, fun b z => absurd z (noA b), e0.bs, e0.bsz, fun b _ _ => noA b, fun b z => absurd z (noA b), e0.funs, e0.frf⟩,
    rfl, e0.bare, Un.kept hk, ⟨_, x.toInCall.ns, fun i y v h1 h2 h3 => ?_⟩, fun y c h => ⟨_, x.cell y c h⟩, e0.hok.fresh (Nat.le_refl _), fun y c h => ?_, fun p hp => absurd (show p ∈ ([] : List (Addr × Obj)) from hp) (by simp), e0.hok.kept hk, ?_⟩
  · exact name_of_addr x.apart (PySem.mem_of_lookup h1) (PySem.mem_of_lookup h2)
  · have hy : scope.names.lookup y = some .cell ∨ scope.names.lookup y = some .free := hy
    rcases hy with hy | hy
    · exact cell_has hy
    · exact absurd rfl (S.nofree _ (PySem.mem_of_lookup hy))
  · exact Nat.le_of_lt (x.above y c (PySem.mem_of_lookup h))
  · have hi : i < vs.length := by
      unfold start at h2
      by_cases hi : i < vs.length
      · exact hi
      · rw [List.getElem?_append_right (by simpa using hi)] at h2
        rw [List.getElem?_replicate] at h2
        split at h2 <;> cases h2
    have ha : vs[i]? = some v := by
      unfold start at h2
      rw [List.getElem?_append_left (by simpa using hi), List.getElem?_map] at h2
      cases e : vs[i]? with
      | none => rw [e] at h2; cases h2
      | some a => rw [e] at h2; cases h2; rfl
    obtain ⟨u, hu, rv⟩ := r.get ha
    have hp : ps[i]? = some y := by
      rw [← S.pre, List.getElem?_take_of_lt (by omega)]; exact h1
    have ndP : ps.Nodup := by rw [← S.pre]; exact S.nd.sublist (List.take_sublist _ _)
    refine ⟨u, rv, ?_⟩
    rcases S.par y (List.mem_of_getElem? hp) with k | k
    · exact .inl ⟨k, bindL_get ndP hp hu k⟩
    · obtain ⟨c, e⟩ := cell_has (n := s.heap.objs.size + 1) k
      refine .inr ⟨.inl k, c, e, ?_⟩
      have q := x.cell y c e
      rw [bindC_get ndP hp hu (by show scope.names.lookup y ≠ _; rw [k]; decide)] at q
      exact q
  · exact e0.hok.fresh (Nat.le_of_lt (x.above y c (PySem.mem_of_lookup h)))
  · unfold start
    show _ = N.length
    rw [List.length_append, List.length_map, List.length_replicate]
    omega


theorem fn_of {CX : CXT} {P : Program} {w : World} {K : PySem.W.Frag} {mg : Str → Option Value} {base : Heap} {k : Nat} {f : Addr} {name qual : Str} {params : Arguments} {body : List Stmt} {scope : Scope} {dV kV doc pm cdv ct oc : Value} {an od : Option Addr}
    {osl : Array (Option Value)} {N ps : List Str} {sp : Sp} (lk : K.lookup f = some ⟨oc, od, .func (PySem.W.fnOf name qual params body scope dV kV doc pm an cdv ct), osl⟩) (hcd : PySem.W.codeIn K cdv qual = true) (S : FnScope N ps scope)
    (len : ∀ vs H Q E, sp vs H Q E → vs.length = ps.length)
    (hbody : ∀ (A : Around) (outer : List Env) (s : Shared) (H : Hp) (vs : List V) (Q : VK) (E : XK), Room k (A.deeper (envOfC qual scope s.heap.objs.size f cdv)) → sp vs H Q E →
      ∃ t, PSs (cxOf CX P w K mg base N qual scope f cdv A outer s H E) body t ∧ t { nx := fun _ H' => Q .non H', rt := Q } (start N vs) H) :
    FnOk P w K mg base CX (k + 1) f (PySem.W.fnOf name qual params body scope dV kV doc pm an cdv ct) ps sp := by
  refine ⟨len, fun A outer s H args us vs Q E hr e0 hb r hsp => ?_⟩
  have hl := len _ _ _ _ hsp
  have KX : K.In s.heap := e0.mod.kin.keeps fun b o e => (e0.bs b o e).1
  have lim : s.heap.NoLimit := e0.mod.nolimit.keeps fun b o e => (e0.bs b o e).1
  have hkind : ∀ y ∈ ps.zip us, scope.names.lookup y.1 = some .local ∨ (scope.names.lookup y.1 = some .cell ∧ ((cellsFrom (s.heap.objs.size + 1) scope.names []).lookup y.1).isSome = true) := fun ⟨n, v⟩ hy => by
    rcases S.par n (List.of_mem_zip hy).1 with q | q
    · exact .inl q
    · exact .inr ⟨q, PySem.W.cellsFrom_some _ _ _ (.inl q)⟩
  refine codeAny_call_function hr.depth (KX _ _ lk) rfl S.co S.gen rfl (PySem.W.codeRec_of KX hcd) (hb _ _ _ _ ?_)
  refine wpAny_newFunctionEnv_cells S.kind hkind fun env he s1 x => ?_
  subst he
  refine ⟨lim.keeps x.toInCall.keep, codeAny_func ?_⟩
  obtain ⟨t, ht, hq⟩ := hbody A outer s H vs Q E (hr.deeper _) hsp
  have I : Inv (cxOf CX P w K mg base N qual scope f cdv A outer s H E) [] (start N vs) H s1 := inv_start S hr.hd e0 hl r x
  refine wpAny_mono (ht [] s1 (start N vs) H _ I hq) (fun fl s' hs => ?_) fun e s' hs => hs
  have fin : ∀ {σ' : St} {H' : Hp} {v : V} {u : Value}, Inv (cxOf CX P w K mg base N qual scope f cdv A outer s H E) [] σ' H' s' → RelV v u → Q v H' → CE outer P w H s Q u s' :=
    fun {σ' H' v u} J rv q => ⟨v, H', J.os, J.bare, J.base, J.hok, rv, q⟩
  cases fl with
  | ret u =>
    obtain ⟨v, σ', H', J, rv, q⟩ := hs
    exact fin J rv q
  | next =>
    obtain ⟨σ', H', J, q⟩ := hs
    exact fin (v := V.non) (u := Value.none) J rfl q
  | brk =>
    obtain ⟨_, _, _, q⟩ := hs
    exact False.elim q
  | cont =>
    obtain ⟨_, _, _, q⟩ := hs
    exact False.elim q
end L2

namespace L2
open PySem PySem.Spec PyProof.Rows
section
variable {X : Cx} {x : Str} {p pos : Pos} {e : Expr} {es : List Expr} {t : TA} {id T : String} {r : List V → Hp → VK → Prop}

noncomputable def tCB (r : List V → Hp → VK → Prop) (t : TA) : TE := fun σ H Q => t σ H fun vs H1 => r vs H1 Q

theorem pe_callB (hc : CallR X (.builtin id) r) (hg : Gl X x) (hm : X.mg x = none) (hv : bootBuiltins x = some (.builtin id)) (ha : PA X (e :: es) t) (hn : x ≠ "__name__" := by decide) (hdb : (x == ("__debug__" : Str)) = false := by decide)
    (he : starEach (e :: es) X.env = (false, eval e X.env) :: starEach es X.env := by rfl) (hpl : (backTo pos (starEach es X.env)).any (·.1) = false := by rfl) : PE X (.Call (.Name x p) (e :: es) [] pos) (tCB r t) := by
  intro pins s σ H Q I h
  refine wpAny_Call_Name_kw (ld_blt I hg hm hv ?_ hn hdb)
  refine PyProof.Rows.callWith_builtin1 (thn (ha pos pins s σ H _ I h) fun us s1 hm1_ => ?_) he hpl
  obtain ⟨vs, H1, I1, r1, q1⟩ := hm1_
  exact hc pins s1 σ H1 vs us Q I1 r1 q1

theorem pe_callTy (hc : CallR X (.type T) r) (hg : Gl X x) (hm : X.mg x = none) (hv : bootBuiltins x = some (.type T)) (ha : PA X (e :: es) t) (hn : x ≠ "__name__" := by decide) (hdb : (x == ("__debug__" : Str)) = false := by decide)
    (he : starEach (e :: es) X.env = (false, eval e X.env) :: starEach es X.env := by rfl) (hpl : (backTo pos (starEach es X.env)).any (·.1) = false := by rfl) : PE X (.Call (.Name x p) (e :: es) [] pos) (tCB r t) := by
  intro pins s σ H Q I h
  refine wpAny_Call_Name_kw (ld_blt I hg hm hv ?_ hn hdb)
  refine PyProof.Rows.callWith_type1 (thn (ha pos pins s σ H _ I h) fun us s1 hm1_ => ?_) he hpl
  obtain ⟨vs, H1, I1, r1, q1⟩ := hm1_
  exact hc pins s1 σ H1 vs us Q I1 r1 q1

end
end L2

namespace HT
open PySem PyProof.Rows


section
open PySem.SeqAt
open PySem.AutoSeq1 (wpAny_loadPart')
open PySem.MeetsSeq PySem.MeetsSeq2 PySem.MeetsSeq3

end

section
variable {prog : Program} {w : World} {A : Around} {E : Value → Shared → Prop} {s : Shared}

theorem cat_tup {t b : Addr} {vs ws : List Value} {Q : Value → Shared → Prop} (ht : IsTup s.heap t vs.toArray) (hb : IsTup s.heap b ws.toArray) (hv : vs ≠ [])
    (h1 : ws = [] → Q (.ref t) s) (h2 : ws ≠ [] → Q (.ref s.heap.objs.size) { s with heap := s.heap.push { cls := .type "tuple", data := .seq (vs ++ ws).toArray } })
    (hsz : vs.length + ws.length ≤ sizeLine) : wpAny (model prog w) A (binaryOp .Add (.ref t) (.ref b)) Q E s := by
  obtain ⟨⟨cls, dd, data, sl⟩, ho, hc, n, hd⟩ := id ht
  obtain ⟨⟨cls2, dd2, data2, sl2⟩, ho2, hc2, n2, hd2⟩ := id hb
  simp only at hc hd hc2 hd2
  subst hc hd hc2 hd2
  have e : vs.toArray ++ ws.toArray = (vs ++ ws).toArray := by simp
  by_cases hw : ws = []
  · exact concat_meets ⟨_, ho, rfl⟩ ⟨_, ho2, rfl⟩ noFill_tuple_add seq_tuple_add PySem.F.slot_tuple_add PySem.F.entry_tuple_add (PySem.F.args_tuple_add_2 _ _)
      (tuple_addW1 t b vs.toArray ws.toArray n n2 dd dd2 sl sl2 (by simpa using hv) (by simp [hw])) ⟨ho, ho2, h1 hw⟩
  · refine concat_meets ⟨_, ho, rfl⟩ ⟨_, ho2, rfl⟩ noFill_tuple_add seq_tuple_add PySem.F.slot_tuple_add PySem.F.entry_tuple_add (PySem.F.args_tuple_add_2 _ _)
      (tuple_addW2 t b vs.toArray ws.toArray n n2 dd dd2 sl sl2 (by simpa using hv) (by simpa using hw) (by rw [List.size_toArray, List.size_toArray]; exact hsz)) ⟨ho, ho2, ?_⟩
    rw [e]
    exact h2 hw



noncomputable def sIx (n d : Nat) : Option Int → Nat
  | none => d
  | some v => if v < 0 then (v + (n : Int)).toNat else min v.toNat n
theorem sIx_none (n d : Nat) : sIx n d none = d := rfl
theorem sIx_nat (n d k : Nat) : sIx n d (some (k : Int)) = min k n := by
  show (if (k : Int) < 0 then ((k : Int) + (n : Int)).toNat else min (k : Int).toNat n) = min k n
  rw [if_neg (by omega), Int.toNat_natCast]
theorem sIx_le (n d : Nat) (hd : d ≤ n) (o : Option Int) : sIx n d o ≤ n := by
  cases o with
  | none => exact hd
  | some v =>
    show (if v < 0 then (v + (n : Int)).toNat else min v.toNat n) ≤ n
    by_cases hv : v < 0
    · rw [if_pos hv]; omega
    · rw [if_neg hv]; exact Nat.min_le_right _ _
theorem clip_eq (v : Int) (n d : Nat) : (if v < 0 then max (v + (n : Int)) 0 else min v (n : Int)) = ((sIx n d (some v) : Nat) : Int) := by
  show (if v < 0 then max (v + (n : Int)) 0 else min v (n : Int)) = (((if v < 0 then (v + (n : Int)).toNat else min v.toNat n) : Nat) : Int)
  by_cases hv : v < 0
  · simp only [if_pos hv]; omega
  · simp only [if_neg hv]; omega
theorem adjust_gen (lo hi : Option Int) (n : Nat) : Builtin.Slice.sliceAdjust lo hi 1 (n : Int) = (((sIx n 0 lo : Nat) : Int), ((sIx n n hi : Nat) : Int)) := by
  have h1 : ¬ ((1 : Int) < 0) := by omega
  unfold Builtin.Slice.sliceAdjust
  simp only [h1, if_false]
  refine Prod.ext ?_ ?_
  · cases lo with
    | none => rfl
    | some v => exact clip_eq v n 0
  · cases hi with
    | none => rfl
    | some v => exact clip_eq v n n
theorem places_gen (i j : Nat) : Builtin.Slice.slicePlaces (i : Int) (j : Int) 1 = j - i := by
  unfold Builtin.Slice.slicePlaces
  have h1 : (1 : Int) > 0 := by omega
  simp only [h1, if_true, Int.ediv_one]
  split <;> omega
theorem slicePart_ {v : Value} {o : Option Int} {Q : Option Int → Shared → Prop} (p : IsPart v o) (h : Q o s) : wpAny (model prog w) A (Builtin.Slice.slicePartIndex v) Q E s := by
  cases p with
  | none => exact slicePart_none h
  | int i t => exact slicePart_int h
theorem sliceApplied_gen {sl : Addr} {vl vu : Value} {lo hi : Option Int} {n : Nat} {Q : Int × Int × Nat → Shared → Prop} (hs : s.heap.IsSliceOf sl vl vu .none) (pl : IsPart vl lo) (pu : IsPart vu hi)
    (h : Q (((sIx n 0 lo : Nat) : Int), 1, sIx n n hi - sIx n 0 lo) s) : wpAny (model prog w) A (Builtin.Slice.sliceApplied (.ref sl) (pure (n : Int))) Q E s := by
  obtain ⟨os, hos, hcs, hds⟩ := id hs
  unfold Builtin.Slice.sliceApplied Builtin.Slice.sliceFields
  refine wpAny_bind (wpAny_bind (wpAny_field hos hds (x := vl) rfl (wpAny_bind (wpAny_field hos hds (x := vu) rfl (wpAny_bind (wpAny_field hos hds (x := .none) rfl (wpAny_pure ?_)))))))
  refine wpAny_bind (slicePart_none ?_)
  show wpAny _ _ (if ((1 : Int) == 0) = true then _ else _) _ _ s
  rw [if_neg (by decide)]
  refine wpAny_bind (slicePart_ pl (wpAny_bind (slicePart_ pu (wpAny_bind (wpAny_pure ?_)))))
  show wpAny _ _ (match Builtin.Slice.sliceAdjust lo hi 1 (n : Int) with | (lo, hi) => pure (lo, (1 : Int), Builtin.Slice.slicePlaces lo hi 1)) _ _ s
  rw [adjust_gen lo hi n]
  show wpAny _ _ (pure (((sIx n 0 lo : Nat) : Int), (1 : Int), Builtin.Slice.slicePlaces ((sIx n 0 lo : Nat) : Int) ((sIx n n hi : Nat) : Int) 1)) _ _ s
  rw [places_gen]
  exact wpAny_pure h
theorem pick_gen (xs : Array Value) (i k : Nat) : ((List.range k).filterMap fun (m : Nat) => xs[((i : Int) + (m : Int) * 1).toNat]?).toArray = ((xs.toList.drop i).take k).toArray := by
  have e : (fun (m : Nat) => xs[((i : Int) + (m : Int) * 1).toNat]?) = fun m => xs[i + m]? := by
    funext m
    have : ((i : Int) + (m : Int) * 1).toNat = i + m := by omega
    rw [this]
  rw [e]
  have := pick_run xs i k
  rw [List.filterMap_map] at this
  have e2 : ((fun x => xs[x]?) ∘ fun x => i + x) = fun m => xs[i + m]? := rfl
  rw [e2] at this
  rw [this]

theorem getItem_tuple_cut {t sl : Addr} {items : Array Value} {vl vu : Value} {lo hi : Option Int} {Q : Value → Shared → Prop} (ht : IsTup s.heap t items) (hs : s.heap.IsSliceOf sl vl vu .none) (pl : IsPart vl lo) (pu : IsPart vu hi)
    (hw : ¬ (sIx items.size 0 lo = 0 ∧ sIx items.size items.size hi = items.size))
    (h : Q (.ref s.heap.objs.size) { s with heap := s.heap.push { cls := .type "tuple", data := .seq ((items.toList.drop (sIx items.size 0 lo)).take (sIx items.size items.size hi - sIx items.size 0 lo)).toArray } })
    (hsz : items.size ≤ sizeLine) : wpAny (model prog w) A (getItem (.ref t) (.ref sl)) Q E s := by
  have htake : sizeOk (.seq ((items.toList.drop (sIx items.size 0 lo)).take (sIx items.size items.size hi - sIx items.size 0 lo)).toArray) := by
    show ((items.toList.drop (sIx items.size 0 lo)).take (sIx items.size items.size hi - sIx items.size 0 lo)).toArray.size ≤ sizeLine
    rw [List.size_toArray, List.length_take, List.length_drop, Array.length_toList]
    omega
  have hj : sIx items.size items.size hi ≤ items.size := sIx_le _ _ (Nat.le_refl _) hi
  obtain ⟨os, hos, hcs, hds⟩ := id hs
  have hTs : s.TypeIs (.ref sl) "slice" := ⟨os, hos, hcs⟩
  unfold getItem
  try with_reducible refine wpAny_holding ?_
  first | refine wpAny_bind (wpAny_pure ?_) | skip
  refine wpAny_bind (wpAny_sequenceKey ht.typeIs (by decide) ?_)
  refine wpAny_bind (wpAny_callSpecial?_slot (name := Str.ofString "__getitem__") ht.typeIs PyProof.Rows.slot_tuple_getitem
    (wpAny_call_entry PyProof.Rows.slot_tuple_getitem ht.typeIs entry_tuple_getitem ?_ (args_tuple_getitem _ _)))
  show wpAny _ _ (Builtin.Tuple.tupleItemsOf (.ref t) >>= _) _ _ s
  refine wpAny_bind (tupleItemsOf_ ht ?_)
  refine wpAny_bind (wpAny_typeOf hTs ?_)
  rw [if_pos (by decide)]
  refine wpAny_bind (sliceApplied_gen hs pl pu ?_)
  have hno : ¬ ((((sIx items.size 0 lo : Nat) : Int) == 0 && (1 : Int) == 1 && (sIx items.size items.size hi - sIx items.size 0 lo) == items.size) = true) := by
    intro q
    rw [Bool.and_eq_true, Bool.and_eq_true] at q
    have q1 : ((sIx items.size 0 lo : Nat) : Int) = 0 := eq_of_beq q.1.1
    have q2 : sIx items.size items.size hi - sIx items.size 0 lo = items.size := eq_of_beq q.2
    exact hw ⟨by omega, by omega⟩
  show wpAny _ _ (if (((sIx items.size 0 lo : Nat) : Int) == 0 && (1 : Int) == 1 && (sIx items.size items.size hi - sIx items.size 0 lo) == items.size) = true then _ else _) _ _ s
  rw [if_neg hno, pick_gen]
  first
    | exact wpAny_bind (m := Builtin.Tuple.tupleExact _) (wpAny_newObj_type (wpAny_pure ⟨_, rfl, wpAny_pure h⟩) htake)
    | exact wpAny_bind (m := Builtin.Tuple.tupleExact _) (wpAny_newObj_type (wpAny_bind (wpAny_pure (wpAny_pure ⟨_, rfl, wpAny_pure h⟩))) htake)
    | exact wpAny_bind (wpAny_bind (m := Builtin.Tuple.tupleExact _) (wpAny_newObj_type (wpAny_pure (wpAny_pure ⟨_, rfl, wpAny_pure h⟩)) htake))
    | exact wpAny_bind (wpAny_bind (m := Builtin.Tuple.tupleExact _) (wpAny_newObj_type (wpAny_pure ⟨_, rfl, wpAny_pure h⟩) htake))
end
end HT

namespace L2
open PySem PySem.Spec PyProof.Rows


noncomputable abbrev TO := St → Hp → (Option Int → Hp → Prop) → Prop

noncomputable def PO (X : Cx) (e : Option Expr) (t : TO) : Prop :=
  ∀ (pins : List (Addr × Obj)) (s : Shared) (σ : St) (H : Hp) (Q : Option Int → Hp → Prop), Inv X pins σ H s → t σ H Q →
    wpAny (model X.prog X.w) X.A (evalPart e X.env) (fun u s' => ∃ o H', Inv X pins σ H' s' ∧ IsPart u o ∧ Q o H') X.xe s
noncomputable def tNoPart : TO := fun _ H Q => Q none H
noncomputable def tPart (t : TE) : TO := fun σ H Q => t σ H fun x H1 => ∃ i, x = .int i ∧ Q (some i) H1

section
variable {X : Cx} {e : Expr} {te : TE} {lo hi : Option Expr} {tl th : TO} {pos p2 : Pos}

theorem po_none : PO X none tNoPart := by
  intro pins s σ H Q I h
  rw [evalPart_none]
  exact wpAny_pure ⟨none, H, I, .none, h⟩
theorem po_some (h : PE X e te) : PO X (some e) (tPart te) := by
  intro pins s σ H Q I hw
  rw [evalPart_some]
  refine thn (h pins s σ H _ I hw) fun u s1 hm1_ => ?_
  obtain ⟨x, H1, I1, r1, q1⟩ := hm1_
  obtain ⟨i, rfl, q⟩ := q1
  obtain ⟨t, rfl⟩ := r1
  exact ⟨some i, H1, I1, .int i t, q⟩


noncomputable def SlR (X : Cx) (r : V → Option Int → Option Int → Hp → VK → Prop) : Prop :=
  ∀ (pins : List (Addr × Obj)) (s : Shared) (σ : St) (H : Hp) (x : V) (v vl vu : Value) (lo hi : Option Int) (sl : Addr) (Q : VK), Inv X pins σ H s → RelV x v → s.heap.IsSliceOf sl vl vu .none → IsPart vl lo → IsPart vu hi → r x lo hi H Q →
    ∃ T id, typeLookup (.type T) "__getitem__" = pure (some (.builtin id)) ∧ s.TypeIs v T ∧ wpAny (model X.prog X.w) X.A (getItem v (.ref sl)) (EP X pins σ Q) X.xe s
noncomputable def tSl (r : V → Option Int → Option Int → Hp → VK → Prop) (te : TE) (tl th : TO) : TE := fun σ H Q => te σ H fun x H1 => tl σ H1 fun l H2 => th σ H2 fun u H3 => r x l u H3 Q

theorem pe_slice {r : V → Option Int → Option Int → Hp → VK → Prop} (hr : SlR X r) (he : PE X e te) (hl : PO X lo tl) (hu : PO X hi th) : PE X (.Subscript e (.Slice lo hi none p2) pos) (tSl r te tl th) := by
  intro pins s σ H Q I h
  refine Subscript_ (thn (he pins s σ H _ I h) fun v s1 hm1_ => ?_)
  obtain ⟨x, H1, I1, r1, q1⟩ := hm1_
  refine wpAny_Slice (thn (hl pins s1 σ H1 _ I1 q1) fun vl s2 hm1_ => ?_)
  obtain ⟨l, H2, I2, pl, q2⟩ := hm1_
  refine thn (hu pins s2 σ H2 _ I2 q2) fun vu s3 hm2_ => ?_
  obtain ⟨u, H3, I3, pu, q3⟩ := hm2_
  rw [evalPart_none]
  refine wpAny_pure ?_
  have I4 : Inv X pins σ H3 { s3 with heap := s3.heap.push { cls := .type "slice", data := .fields #[vl, vu, .none] } } := I3.kept (t' := s3.toks) fun b ob q => Heap.get?_push_of_some _ q
  obtain ⟨T, id, hT, ht, hg⟩ := hr pins { s3 with heap := s3.heap.push { cls := .type "slice", data := .fields #[vl, vu, .none] } } σ H3 x v vl vu l u s3.heap.objs.size Q I4 r1 (Heap.IsSliceOf.new ..) pl pu q3
  show wpAny (model X.prog X.w) X.A (subscriptTail e (.Slice lo hi none p2) v (.ref s3.heap.objs.size)) (EP X pins σ Q) X.xe { s3 with heap := s3.heap.push { cls := .type "slice", data := .fields #[vl, vu, .none] } }
  exact tail_any (ops := [.ref s3.heap.objs.size, v]) ht hT hg (by with_unfolding_all rfl)


noncomputable def cutV (xs : List V) (lo hi : Option Int) : List V := (xs.drop (HT.sIx xs.length 0 lo)).take (HT.sIx xs.length xs.length hi - HT.sIx xs.length 0 lo)
theorem cutV_length (xs : List V) (lo hi : Option Int) : (cutV xs lo hi).length ≤ xs.length := by
  unfold cutV
  rw [List.length_take, List.length_drop]
  omega

noncomputable def rSlT (K : PySem.W.Frag) : V → Option Int → Option Int → Hp → VK → Prop := fun x lo hi H Q => ∃ a xs, x = .ref a ∧ SqT K H a xs ∧
  ¬ (HT.sIx xs.length 0 lo = 0 ∧ HT.sIx xs.length xs.length hi = xs.length) ∧ ∀ p, H p = none → Q (.ref p) (upd H p (.tup (cutV xs lo hi)))
theorem sl_tup : SlR X (rSlT X.K) := by
  intro pins s σ H x v vl vu lo hi sl Q I rx hs pl pu h
  obtain ⟨a, xs, rfl, hx, hw, q⟩ := h
  cases rx
  obtain ⟨its, r, ht, hz⟩ := I.tuple hx
  have hlen : its.toArray.size = xs.length := by rw [List.size_toArray]; exact r.length.symm
  refine ⟨"tuple", _, PyProof.Rows.slot_tuple_getitem.lookup, ht.typeIs, ?_⟩
  refine HT.getItem_tuple_cut ht hs pl pu (by rw [hlen]; exact hw) ?_ (by rw [hlen]; exact hz)
  rw [hlen]
  refine ⟨.ref s.heap.objs.size, _, I.laid (t' := s.toks) (o := .tup (cutV xs lo hi)) (fun b ob q => Heap.get?_push_of_some _ q) (Nat.le_refl _) ?_, rfl, q _ (I.hok.fresh (Nat.le_refl _))⟩
  exact ⟨Nat.le_trans (cutV_length xs lo hi) hz, _, (r.drop (HT.sIx xs.length 0 lo)).take (HT.sIx xs.length xs.length hi - HT.sIx xs.length 0 lo), IsTupN.new _ _⟩


noncomputable def rCatT (K : PySem.W.Frag) : R2 := fun x y H Q => ∃ a b xs ys, x = .ref a ∧ y = .ref b ∧ SqT K H a xs ∧ SqT K H b ys ∧ xs ≠ [] ∧ xs.length + ys.length ≤ sizeLine ∧
  (ys = [] → Q (.ref a) H) ∧ (ys ≠ [] → ∀ p, H p = none → Q (.ref p) (upd H p (.tup (xs ++ ys))))
theorem Vals.nil_iff {xs : List V} {us : List Value} (r : Vals xs us) : us = [] ↔ xs = [] := by
  cases r with
  | nil => simp
  | cons _ _ => simp
theorem op_catT : OpR X (binaryOp .Add) (rCatT X.K) := by
  intro pins s σ H x y v u Q I rx ry h
  obtain ⟨a, b, xs, ys, rfl, rfl, ha, hb, hx, hz, q1, q2⟩ := h
  cases rx
  cases ry
  obtain ⟨its, r1, p1, _⟩ := I.tuple ha
  obtain ⟨its2, r2, p2, _⟩ := I.tuple hb
  refine HT.cat_tup p1 p2 (fun z => hx (r1.nil_iff.mp z)) (fun z => ⟨.ref a, H, I, rfl, q1 (r2.nil_iff.mp z)⟩) (fun z => ?_) (by rw [← r1.length, ← r2.length]; exact hz)
  refine ⟨.ref s.heap.objs.size, _, I.laid (t' := s.toks) (o := .tup (xs ++ ys)) (fun b ob q => Heap.get?_push_of_some _ q) (Nat.le_refl _) ?_, rfl, q2 (fun w => z (r2.nil_iff.mpr w)) _ (I.hok.fresh (Nat.le_refl _))⟩
  exact ⟨by rw [List.length_append]; exact hz, _, r1.append r2, IsTupN.new _ _⟩

end
end L2

namespace L2
open PySem PySem.Spec PyProof.Rows



noncomputable def ixN (n : Nat) (i : Int) : Option Nat := if 0 ≤ i then (if i < n then some i.toNat else none) else if -(n : Int) ≤ i then some (i + n).toNat else none
noncomputable def atI {α : Type} (xs : List α) (i : Int) : Option α := (ixN xs.length i).bind fun j => xs[j]?
theorem ixN_seq {n : Nat} {i : Int} {j : Nat} (h : ixN n i = some j) : seqIndex? i n = some j ∧ j < n ∧ -(n : Int) ≤ i ∧ i < n := by
  unfold ixN at h
  by_cases h0 : 0 ≤ i
  · rw [if_pos h0] at h
    by_cases h1 : i < n
    · rw [if_pos h1] at h
      have e : i.toNat = j := Option.some.inj h
      exact ⟨by rw [seqIndex_of h0 h1, e], by omega, by omega, h1⟩
    · rw [if_neg h1] at h; cases h
  · rw [if_neg h0] at h
    by_cases h1 : -(n : Int) ≤ i
    · rw [if_pos h1] at h
      have e : (i + n).toNat = j := Option.some.inj h
      exact ⟨by rw [seqIndex_neg (by omega) h1, e], by omega, h1, by omega⟩
    · rw [if_neg h1] at h; cases h
theorem atI_get {α : Type} {xs : List α} {i : Int} {v : α} (h : atI xs i = some v) : ∃ j, seqIndex? i xs.length = some j ∧ xs[j]? = some v ∧ j < xs.length ∧ -(xs.length : Int) ≤ i ∧ i < xs.length := by
  unfold atI at h
  cases e : ixN xs.length i with
  | none => rw [e] at h; cases h
  | some j =>
    rw [e] at h
    obtain ⟨h1, h2, h3, h4⟩ := ixN_seq e
    exact ⟨j, h1, h, h2, h3, h4⟩
theorem atI_nat {α : Type} {xs : List α} {j : Nat} {v : α} (h : xs[j]? = some v) : atI xs (j : Int) = some v := by
  have hj : j < xs.length := (List.getElem?_eq_some_iff.mp h).1
  have e : ixN xs.length (j : Int) = some j := by
    unfold ixN
    rw [if_pos (by omega), if_pos (by omega)]; simp
  unfold atI; rw [e]; exact h
noncomputable def PlainIx (b : Expr) : Prop := ∀ o i, subscripted b false o i = operate [o, i] (getItem o i)

noncomputable def IxR (X : Cx) (r : R2) : Prop :=
  ∀ (value slice : Expr) (pins : List (Addr × Obj)) (s : Shared) (σ : St) (H : Hp) (x y : V) (v u : Value) (Q : VK), Inv X pins σ H s → RelV x v → RelV y u → r x y H Q →
    subscripted slice false v u = operate [v, u] (getItem v u) → wpAny (model X.prog X.w) X.A (subscriptTail value slice v u) (EP X pins σ Q) X.xe s

noncomputable def MtR (X : Cx) (id : String) (r : V → List V → Hp → VK → Prop) : Prop :=
  ∀ (pins : List (Addr × Obj)) (s : Shared) (σ : St) (H : Hp) (x : V) (xs : List V) (v : Value) (us : List Value) (Q : VK), Inv X pins σ H s → RelV x v → Vals xs us → r x xs H Q →
    wpAny (model X.prog X.w) X.A (call (.builtin id) (v :: us)) (EP X pins σ Q) X.xe s
section
variable {X : Cx} {a b : Expr} {ta tb : TE} {pos : Pos}
theorem pe_ix {r : R2} (hr : IxR X r) (ha : PE X a ta) (hb : PE X b tb) (hs : PlainIx b) : PE X (.Subscript a b pos) (tOp r ta tb) := by
  intro pins s σ H Q I h
  exact Subscript_ (binT ha hb I h fun v u s2 x y H2 I2 rx ry q => hr a b pins s2 σ H2 x y v u Q I2 rx ry q (hs _ _))

noncomputable def rIxL (K : PySem.W.Frag) : R2 := fun x y H Q => ∃ p xs i v, x = .ref p ∧ y = .int i ∧ SqL K H p xs ∧ atI xs i = some v ∧ Q v H
noncomputable def rIxT (K : PySem.W.Frag) : R2 := fun x y H Q => ∃ p xs i v, x = .ref p ∧ y = .int i ∧ SqT K H p xs ∧ atI xs i = some v ∧ Q v H
theorem ix_list : IxR X (rIxL X.K) := by
  intro value slice pins s σ H x y v u Q I rx ry h hs
  obtain ⟨p, xs, i, z, rfl, rfl, hq, he, q⟩ := h
  cases rx
  obtain ⟨t, rfl⟩ := ry
  obtain ⟨its, r, pl, hz⟩ := I.list hq
  obtain ⟨j, h1, h2, h3, h4, h5⟩ := atI_get he
  obtain ⟨w, ew, rw'⟩ := r.get h2
  have hl := r.length
  have hn := line63
  have fin : EP X pins σ Q w s := ⟨z, H, I, rw', q⟩
  by_cases h0 : 0 ≤ i
  · have hj : i.toNat = j := by
      rw [seqIndex_of h0 h5] at h1
      exact Option.some.inj h1
    exact item_listR pl.isList h0 (by omega) (by rw [hj]; simpa using ew) fin hs
  · have hj : (i + (its.toArray.size : Int)).toNat = j := by
      rw [seqIndex_neg (by omega) h4] at h1
      rw [List.size_toArray, ← hl]
      exact Option.some.inj h1
    exact subscriptTail_builtinR (x := w) pl.isList.typeIs slot_list_getitem.lookup
      (wpAny_getItem_list_neg (Q := fun r s' => r = w ∧ EP X pins σ Q r s') pl.isList (by omega) (by rw [List.size_toArray] <;> omega) (by omega) (by rw [hj]; simpa using ew) ⟨rfl, fin⟩) hs
theorem ix_tup : IxR X (rIxT X.K) := by
  intro value slice pins s σ H x y v u Q I rx ry h hs
  obtain ⟨p, xs, i, z, rfl, rfl, hq, he, q⟩ := h
  cases rx
  obtain ⟨t, rfl⟩ := ry
  obtain ⟨its, r, pl, hz⟩ := I.tuple hq
  obtain ⟨j, h1, h2, h3, h4, h5⟩ := atI_get he
  obtain ⟨w, ew, rw'⟩ := r.get h2
  have hl := r.length
  have hn := line63
  have fin : EP X pins σ Q w s := ⟨z, H, I, rw', q⟩
  exact subscriptTail_builtinR (x := w) pl.typeIs slot_tuple_getitem.lookup
    (getItem_tuple (j := j) (Q := fun r s' => r = w ∧ EP X pins σ Q r s') pl (by omega) (by omega) (by rw [List.size_toArray, ← hl]; exact h1) (by simpa using ew) ⟨rfl, fin⟩) hs
theorem slice_bounds (lo hi : Option Int) (n : Nat) : (sliceBounds lo hi none n).1 = ((HT.sIx n 0 lo : Nat) : Int) ∧ (sliceBounds lo hi none n).2.1 = ((HT.sIx n n hi : Nat) : Int) ∧ (sliceBounds lo hi none n).2.2 = 1 := by
  refine ⟨?_, ?_, rfl⟩
  · cases lo with
    | none => simp [sliceBounds, HT.sIx]
    | some i =>
      simp only [sliceBounds, HT.sIx, Option.getD_none, show (1 : Int) > 0 by decide, if_true]
      by_cases h : i < 0
      · simp only [h, if_true] <;> omega
      · simp only [h, if_false] <;> omega
  · cases hi with
    | none => simp [sliceBounds, HT.sIx]
    | some i =>
      simp only [sliceBounds, HT.sIx, Option.getD_none, show (1 : Int) > 0 by decide, if_true]
      by_cases h : i < 0
      · simp only [h, if_true] <;> omega
      · simp only [h, if_false] <;> omega
theorem slicePick_cut (its : List Value) (lo hi : Option Int) : slicePick its.toArray lo hi none = ((its.drop (HT.sIx its.length 0 lo)).take (HT.sIx its.length its.length hi - HT.sIx its.length 0 lo)).toArray := by
  obtain ⟨h1, h2, h3⟩ := slice_bounds lo hi its.toArray.size
  unfold slicePick
  rw [h1, h2, h3]
  simp only [sliceRange_one, pick_run, List.size_toArray] <;> rfl

noncomputable def rSlL (K : PySem.W.Frag) : V → Option Int → Option Int → Hp → VK → Prop := fun x lo hi H Q => ∃ a xs, x = .ref a ∧ SqL K H a xs ∧ ∀ p, H p = none → Q (.ref p) (upd H p (.lst (cutV xs lo hi)))
theorem sl_list : SlR X (rSlL X.K) := by
  intro pins s σ H x v vl vu lo hi sl Q I rx hs pl pu h
  obtain ⟨a, xs, rfl, hx, q⟩ := h
  cases rx
  obtain ⟨its, r, ht, hz⟩ := I.list hx
  have hlen := r.length
  refine ⟨"list", _, slot_list_getitem.lookup, ht.isList.typeIs, ?_⟩
  refine wpAny_getItem_list_slice ht.isList hs pl pu .none (by simp) ?_ (by rw [List.size_toArray] <;> omega)
  rw [slicePick_cut, ← hlen]
  refine ⟨.ref s.heap.objs.size, _, I.laid (t' := s.toks) (o := .lst (cutV xs lo hi)) (fun b ob q => Heap.get?_push_of_some _ q) (Nat.le_refl _) ?_, rfl, q _ (I.hok.fresh (Nat.le_refl _))⟩
  exact ⟨Nat.le_trans (cutV_length xs lo hi) hz, _, 0, (r.drop (HT.sIx xs.length 0 lo)).take (HT.sIx xs.length xs.length hi - HT.sIx xs.length 0 lo), Heap.get?_push_size _ rfl⟩


theorem call_len_seq : CallR X (.builtin "len") (fun xs H Q => ∃ p ys, xs = [.ref p] ∧ (SqL X.K H p ys ∨ SqT X.K H p ys) ∧ Q (.int ys.length) H) := by
  intro pins s σ H xs us Q I r h
  obtain ⟨p, ys, rfl, hq, q⟩ := h
  obtain ⟨u, rfl, rx⟩ := vals1 r
  cases rx
  have hn := line63
  rcases hq with hq | hq
  · obtain ⟨its, r', pl, hz⟩ := I.list hq
    have hlen := r'.length
    exact Calls.call_len_list pl.isList (by simp only [List.size_toArray] <;> omega) ⟨.int ys.length, H, I.tok _, ⟨s.toks + 1, by rw [List.size_toArray, hlen]⟩, q⟩
  · obtain ⟨its, r', pl, hz⟩ := I.tuple hq
    have hlen := r'.length
    exact len_tuple pl (by simp only [List.size_toArray] <;> omega) ⟨.int ys.length, H, I.tok _, ⟨s.toks + 1, by rw [List.size_toArray, hlen]⟩, q⟩
theorem call_list_of : CallR X (.type "list") (fun xs H Q => ∃ p ys, xs = [.ref p] ∧ (SqL X.K H p ys ∨ SqT X.K H p ys) ∧ ∀ l, H l = none → Q (.ref l) (upd H l (.lst ys))) := by
  intro pins s σ H xs us Q I r h
  obtain ⟨p, ys, rfl, hq, q⟩ := h
  obtain ⟨u, rfl, rx⟩ := vals1 r
  cases rx
  have fin : ∀ (its : List Value), Vals ys its → ys.length ≤ sizeLine → ∀ (h' : Heap) (c' : Nat), (∀ b o', s.heap.get? b = some o' → h'.get? b = some o') →
      h'.get? s.heap.objs.size = some { cls := .type "list", dict := none, data := .seq its.toArray c', slots := #[] } → EP X pins σ Q (.ref s.heap.objs.size) { s with heap := h' } := fun its r' hz h' c' kp e =>
    ⟨.ref s.heap.objs.size, _, I.laid (t' := s.toks) kp (Nat.le_refl _) (show ObjOk X.prog X.w _ h' _ (.lst ys) from ⟨hz, its, c', r', e⟩), rfl, q _ (I.hok.fresh (Nat.le_refl _))⟩
  rcases hq with hq | hq
  · obtain ⟨its, r', pl, hz⟩ := I.list hq
    have hlen := r'.length
    obtain ⟨o, ho, hc, n, hd⟩ := pl.isList
    exact call_list_seq p (.inl rfl) ho hc hd (fun h' c' kp e => fin its r' hz h' c' kp e) (by simp only [List.size_toArray] <;> omega)
  · obtain ⟨its, r', pl, hz⟩ := I.tuple hq
    have hlen := r'.length
    obtain ⟨o, ho, hc, n, hd⟩ := pl
    exact call_list_seq p (.inr rfl) ho hc hd (fun h' c' kp e => fin its r' hz h' c' kp e) (by simp only [List.size_toArray] <;> omega)
theorem call_tuple_of : CallR X (.type "tuple") (fun xs H Q => ∃ p ys, xs = [.ref p] ∧ ((SqL X.K H p ys ∧ ∀ l, H l = none → Q (.ref l) (upd H l (.tup ys))) ∨ (SqT X.K H p ys ∧ Q (.ref p) H))) := by
  intro pins s σ H xs us Q I r h
  obtain ⟨p, ys, rfl, h⟩ := h
  obtain ⟨u, rfl, rx⟩ := vals1 r
  cases rx
  rcases h with ⟨hq, q⟩ | ⟨hq, q⟩
  · obtain ⟨its, r', pl, hz⟩ := I.list hq
    have hlen := r'.length
    refine call_tuple_list pl.isList (fun h' kp => ?_) (by simp only [List.size_toArray] <;> omega)
    have I1 : Inv X pins σ H { s with heap := h' } := I.kept (t' := s.toks) kp
    have I2 : Inv X pins σ (upd H h'.objs.size (.tup ys)) { s with heap := h'.push { cls := .type "tuple", data := .seq its.toArray } } :=
      I1.laid (t' := s.toks) (fun b o e => Heap.get?_push_of_some _ e) (Nat.le_refl _) (show ObjOk X.prog X.w _ _ _ (.tup ys) from ⟨hz, its, r', IsTupN.new _ _⟩)
    exact ⟨.ref h'.objs.size, _, I2, rfl, q _ (I1.hok.fresh (Nat.le_refl _))⟩
  · obtain ⟨its, r', pl, hz⟩ := I.tuple hq
    exact call_tuple_same pl ⟨.ref p, H, I, rfl, q⟩



noncomputable def tyV (K : PySem.W.Frag) (T : String) (x : V) (H : Hp) : Prop := match x with
  | .str _ => T = "str"
  | .int _ => T = "int"
  | .ref p => (T = "list" ∧ ∃ xs, SqL K H p xs) ∨ (T = "tuple" ∧ ∃ o, K.lookup p = some o ∧ o.cls = .type "tuple" ∧ o.dict = none) ∨
      (T = "dict" ∧ ((∃ kvs, H p = some (.dK kvs)) ∨ ∃ kvs, H p = some (.dT kvs))) ∨ (T = "set" ∧ ∃ S n, H p = some (.set S n))
  | _ => False
theorem tyV_is {pins : List (Addr × Obj)} {σ : St} {H : Hp} {s : Shared} {T : String} {x : V} {v : Value} (I : Inv X pins σ H s) (r : RelV x v) (ty : tyV X.K T x H) :
    s.TypeIs v T ∧ ∀ a, v = .ref a → ∃ ob, s.heap.get? a = some ob ∧ ob.dict = none := by
  cases x with
  | str z =>
    obtain ⟨t, rfl⟩ := r
    cases (show T = "str" from ty)
    exact ⟨typeIs_str s z t, fun _ e => nomatch e⟩
  | int i =>
    obtain ⟨t, rfl⟩ := r
    cases (show T = "int" from ty)
    exact ⟨typeIs_int s i t, fun _ e => nomatch e⟩
  | ref p =>
    cases r
    rcases ty with ⟨rfl, xs, hq⟩ | ⟨rfl, o, hk, hc, hd⟩ | ⟨rfl, hk⟩ | ⟨rfl, S, n, hk⟩
    · obtain ⟨its, _, pl, _⟩ := I.list hq
      refine ⟨pl.isList.typeIs, fun a e => ?_⟩
      cases e
      obtain ⟨o, n, e, c, hd, _⟩ := pl
      exact ⟨o, e, hd⟩
    · refine ⟨⟨o, I.kIn p o hk, hc⟩, fun a e => ?_⟩
      cases e
      exact ⟨o, I.kIn _ o hk, hd⟩
    · have z : ∃ o, s.heap.get? p = some o ∧ o.ExactDict := by
        rcases hk with ⟨kvs, hk⟩ | ⟨kvs, hk⟩
        · obtain ⟨_, _, _, _, o, _, _, e, ex, _⟩ := I.hok p _ hk
          exact ⟨o, e, ex⟩
        · obtain ⟨_, _, _, _, o, _, _, e, ex, _⟩ := I.hok p _ hk
          exact ⟨o, e, ex⟩
      obtain ⟨o, e, ex⟩ := z
      refine ⟨⟨o, e, ex.1⟩, fun a e2 => ?_⟩
      cases e2
      exact ⟨o, e, ex.2.1⟩
    · obtain ⟨o, _, _, _, e, ex, _⟩ := I.hok p _ hk
      refine ⟨⟨o, e, ex.1⟩, fun a e2 => ?_⟩
      cases e2
      exact ⟨o, e, ex.2.1⟩
  | _ => exact False.elim ty
noncomputable def tBM (K : PySem.W.Frag) (T : String) (r : V → List V → Hp → VK → Prop) (to : TE) (t : TA) : TE := fun σ H Q => to σ H fun x H1 => tyV K T x H1 ∧ t σ H1 fun xs H2 => r x xs H2 Q
variable {o e : Expr} {es : List Expr} {to : TE} {t : TA} {name : Str} {apos cpos : Pos} {T id : String} {r : V → List V → Hp → VK → Prop}
theorem pe_bm (pa : PlainAttrs T) (slot : Slot T name id) (hty : typeOf (.builtin id) = pure (.type "method_descriptor")) (hm : MtR X id r) (ho : PE X o to) (ha : PA X (e :: es) t)
    (hbase : attributeBase o name X.env (eval o X.env) = eval o X.env := by rfl)
    (hfew : ((backTo cpos (starEach (e :: es) X.env)).all (fun x => !x.1) && (backToKw cpos (keywordEach [] X.env)).all (fun x => x.1.isSome)
      && decide ((e :: es).length + ([] : List Keyword).length + (if ([] : List Keyword).isEmpty then 0 else 1) < 30)) = true := by rfl)
    (hline : (apos.endLine == cpos.line) = true := by rfl) (hs : starEach (e :: es) X.env = (false, eval e X.env) :: starEach es X.env := by rfl) (hplain : (backTo cpos (starEach es X.env)).any (·.1) = false := by rfl) :
    PE X (.Call (.Attribute o name apos) (e :: es) [] cpos) (tBM X.K T r to t) := by
  intro pins s σ H Q I h
  refine wpAny_Call_method_late hbase hfew hline rfl (thn (ho pins s σ H _ I h) fun v s1 hm1_ => ?_)
  obtain ⟨x, H1, I1, r1, ty, q1⟩ := hm1_
  obtain ⟨h1, h2⟩ := tyV_is I1 r1 ty
  refine ⟨T, id, pa, slot, hty, h1, h2, ?_⟩
  have hA := ha cpos pins s1 σ H1 _ I1 q1
  rw [hs] at hA ⊢
  refine Calls.callWith_builtin (by show (false || (backTo cpos (starEach es X.env)).any (·.1)) = false; rw [hplain] <;> rfl) (Calls.evalArgs_plain ?_)
  refine thn hA fun us s2 hm1_ => ?_
  obtain ⟨vs, H2, I2, r2, q2⟩ := hm1_
  exact hm pins s2 σ H2 x vs v us Q I2 r1 r2 q2

end
end L2

namespace L2
open PySem PySem.Spec PyProof.Rows

noncomputable def MtM (X : Cx) (id : String) (r : V → List V → Hp → VK → Prop) : Prop :=
  ∀ (pins : List (Addr × Obj)) (s : Shared) (σ : St) (H : Hp) (x : V) (xs : List V) (v : Value) (us : List Value) (Q : VK), Inv X pins σ H s → RelV x v → Vals xs us → r x xs H Q →
    wpAny (model X.prog X.w) X.A (call (.builtin id) (v :: us)) (EP X pins σ Q) X.xe s


theorem Vals.one : ∀ {x : V} {us : List Value}, Vals [x] us → ∃ u, us = [u] ∧ RelV x u
  | _, _, .cons r .nil => ⟨_, rfl, r⟩
section
variable {X : Cx} {pins : List (Addr × Obj)} {σ : St} {H : Hp} {s : Shared} {l b : Addr} {xs ys zs : List V}


theorem Inv.lset {its its' : List Value} {n : Nat} {f : Array Value → Array Value} {t' : Nat} (I : Inv X pins σ H s) (hH : H l = some (.lst xs))
    (e : s.heap.get? l = some { cls := .type "list", data := .seq its.toArray n }) (hf : f its.toArray = its'.toArray) (hv : Vals ys its') (hz : ys.length ≤ sizeLine) :
    Inv X pins σ (upd H l (.lst ys)) { s with heap := s.heap.update l (Obj.mapSeq f), toks := t' } := by
  have q := PySem.IsL.update e f
  rw [hf] at q
  refine I.write (x := l) (e := l) (by rw [hH]; exact trivial) (.inl rfl) (fun b' u hb hu => (Heap.get?_update_other s.heap (Obj.mapSeq f) (Ne.symm hb)).trans hu) ⟨_, q⟩ ?_
  exact ⟨hz, its', _, hv, q⟩
theorem Inv.lnew {its : List Value} {t' : Nat} (I : Inv X pins σ H s) (hv : Vals ys its) (hz : ys.length ≤ sizeLine) :
    Inv X pins σ (upd H s.heap.objs.size (.lst ys)) { s with heap := s.heap.push { cls := .type "list", data := .seq its.toArray }, toks := t' } :=
  I.laid (fun _ _ q => Heap.get?_push_of_some _ q) (Nat.le_refl _) ⟨hz, its, 0, hv, Heap.get?_push_size _ rfl⟩
theorem Inv.fresh (I : Inv X pins σ H s) : H s.heap.objs.size = none := I.hok.fresh (Nat.le_refl _)
theorem Inv.lstM (I : Inv X pins σ H s) (hH : H l = some (.lst xs)) : xs.length ≤ sizeLine ∧ ∃ (its : List Value) (n : Nat), Vals xs its ∧ xs.length = its.length ∧ s.heap.get? l = some { cls := .type "list", data := .seq its.toArray n } := by
  obtain ⟨z, its, n, r, e⟩ := I.hok l _ hH
  exact ⟨z, its, n, r, r.length, e⟩

end

section
variable {X : Cx}


noncomputable def rAppend : V → List V → Hp → VK → Prop := fun x vs H Q => ∃ l xs y, x = .ref l ∧ vs = [y] ∧ H l = some (.lst xs) ∧ xs.length < sizeLine ∧ Q .non (upd H l (.lst (xs ++ [y])))
theorem mt_append : MtM X "list.append" rAppend := by
  intro pins s σ H x vs v us Q I rx rv h
  obtain ⟨l, xs, y, rfl, rfl, hH, hz, q⟩ := h
  cases rx
  obtain ⟨u, rfl, ru⟩ := rv.one
  obtain ⟨z, its, n, r, hl, e⟩ := I.lstM hH
  refine call_meets F.slot_list_append ⟨_, e, rfl⟩ F.entry_list_append (F.args_list_append_2 _ _) (PySem.list_append l its.toArray n u (by rw [List.size_toArray]; omega)) ⟨e, ?_⟩
  refine ⟨.non, _, I.lset (its' := its ++ [u]) hH e (by simp) (r.append (.cons ru .nil)) ?_, rfl, q⟩
  rw [List.length_append, List.length_singleton]
  omega

end


section
variable {prog : Program} {w : World} {A : Around} {E : Value → Shared → Prop} {s : Shared}
end

section
variable {X : Cx}

end
end L2

namespace Att
open PySem PySem.W PySem.Calls PyProof.Rows


theorem ints_of_wellAll {P : Params} {h : Heap} : ∀ (ns : List Int) (vs : List Value), WellAll P h vs (ns.map WData.int) → IntsAre vs ns := by
  intro ns
  induction ns with
  | nil =>
    intro vs w
    rw [List.map_nil] at w
    cases w
    exact .nil
  | cons n ns ih =>
    intro vs w
    rw [List.map_cons] at w
    cases w with
    | cons a b =>
      cases a
      exact .cons _ _ (ih _ b)

theorem script_of {l : OpenLaw} {n : Nat} (hn : l.most = some n) {P : Params} {h : Heap} {args : List WData} {vals : List Value}
    (hpre : l.row.toRowW.claim.pre args = true) (hwl : WellAll P h vals args) :
    ∃ a vs ns, vals = [Value.ref a] ∧ args = [WData.list (ns.map WData.int)] ∧ h.get? a = some { cls := .type "list", data := .seq vs.toArray } ∧ IntsAre vs ns ∧ ns.length ≤ n := by
  have hsh : WShape.hasAll [] args [.list .int] = true := (pre_splitW hpre).1
  have hc : l.pre.holds [] { args := args } = true := (pre_splitW hpre).2
  obtain ⟨d, r, rfl, h1, h2⟩ := hasAllW_cons hsh
  obtain rfl := hasAllW_nil h2
  obtain ⟨xs, rfl, h3⟩ := hasW_list h1
  obtain ⟨ns, rfl⟩ := items_int h3
  have hlen : ns.length ≤ n := by
    unfold OpenLaw.pre at hc
    have h4 : (WTm.not (.lt (.lit (.int (n : Int))) (.len (.arg 0)))).holds [] { args := [.list (ns.map .int)] } = true := by
      have h4 := (holds_andW hc).1
      rw [hn] at h4
      exact h4
    have h5 := condW_of h4 (w_not (w_lt w_lit (w_len_list (w_arg rfl))))
    rw [List.length_map] at h5
    refine Nat.le_of_not_lt fun q => ?_
    have q' : (n : Int) < ((ns.length : Nat) : Int) := by omega
    first
      | (rw [decide_eq_true q'] at h5; exact absurd h5 (by decide))
      | (simp at h5; omega)
  cases hwl with
  | cons w1 w2 =>
    cases w2
    cases w1 with
    | list ho hall => exact ⟨_, _, ns, rfl, rfl, ho, ints_of_wellAll ns _ hall, hlen⟩

theorem post_true (l : OpenLaw) (args : List WData) : l.row.toRowW.claim.post args (.bool true) args = true :=
  postW_of (r := l.row.toRowW) (X := (true == true))
    (show WShape.has [] (.bool true) .bool = true by first | rfl | decide | simp [WShape.has, WShape.arms, WShape.armsAll])
    (show (WTm.eq .res (.lit (.bool true))).value [] { args := args, res := some (.bool true), after := args } = some (.bool (true == true)) from w_eq_bool (w_res rfl) w_lit) rfl


theorem attach_call {l : OpenLaw} {n : Nat} {q : Program} {loose : List Str} {XP : (Str → Option Value) → Heap → Prop} {YP : World → Heap → Prop} {d : DefRec}
    (hn : l.most = some n) (hdf : d.params.defaults = [])
    (call : ∀ (w : World) (s₀ s₁ : Shared) (mg mb : Str → Option Value) (fa : Addr) (o : Obj) (pm cd doc : Value) (a : Addr) (vs : List Value) (ns : List Int),
      Ground q loose [] XP w s₀ mg mb s₁.heap → YP w s₁.heap →
      s₁.heap.get? fa = some o → o.data = .func (docDef d.name d.params d.body d.scope pm cd doc) → s₁.heap.CodeRec cd d.name → mg d.name = some (.ref fa) →
      s₁.heap.get? a = some { cls := .type "list", data := .seq vs.toArray } → IntsAre vs ns → ns.length ≤ n → s₁.gens = #[] →
      codeAny (model l.prog w) callerA (.call (.ref fa) ⟨[.ref a], []⟩) (fun r s' => r = .ok (.ret (.bool true)) ∧ OldK s₁.heap s'.heap ∧ s'.os = s₁.os ∧ AllBare s'.gens) s₁) :
    WalkO q loose XP YP l.row.toRowW d [] (fun f vs => PySem.call f vs) := by
  intro w s₀ s₁ mg mb G Y fa o pm cd doc dV kV ho hd hcd hD hmg hg args vals as hpre hlay hrd hwl hlo
  obtain rfl : dV = .none := Dflts.none hD hdf
  obtain rfl : kV = .none := Dflts.noKw hD
  obtain ⟨a, vs, ns, rfl, rfl, hobj, hints, hlen⟩ := script_of hn hpre hwl
  refine enter_call (codeAny_mono (call w s₀ s₁ mg mb fa o pm cd doc a vs ns G Y ho (fd_plain hd) hcd hmg hobj hints hlen hg) fun r s' hq => ?_)
  obtain ⟨rfl, h2, h3, h4⟩ := hq
  exact ⟨.inl ⟨.bool true, .bool true, [], rfl, fun _ => rfl, .bool true, post_true l _, fun _ => ⟨List.Pairwise.nil, fun _ hm => (nomatch hm)⟩⟩, h2, h3, h4⟩


section
variable {prog : Program} {w : World} {A : Around} {E : Value → Shared → Prop} {s : Shared} {K : Frag}


end
end Att

namespace L2
open PySem PySem.Spec PyProof.Rows

theorem vals_ints : ∀ {vs : List Value} {ns : List Int}, IntsAre vs ns → Vals (ns.map V.int) vs
  | _, _, .nil => .nil
  | _, _, .cons n t h => .cons ⟨t, rfl⟩ (vals_ints h)


noncomputable def Only (H : Hp) : Prop := ∀ b, H b = none ∨ ∃ o xs, H b = some (.frz o (.lst xs))


theorem law_call {P : Program} {w : World} {K : PySem.W.Frag} {mg mb : Str → Option Value} {CX : CXT} {k : Nat} {fa a : Addr} {fd : FuncData} {x : Str} {sp : Sp} {s₁ : Shared} {vs : List Value} {ns : List Int}
    (KX : K.In s₁.heap) (hns : s₁.heap.Ns mainGlobals mg) (hb : s₁.heap.Ns builtinsNs mb) (hbb : ∀ x : Str, x ≠ "__name__" → mb x = bootBuiltins x) (hlim : s₁.heap.NoLimit) (hg : s₁.gens = #[])
    (ha : s₁.heap.get? a = some { cls := .type "list", data := .seq vs.toArray }) (hi : IntsAre vs ns) (hl : ns.length ≤ sizeLine) (hr : Room k callerA)
    (F : ∀ base : Heap, K.In base → base.Ns mainGlobals mg → FnOk P w K mg base CX k fa fd [x] sp) (hbind : ∀ (s : Shared) (u : Value), BindsTo s fd ⟨[u], []⟩ [(x, u)])
    (hsp : ∀ H : Hp, Only H → SqL K H a (ns.map V.int) → sp [.ref a] H (fun v _ => v = .bl true) fun _ _ _ => False)
    (hCX : ∀ H e s', CX [] H s₁ (fun _ _ _ => False) e s' → False) :
    codeAny (model P w) callerA (.call (.ref fa) ⟨[.ref a], []⟩) (fun r s' => r = .ok (.ret (.bool true)) ∧ OldK s₁.heap s'.heap ∧ s'.os = s₁.os ∧ AllBare s'.gens) s₁ := by
  have rv := vals_ints hi
  have lenV := hi.length
  have core : ∀ H : Hp, Only H → SqL K H a (ns.map V.int) → HOk P w H s₁.heap → (∀ b, H b ≠ none → b = a) → (H a ≠ none → K.lookup a = none) →
      codeAny (model P w) callerA (.call (.ref fa) ⟨[.ref a], []⟩) (fun r s' => r = .ok (.ret (.bool true)) ∧ OldK s₁.heap s'.heap ∧ s'.os = s₁.os ∧ AllBare s'.gens) s₁ := by
    intro H hO hS hok hA hK
    have base_of : ∀ {b : Addr} {o : Obj}, s₁.heap.get? b = some o → H b = none → (hidT s₁.heap H).get? b = some o := fun e n => hidT_get e n
    have noA : ∀ {b : Addr} {o : Obj} {es : Array DictEntry} {ep : Nat}, s₁.heap.get? b = some o → o.data = .dict es ep → H b = none := fun {b o es ep} e d => by
      cases q : H b with
      | none => rfl
      | some u =>
        have e' : b = a := hA b (by rw [q]; simp)
        subst e'
        rw [ha] at e; cases e
        have d' : Data.seq vs.toArray _ = Data.dict es ep := d
        cases d'
    have nsK : ∀ {b : Addr} {m : Str → Option Value}, s₁.heap.Ns b m → (hidT s₁.heap H).Ns b m := fun {b m} ⟨o, es, ep, e, d, r⟩ => ⟨o, es, ep, base_of e (noA e d), d, r⟩
    have hKb : K.In (hidT s₁.heap H) := fun b o e => base_of (KX b o e) (by
      cases q : H b with
      | none => rfl
      | some u =>
        have e' : b = a := hA b (by rw [q]; simp)
        subst e'
        rw [hK (by rw [q]; simp)] at e; cases e)
    have hM : Mod K mg (hidT s₁.heap H) := ⟨hKb, nsK hns, ⟨mb, nsK hb, hbb⟩, let ⟨mc, h1, h2⟩ := hlim; ⟨mc, nsK h1, h2⟩⟩
    have e0 : Env0 P w K mg (hidT s₁.heap H) callerA [] s₁ H := ⟨rfl, hM, fun b o e => of_hidT e, Nat.le_of_eq (hidT_size _ _), trivial, fun b hb => absurd (show b ∈ ([] : List Addr) from hb) (by simp), hok, .of_eq hg⟩
    refine codeAny_mono ((F _ hKb (nsK hns)).run callerA [] s₁ H ⟨[.ref a], []⟩ [.ref a] [.ref a] _ _ hr e0 (hbind s₁ (.ref a)) (.cons rfl .nil) (hsp H hO hS)) fun r s' h => ?_
    cases r with
    | error e => exact (hCX H e s' h).elim
    | ok fl =>
      cases fl with
      | next => exact False.elim h
      | brk => exact False.elim h
      | cont => exact False.elim h
      | ret u =>
        obtain ⟨v, H', os, bare, un, hok', r', q⟩ := h
        have q' : v = .bl true := q
        subst q'
        obtain rfl : u = Value.bool true := r'
        refine ⟨rfl, OldK.of_keep fun b o e => ?_, os, bare⟩
        cases q : H b with
        | none => exact un.keep b o e q (by intro z; exact absurd (show b ∈ ([] : List Addr) from z) (by simp)) (by simp)
        | some u =>
          rcases hO b with z | ⟨ob, xs, z⟩
          · rw [q] at z; cases z
          · have z2 := un.frzs b ob _ z
            obtain ⟨e1, _⟩ := hok b _ z
            obtain ⟨e2, _⟩ := hok' b _ z2
            rw [e] at e1; cases e1
            exact e2
  cases hk : K.lookup a with
  | some o =>
    have e := KX a o hk
    rw [ha] at e
    cases e
    refine core (fun _ => none) (fun _ => .inl rfl) (.inr ⟨_, vs.toArray, _, hk, rfl, rfl, rfl, by rw [List.size_toArray, lenV]; exact hl, by simpa using rv⟩) (fun b u z => by have z' : (none : Option HO) = some u := z; cases z') (fun b z => absurd rfl z) fun z => absurd rfl z
  | none =>
    refine core (fun b => if b = a then some (.frz { cls := .type "list", data := .seq vs.toArray } (.lst (ns.map V.int))) else none) (fun b => ?_) (.inl (.inr ⟨{ cls := .type "list", data := .seq vs.toArray }, if_pos rfl⟩)) (fun b u z => ?_) (fun b z => ?_) fun _ => hk
    · by_cases hb : b = a
      · exact .inr ⟨_, _, if_pos hb⟩
      · exact .inl (if_neg hb)
    · by_cases hb : b = a
      · have z' := (if_pos hb).symm.trans z
        cases z'
        subst hb
        exact ⟨ha, by rw [List.length_map]; exact hl, vs, _, rv, ha⟩
      · have z' := (if_neg hb).symm.trans z
        cases z'
    · by_cases hb : b = a
      · exact hb
      · exact absurd (if_neg hb) z
end L2

namespace L2
open PySem PySem.Spec PyProof.Rows

theorem walk_of {l : PySem.W.OpenLaw} {n k : Nat} {q : Program} {loose : List Str} {XP : (Str → Option Value) → Heap → Prop} {YP : World → Heap → Prop} {d : DefRec} {K : Params → PySem.W.Frag} {CX : World → CXT} {sp : World → Sp} {x : Str}
    (hn : l.most = some n) (hn2 : n ≤ sizeLine) (hdf : d.params.defaults = []) (hr : Room k callerA)
    (hY : ∀ (w : World) (h : Heap), YP w h → (K w.params).In h)
    (F : ∀ (w : World) (mg : Str → Option Value) (fa : Addr) (h : Heap), (K w.params).In h → h.Ns mainGlobals mg → mg d.name = some (.ref fa) →
      ∃ fd : FuncData, (∀ (s : Shared) (u : Value), BindsTo s fd ⟨[u], []⟩ [(x, u)]) ∧
        ∀ base : Heap, (K w.params).In base → base.Ns mainGlobals mg → FnOk l.prog w (K w.params) mg base (CX w) k fa fd [x] (sp w))
    (hsp : ∀ (w : World) (H : Hp) (a : Addr) (ns : List Int), ns.length ≤ n → Only H → SqL (K w.params) H a (ns.map V.int) → sp w [.ref a] H (fun v _ => v = .bl true) fun _ _ _ => False)
    (hCX : ∀ (w : World) (H : Hp) (s : Shared) (e : Value) (s' : Shared), CX w [] H s (fun _ _ _ => False) e s' → False) :
    PySem.W.WalkO q loose XP YP l.row.toRowW d [] (fun f vs => PySem.call f vs) := by
  refine Att.attach_call hn hdf fun w s₀ s₁ mg mb fa o pm cd doc a vs ns G Y ho hd hcd hmg hobj hints hlen hg => ?_
  have KX := hY w _ Y
  obtain ⟨fd, hb, hF⟩ := F w mg fa _ KX G.T.g hmg
  exact law_call KX G.T.g G.T.b G.T.builtins G.T.nolimit hg hobj hints (Nat.le_trans hlen hn2) hr hF hb (fun H hO hS => hsp w H a ns hlen hO hS) fun H e s' => hCX w H s₁ e s'

end L2




namespace L2
open PySem PySem.Spec PyProof.Rows



noncomputable def defArgs (s : Stmt) : Arguments := match s with
  | .FunctionDef _ a _ _ _ _ _ _ _ _ => a
  | _ => { posonlyargs := [], args := [], vararg := none, kwonlyargs := [], kw_defaults := [], kwarg := none, defaults := [] }
noncomputable def defBody (s : Stmt) : List Stmt := match s with
  | .FunctionDef _ _ b _ _ _ _ _ _ _ => b
  | _ => []
noncomputable def defScope (s : Stmt) : Scope := match s with
  | .FunctionDef _ _ _ _ _ _ sc _ _ _ => sc
  | _ => { kind := .function, names := [], isGenerator := false, isCoroutine := false }


noncomputable abbrev CX0 : CXT := fun _ _ _ _ _ _ => False
noncomputable abbrev E0 : XK := fun _ _ _ => False
theorem pass0 {X : Cx} : Passes CX0 X E0 := fun _ _ _ _ _ _ _ h => h.elim


structure Fun (K : PySem.W.Frag) (x qual : Str) (st : Stmt) (f : Addr) (fd : FuncData) : Prop where
  ex : ∃ (oc : Value) (od : Option Addr) (kV doc pm : Value) (an : Option Addr) (cdv ct : Value) (osl : Array (Option Value)),
    fd = PySem.W.fnOf x qual (defArgs st) (defBody st) (defScope st) .none kV doc pm an cdv ct ∧ K.lookup f = some ⟨oc, od, .func fd, osl⟩ ∧ PySem.W.codeIn K cdv qual = true
  kp : PySem.W.keepIn K (.ref f) = true
section
variable {P : Program} {w : World} {K : PySem.W.Frag} {mg : Str → Option Value} {base : Heap}

theorem Fun.ok {x qual : Str} {st : Stmt} {f : Addr} {fd : FuncData} {N ps : List Str} {k : Nat} {sp : Sp} (F : Fun K x qual st f fd) (S : FnScope N ps (defScope st)) (len : ∀ vs H Q E, sp vs H Q E → vs.length = ps.length)
    (hbody : ∀ (cdv : Value) (A : Around) (outer : List Env) (s : Shared) (H : Hp) (vs : List V) (Q : VK) (E : XK), Room k (A.deeper (envOfC qual (defScope st) s.heap.objs.size f cdv)) → sp vs H Q E →
      ∃ t, PSs (cxOf CX0 P w K mg base N qual (defScope st) f cdv A outer s H E).nox (defBody st) t ∧ t { nx := fun _ H' => Q .non H', rt := Q } (start N vs) H) : FnOk P w K mg base CX0 (k + 1) f fd ps sp := by
  obtain ⟨oc, od, kV, doc, pm, an, cdv, ct, osl, rfl, lk, hcd⟩ := F.ex
  refine fn_of lk hcd S len fun A outer s H vs Q E hr hsp => ?_
  obtain ⟨t, h, q⟩ := hbody cdv A outer s H vs Q E hr hsp
  exact ⟨t, h.nox, q⟩

theorem Fun.binds {x qual : Str} {st : Stmt} {f : Addr} {fd : FuncData} {ps : List Str} (F : Fun K x qual st f fd)
    (h : ∀ (kV doc pm : Value) (an : Option Addr) (cdv ct : Value) (us : List Value), us.length = ps.length → bindArgs (PySem.W.fnOf x qual (defArgs st) (defBody st) (defScope st) .none kV doc pm an cdv ct) ⟨us, []⟩ = pure (ps.zip us)) : Binds K fd ps [] := by
  obtain ⟨oc, od, kV, doc, pm, an, cdv, ct, osl, rfl, lk, hcd⟩ := F.ex
  exact .all (h kV doc pm an cdv ct)
theorem fun_mk {x qual : Str} {st : Stmt} {f : Addr} {oc : Value} {od an : Option Addr} {osl : Array (Option Value)} {kV doc pm cdv ct : Value} (l : K.lookup f = some ⟨oc, od, .func (PySem.W.fnOf x qual (defArgs st) (defBody st) (defScope st) .none kV doc pm an cdv ct), osl⟩)
    (c : PySem.W.codeIn K cdv qual = true) (k : PySem.W.keepIn K (.ref f) = true) : Fun K x qual st f (PySem.W.fnOf x qual (defArgs st) (defBody st) (defScope st) .none kV doc pm an cdv ct) := ⟨⟨oc, od, kV, doc, pm, an, cdv, ct, osl, rfl, l, c⟩, k⟩
end
section
variable {X : Cx}
theorem pv (i : Nat) {x : Str} {pos : Pos} (hN : X.N[i]? = some x := by rfl) (hv : Vis X.env.scope x := by first | exact Or.inl rfl | exact Or.inr (Or.inl rfl) | exact Or.inr (Or.inr rfl)) (hd : (x == ("__debug__" : Str)) = false := by decide)
    (hcd : (x == ("__classdict__" : Str)) = false := by decide) : PE X (.Name x pos) (tVar i) := pe_var hN hv hd hcd
end


theorem ite2 {c A B : Prop} [Decidable c] (h1 : c → A) (h2 : ¬ c → B) : if c then A else B := by
  by_cases h : c
  · rw [if_pos h]
    exact h1 h
  · rw [if_neg h]
    exact h2 h
noncomputable def Same (H H' : Hp) : Prop := ∀ b o, H b = some o → H' b = some o
theorem Same.refl (H : Hp) : Same H H := fun _ _ h => h
theorem Same.trans {H H1 H2 : Hp} (a : Same H H1) (b : Same H1 H2) : Same H H2 := fun c o h => b c o (a c o h)
theorem Same.free {H H' : Hp} (e : Same H H') {l : Addr} (h : H' l = Option.none) : H l = Option.none := by
  cases q : H l with
  | none => rfl
  | some o =>
    rw [e l o q] at h
    cases h
theorem Same.seq {K : PySem.W.Frag} {H H' : Hp} {a : Addr} {xs : List V} (e : Same H H') (h : SqL K H a xs) : SqL K H' a xs := by
  rcases h with (h | ⟨o, h⟩) | h
  · exact .inl (.inl (e _ _ h))
  · exact .inl (.inr ⟨o, e _ _ h⟩)
  · exact .inr h

end L2

set_option Elab.async false
set_option linter.all false
set_option maxRecDepth 100000
namespace L2
open PySem PySem.Spec PyProof.Rows


section
variable {κ : Type} [DecidableEq κ]
noncomputable def valV (kvs : List (κ × V)) (k : κ) : Option V := (kvs.find? fun kv => decide (kv.1 = k)).map (·.2)

noncomputable def putK (kvs : List (κ × V)) (k : κ) (v : V) : List (κ × V) :=
  if (kvs.any fun kv => decide (kv.1 = k)) = true then kvs.map (fun kv => if kv.1 = k then (kv.1, v) else kv) else kvs ++ [(k, v)]
noncomputable def dropK (kvs : List (κ × V)) (k : κ) : List (κ × V) := kvs.filter fun kv => decide (kv.1 ≠ k)

theorem valV_pos {p : κ × V} {r : List (κ × V)} {k : κ} (e : p.1 = k) : valV (p :: r) k = some p.2 := by simp [valV, List.find?_cons, e]
theorem valV_neg {p : κ × V} {r : List (κ × V)} {k : κ} (e : ¬ p.1 = k) : valV (p :: r) k = valV r k := by simp [valV, List.find?_cons, e]
theorem valV_any (k : κ) : ∀ kvs : List (κ × V), (kvs.any fun kv => decide (kv.1 = k)) = (valV kvs k).isSome
  | [] => rfl
  | p :: r => by
    rw [List.any_cons]
    by_cases e : p.1 = k
    · simp only [valV_pos e, decide_eq_true e, Bool.true_or, Option.isSome_some]
    · rw [valV_neg e, decide_eq_false e, Bool.false_or]; exact valV_any k r
theorem length_putK (kvs : List (κ × V)) (k : κ) (v : V) : (putK kvs k v).length ≤ kvs.length + 1 := by
  unfold putK
  split
  · rw [List.length_map]; omega
  · rw [List.length_append, List.length_cons, List.length_nil]; omega
theorem RelO.isSome_eq {o : Option V} {u : Option Value} (r : RelO o u) : o.isSome = u.isSome := by
  cases o with
  | none => cases u with
    | none => rfl
    | some _ => exact (show False from r).elim
  | some _ => cases u with
    | none => exact (show False from r).elim
    | some _ => rfl
theorem RelO.getD {o : Option V} {u : Option Value} {d : V} {d' : Value} (r : RelO o u) (rd : RelV d d') : RelV (o.getD d) (u.getD d') := by
  cases o with
  | none => cases u with
    | none => exact rd
    | some _ => exact (show False from r).elim
  | some _ => cases u with
    | none => exact (show False from r).elim
    | some _ => exact r


theorem KV.val {kvs : List (κ × V)} {vs : List (κ × Value)} (r : KV kvs vs) (k : κ) : RelO (valV kvs k) (valueAt vs k) := by
  unfold KV at r
  induction r with
  | nil => exact True.intro
  | @cons p q ps qs h t ih =>
    obtain ⟨h1, h2⟩ := h
    by_cases e : p.1 = k
    · have e' : q.1 = k := h1.symm.trans e
      have b : valueAt (q :: qs) k = some q.2 := by simp [valueAt, List.find?_cons, e']
      rw [valV_pos e, b]; exact h2
    · have e' : ¬ q.1 = k := fun z => e (h1.trans z)
      have b : valueAt (q :: qs) k = valueAt qs k := by simp [valueAt, List.find?_cons, e']
      rw [valV_neg e, b]; exact ih
theorem KV.any {kvs : List (κ × V)} {vs : List (κ × Value)} (r : KV kvs vs) (k : κ) : (kvs.any fun kv => decide (kv.1 = k)) = vs.any fun kv => decide (kv.1 = k) := by
  unfold KV at r
  induction r with
  | nil => rfl
  | cons h t ih => rw [List.any_cons, List.any_cons, ih, h.1]
theorem KV.repl {kvs : List (κ × V)} {vs : List (κ × Value)} (r : KV kvs vs) (k : κ) {y : V} {u : Value} (ry : RelV y u) :
    KV (kvs.map fun kv => if kv.1 = k then (kv.1, y) else kv) (vs.map fun kv => if kv.1 = k then (kv.1, u) else kv) := by
  unfold KV at r ⊢
  induction r with
  | nil => exact .nil
  | @cons p q ps qs h t ih =>
    rw [List.map_cons, List.map_cons]
    refine .cons ?_ ih
    obtain ⟨h1, h2⟩ := h
    by_cases e : p.1 = k
    · rw [if_pos e, if_pos (h1.symm.trans e)]; exact ⟨h1, ry⟩
    · rw [if_neg e, if_neg (fun z => e (h1.trans z))]; exact ⟨h1, h2⟩
theorem KV.put {kvs : List (κ × V)} {vs : List (κ × Value)} (r : KV kvs vs) (k : κ) {y : V} {u : Value} (ry : RelV y u) : KV (putK kvs k y) (stored vs k u) := by
  unfold putK stored
  rw [r.any k]
  by_cases e : (vs.any fun kv => decide (kv.1 = k)) = true
  · rw [if_pos e, if_pos e]; exact r.repl k ry
  · rw [if_neg e, if_neg e]; exact Paired.snoc r ⟨rfl, ry⟩
theorem KV.drop {kvs : List (κ × V)} {vs : List (κ × Value)} (r : KV kvs vs) (k : κ) : KV (dropK kvs k) (without vs k) := by
  unfold KV at r ⊢
  unfold dropK without
  induction r with
  | nil => exact .nil
  | @cons p q ps qs h t ih =>
    obtain ⟨h1, h2⟩ := h
    rw [List.filter_cons, List.filter_cons]
    by_cases e : p.1 = k
    · have a : ¬ decide (p.1 ≠ k) = true := by simp [e]
      have b : ¬ decide (q.1 ≠ k) = true := by simp [h1.symm.trans e]
      rw [if_neg a, if_neg b]; exact ih
    · have e' : ¬ q.1 = k := fun z => e (h1.trans z)
      have a : decide (p.1 ≠ k) = true := by simp [e]
      have b : decide (q.1 ≠ k) = true := by simp [e']
      rw [if_pos a, if_pos b]; exact .cons ⟨h1, h2⟩ ih
theorem KV.keys {kvs : List (κ × V)} {vs : List (κ × Value)} (r : KV kvs vs) : kvs.map (·.1) = vs.map (·.1) := by
  unfold KV at r
  induction r with
  | nil => rfl
  | cons h t ih => rw [List.map_cons, List.map_cons, ih, h.1]
theorem KV.length {kvs : List (κ × V)} {vs : List (κ × Value)} (r : KV kvs vs) : kvs.length = vs.length := Paired.length r
theorem dropK_le (kvs : List (κ × V)) (k : κ) : (dropK kvs k).length ≤ kvs.length := List.length_filter_le _ _
end



theorem kV_is {P : Program} {w : World} {k : Key} {u : Value} (r : RelV (kV k) u) : (mixKind P w).is k u = true := by
  cases k with
  | inl i => obtain ⟨t, e⟩ := (show ∃ t, u = Value.int i t from r); subst e; exact mixKind_int P w i t
  | inr x => obtain ⟨t, e⟩ := (show ∃ t, u = Value.str x t from r); subst e; exact mixKind_str P w x t
theorem items_are {P : Program} {w : World} : ∀ {ks : List Key} {us : List Value}, Vals (ks.map kV) us → ItemsAre (mixKind P w) ks us
  | [], _, r => by rw [List.map_nil] at r; cases r; exact .nil
  | k :: ks, _, r => by
    rw [List.map_cons] at r
    cases r with
    | cons h t => exact .cons (kV_is h) (items_are t)


noncomputable abbrev KT (H : Hp) : List (List Key × V) → List (List Key × Addr × Value) → Prop := Paired fun p q => p.1 = q.1 ∧ H q.2.1 = some (.tup (p.1.map kV)) ∧ RelV p.2 q.2.2
theorem KT.val {H : Hp} {kvs : List (List Key × V)} {xs : List (List Key × Addr × Value)} (r : KT H kvs xs) (k : List Key) : RelO (valV kvs k) ((atKey xs k).map (·.2)) := by
  induction r with
  | nil => exact True.intro
  | @cons p q ps qs h t ih =>
    obtain ⟨h1, _, h2⟩ := h
    by_cases e : p.1 = k
    · have e' : q.1 = k := h1.symm.trans e
      have b : atKey (q :: qs) k = some q.2 := by simp [atKey, List.find?_cons, e']
      rw [valV_pos e, b]; exact h2
    · have e' : ¬ q.1 = k := fun z => e (h1.trans z)
      have b : atKey (q :: qs) k = atKey qs k := by simp [atKey, List.find?_cons, e']
      rw [valV_neg e, b]; exact ih
theorem KT.repl {H : Hp} {kvs : List (List Key × V)} {xs : List (List Key × Addr × Value)} (r : KT H kvs xs) (k : List Key) {y : V} {u : Value} (ry : RelV y u) :
    KT H (kvs.map fun kv => if kv.1 = k then (kv.1, y) else kv) (xs.map (putAt k u)) := by
  induction r with
  | nil => exact .nil
  | @cons p q ps qs h t ih =>
    rw [List.map_cons, List.map_cons]
    refine .cons ?_ ih
    obtain ⟨h1, h2, h3⟩ := h
    unfold putAt
    by_cases e : p.1 = k
    · rw [if_pos e, if_pos (h1.symm.trans e)]; exact ⟨h1, h2, ry⟩
    · rw [if_neg e, if_neg (fun z => e (h1.trans z))]; exact ⟨h1, h2, h3⟩
theorem KT.put {H : Hp} {kvs : List (List Key × V)} {xs : List (List Key × Addr × Value)} (r : KT H kvs xs) (k : List Key) {b : Addr} {y : V} {u : Value} (hb : H b = some (.tup (k.map kV))) (ry : RelV y u) :
    KT H (putK kvs k y) (storedH xs k b u) := by
  have e : (kvs.any fun kv => decide (kv.1 = k)) = (atKey xs k).isSome := by
    rw [valV_any, (r.val k).isSome_eq, Option.isSome_map]
  unfold putK storedH
  rw [e]
  by_cases q : (atKey xs k).isSome = true
  · rw [if_pos q, if_pos q]; exact r.repl k ry
  · rw [if_neg q, if_neg q]; exact Paired.snoc r ⟨rfl, hb, ry⟩
theorem KT.keeps {H H' : Hp} {kvs : List (List Key × V)} {xs : List (List Key × Addr × Value)} (r : KT H kvs xs) (ht : ∀ b ys, H b = some (.tup ys) → H' b = some (.tup ys)) : KT H' kvs xs :=
  Paired.mapP r fun _ _ z => ⟨z.1, ht _ _ z.2.1, z.2.2⟩

section
variable {P : Program} {w : World} {H : Hp} {h : Heap} {a : Addr}
theorem rd_of {u : HO} (ok : HOk P w H h) (e : Rd H a u) : ObjOk P w H h a u := e.ok ok
theorem dk_rd {kvs : List (Key × V)} (ok : HOk P w H h) (e : Rd H a (.dK kvs)) : kvs.length ≤ sizeLine ∧ (a == sysModules) = false ∧ ∃ vs, KV kvs vs ∧ h.DictOf (mixKind P w) a vs :=
  show ObjOk P w H h a (.dK kvs) from rd_of ok e
theorem dk_of {kvs : List (Key × V)} (ok : HOk P w H h) (e : H a = some (.dK kvs)) : kvs.length ≤ sizeLine ∧ (a == sysModules) = false ∧ ∃ vs, KV kvs vs ∧ h.DictOf (mixKind P w) a vs := dk_rd ok (.inl e)

theorem key_of {ks : List Key} (ok : HOk P w H h) (e : H a = some (.tup (ks.map kV))) : (tupleKind (mixKind P w)).is h ks a := by
  obtain ⟨_, its, r, o, h1, h2, _, n, h3⟩ := (show ObjOk P w H h a (.tup (ks.map kV)) from ok a _ e)
  exact ⟨o, its.toArray, n, h1, h2, h3, by simpa using items_are r⟩
theorem dt_rd {kvs : List (List Key × V)} (ok : HOk P w H h) (e : Rd H a (.dT kvs)) : kvs.length ≤ sizeLine ∧ (a == sysModules) = false ∧
    ∃ xs, KT H kvs xs ∧ h.DictOfH (tupleKind (mixKind P w)) a xs := by
  obtain ⟨z, y, xs, r, o, es, ep, h1, h2, h3, h4, h5⟩ := (show ObjOk P w H h a (.dT kvs) from rd_of ok e)
  refine ⟨z, y, xs, r, o, es, ep, h1, h2, h3, h4, fun x hx => ?_, h5⟩
  have all : ∀ {l : List (List Key × V)} {m : List (List Key × Addr × Value)}, KT H l m → ∀ x ∈ m, (tupleKind (mixKind P w)).is h x.1 x.2.1 := by
    intro l m q
    induction q with
    | nil => intro x hx; exact nomatch hx
    | @cons p q ps qs hq t ih =>
      intro x hx
      rcases List.mem_cons.mp hx with e | hx
      · subst e
        exact key_of ok (by rw [← hq.1]; exact hq.2.1)
      · exact ih x hx
  exact all r x hx
theorem dt_of {kvs : List (List Key × V)} (ok : HOk P w H h) (e : H a = some (.dT kvs)) : kvs.length ≤ sizeLine ∧ (a == sysModules) = false ∧
    ∃ xs, KT H kvs xs ∧ h.DictOfH (tupleKind (mixKind P w)) a xs := dt_rd ok (.inl e)
end


noncomputable def DGet (H : Hp) (a : Addr) (y : V) (r : Option V) : Prop :=
  (∃ kvs k, Rd H a (.dK kvs) ∧ y = kV k ∧ r = valV kvs k) ∨ ∃ kvs k b, Rd H a (.dT kvs) ∧ y = .ref b ∧ H b = some (.tup (k.map kV)) ∧ r = valV kvs k

noncomputable def DPut (H : Hp) (a : Addr) (y v : V) (H' : Hp) : Prop :=
  (∃ kvs k, H a = some (.dK kvs) ∧ y = kV k ∧ kvs.length < sizeLine ∧ H' = upd H a (.dK (putK kvs k v))) ∨
  ∃ kvs k b, H a = some (.dT kvs) ∧ y = .ref b ∧ H b = some (.tup (k.map kV)) ∧ kvs.length < sizeLine ∧ H' = upd H a (.dT (putK kvs k v))
theorem DGet.k {H : Hp} {a : Addr} {kvs : List (Key × V)} {k : Key} (e : H a = some (.dK kvs)) : DGet H a (kV k) (valV kvs k) := .inl ⟨kvs, k, .inl e, rfl, rfl⟩
theorem DPut.k {H : Hp} {a : Addr} {kvs : List (Key × V)} {k : Key} {v : V} (e : H a = some (.dK kvs)) (hl : kvs.length < sizeLine) : DPut H a (kV k) v (upd H a (.dK (putK kvs k v))) := .inl ⟨kvs, k, e, rfl, hl, rfl⟩
section
variable {X : Cx} {pins : List (Addr × Obj)} {σ : St} {H : Hp} {s : Shared} {a : Addr} {y v : V} {u r : Value} {o : Option V} {A : Around} {E : Value → Shared → Prop}

theorem Inv.big (I : Inv X pins σ H s) : sysModules < s.heap.objs.size := by
  have h : mainGlobals < s.heap.objs.size := (I.mod.glob.keeps I.bk).lt
  exact Nat.lt_trans (by decide) h


theorem d_getItem {Q : Value → Shared → Prop} (hu : A.units + 1 < cLine) (I : Inv X pins σ H s) (g : DGet H a y (some v)) (ry : RelV y u) (h : ∀ w' s', Inv X pins σ H s' → RelV v w' → Q w' s') :
    wpAny (model X.prog X.w) A (getItem (.ref a) u) Q E s := by
  rcases g with ⟨kvs, k, e, ey, l⟩ | ⟨kvs, k, b, e, ey, eb, l⟩
  · subst ey
    obtain ⟨z, hd, vs, rel, dd⟩ := dk_rd I.hok e
    obtain ⟨w', hw, rw'⟩ := RelO.some_of (v := v) (o := valueAt vs k) (by rw [l]; exact rel.val k)
    exact wpAny_getItem_of (kV_is ry) dd.mapOf hw (h w' _ (I.tok _) rw')
  · subst ey
    cases (show u = Value.ref b from ry)
    obtain ⟨z, hd, xs, rel, dd⟩ := dt_rd I.hok e
    obtain ⟨w', hw, rw'⟩ := RelO.some_of (v := v) (o := (atKey xs k).map (·.2)) (by rw [l]; exact rel.val k)
    obtain ⟨p, hp, hp2⟩ := Option.map_eq_some_iff.mp hw
    refine wpAny_getItem_heap (tupleKind_room_in1 hu) (key_of I.hok eb) dd hp ?_
    rw [hp2]
    exact h w' _ (I.tok _) rw'

theorem d_notIn {Q : Value → Shared → Prop} (hu : A.units + 1 < cLine) (I : Inv X pins σ H s) (g : DGet H a y o) (ry : RelV y u) (h : ∀ s', Inv X pins σ H s' → Q (.bool (!o.isSome)) s') :
    wpAny (model X.prog X.w) A (compareOp .NotIn u (.ref a)) Q E s := by
  rcases g with ⟨kvs, k, e, ey, l⟩ | ⟨kvs, k, b, e, ey, eb, l⟩
  · subst ey
    obtain ⟨z, hd, vs, rel, dd⟩ := dk_rd I.hok e
    refine wpAny_notIn_of (kV_is ry) hd dd.mapOf ?_
    rw [← (rel.val k).isSome_eq, ← l]
    exact h _ (I.tok _)
  · subst ey
    cases (show u = Value.ref b from ry)
    obtain ⟨z, hd, xs, rel, dd⟩ := dt_rd I.hok e
    refine wpAny_notIn_heap (tupleKind_room_in1 hu) (key_of I.hok eb) hd dd ?_
    have q := (rel.val k).isSome_eq
    rw [Option.isSome_map] at q
    rw [← q, ← l]
    exact h _ (I.tok _)

theorem d_write {h' : Heap} {t' : Nat} {ob : HO} (I : Inv X pins σ H s) (mu : Mut (H a)) (hs : Heap.SameBut a s.heap h') (he : ∃ q, h'.get? a = some q) (new : ObjOk X.prog X.w (upd H a ob) h' a ob) :
    Inv X pins σ (upd H a ob) { s with heap := h', toks := t' } :=
  I.write (x := a) (e := a) mu (.inl rfl) (fun b q hb z => (hs.2 b hb).trans z) he new
theorem dk_new {P : Program} {w : World} {H' : Hp} {h' : Heap} {kvs : List (Key × V)} {vs : List (Key × Value)} (z : kvs.length ≤ sizeLine) (hd : (a == sysModules) = false) (rel : KV kvs vs) (dd : h'.DictOf (mixKind P w) a vs) :
    ObjOk P w H' h' a (.dK kvs) := ⟨z, hd, vs, rel, dd⟩

theorem d_setItem {H' : Hp} {Q : Unit → Shared → Prop} (hu : A.units + 1 < cLine) (I : Inv X pins σ H s) (g : DPut H a y v H') (ry : RelV y u) (rv : RelV v r) (h : ∀ s', Inv X pins σ H' s' → Q () s') :
    wpAny (model X.prog X.w) A (setItem (.ref a) u r) Q E s := by
  rcases g with ⟨kvs, k, e, ey, l, eH⟩ | ⟨kvs, k, b, e, ey, eb, l, eH⟩
  · subst ey eH
    obtain ⟨z, hd, vs, rel, dd⟩ := dk_of I.hok e
    have hz : vs.length ≤ sizeLine := by rw [← rel.length]; exact z
    have hl : (putK kvs k v).length ≤ sizeLine := by have := length_putK kvs k v; omega
    refine wpAny_setItem_pairs (hsz := hz) (kV_is ry) dd fun h' dd' hs => h _ ?_
    have he : ∃ q, h'.get? a = some q := let ⟨q, _, _, hq, _⟩ := dd'; ⟨q, hq⟩
    exact d_write I (by rw [e]; exact True.intro) hs he (dk_new hl hd (rel.put k rv) dd')
  · subst ey eH
    cases (show u = Value.ref b from ry)
    obtain ⟨z, hd, xs, rel, dd⟩ := dt_of I.hok e
    have hz : xs.length ≤ sizeLine := by rw [← Paired.length rel]; exact z
    have hl : (putK kvs k v).length ≤ sizeLine := by have := length_putK kvs k v; omega
    refine wpAny_setItem_heap (hsz := hz) (tupleKind_room_in1 hu) (key_of I.hok eb) dd fun h' dd' hs => h _ ?_
    obtain ⟨q, es, ep, hq, h2, h3, h4, _, h5⟩ := dd'
    refine d_write I (by rw [e]; exact True.intro) hs ⟨q, hq⟩ ⟨hl, hd, _, (rel.put k eb rv).keeps fun c ys ec => ?_, q, es, ep, hq, h2, h3, h4, h5⟩
    rw [upd_ne (ne_of ec e (fun z => nomatch z))]
    exact ec
end

section
variable {X : Cx} {pins : List (Addr × Obj)} {σ : St} {H : Hp} {s : Shared} {a : Addr} {kvs : List (Key × V)} {k : Key} {u : Value} {A : Around} {E : Value → Shared → Prop}

theorem d_delItem {Q : Unit → Shared → Prop} (I : Inv X pins σ H s) (e : H a = some (.dK kvs)) (ry : RelV (kV k) u) (l : (valV kvs k).isSome = true) (h : ∀ s', Inv X pins σ (upd H a (.dK (dropK kvs k))) s' → Q () s') :
    wpAny (model X.prog X.w) A (delItem (.ref a) u) Q E s := by
  obtain ⟨z, hd, vs, rel, dd⟩ := dk_of I.hok e
  refine wpAny_delItem_slot dd.typeIs (by decide) PySem.F.slot_dict_delitem
    (call_meetsIn PySem.F.slot_dict_delitem dd.typeIs PySem.F.entry_dict_delitem (PySem.F.args_dict_delitem_2 _ _) (meets_dict_delitem_pairs (mixKind X.prog X.w) a (kV_is ry)) ⟨vs, dd, by rw [← rel.length]; exact z, by rw [← (rel.val k).isSome_eq]; exact l, fun h' dd' hs => h _ ?_⟩)
  have he : ∃ q, h'.get? a = some q := let ⟨q, _, _, hq, _⟩ := dd'; ⟨q, hq⟩
  exact d_write I (by rw [e]; exact True.intro) hs he (dk_new (Nat.le_trans (dropK_le kvs k) z) hd (rel.drop k) dd')

theorem d_pop {v : V} {more : List Value} {Q : Value → Shared → Prop} (I : Inv X pins σ H s) (e : H a = some (.dK kvs)) (ry : RelV (kV k) u) (l : valV kvs k = some v) (hm : more = [] ∨ ∃ x, more = [x])
    (h : ∀ w' s', Inv X pins σ (upd H a (.dK (dropK kvs k))) s' → RelV v w' → Q w' s') : wpAny (model X.prog X.w) A (call (.builtin "dict.pop") (.ref a :: u :: more)) Q E s := by
  obtain ⟨z, hd, vs, rel, dd⟩ := dk_of I.hok e
  obtain ⟨w', hw, rw'⟩ := RelO.some_of (v := v) (o := valueAt vs k) (by rw [← l]; exact rel.val k)
  have hp : (keyPart u).isSome = true := by
    cases k with
    | inl i => obtain ⟨t, q⟩ := (show ∃ t, u = Value.int i t from ry); subst q; rfl
    | inr x => obtain ⟨t, q⟩ := (show ∃ t, u = Value.str x t from ry); subst q; rfl
  have ha : argsOk "dict.pop" ⟨.ref a :: u :: more, []⟩ := by
    rcases hm with q | ⟨x, q⟩
    · subst q; exact PySem.F.args_dict_pop_2 _ _
    · subst q; exact PySem.F.args_dict_pop_3 _ _ _
  refine call_meetsIn PySem.F.slot_dict_pop dd.typeIs PySem.F.entry_dict_pop ha (meets_dict_pop_there (mixKind X.prog X.w) a (kV_is ry) more hm hp)
    ⟨vs, w', dd, by rw [← rel.length]; exact z, hw, fun h' dd' hs => h w' _ ?_ rw'⟩
  have he : ∃ q, h'.get? a = some q := let ⟨q, _, _, hq, _⟩ := dd'; ⟨q, hq⟩
  exact d_write I (by rw [e]; exact True.intro) hs he (dk_new (Nat.le_trans (dropK_le kvs k) z) hd (rel.drop k) dd')

theorem d_popD {r : Value} {Q : Value → Shared → Prop} (I : Inv X pins σ H s) (e : H a = some (.dK kvs)) (ry : RelV (kV k) u) (l : valV kvs k = none) (h : ∀ s', Inv X pins σ H s' → Q r s') :
    wpAny (model X.prog X.w) A (call (.builtin "dict.pop") [.ref a, u, r]) Q E s := by
  obtain ⟨z, hd, vs, rel, dd⟩ := dk_of I.hok e
  have hn : valueAt vs k = none := RelO.none_of (by rw [← l]; exact rel.val k)
  have hp : (keyPart u).isSome = true := by
    cases k with
    | inl i => obtain ⟨t, q⟩ := (show ∃ t, u = Value.int i t from ry); subst q; rfl
    | inr x => obtain ⟨t, q⟩ := (show ∃ t, u = Value.str x t from ry); subst q; rfl
  exact call_meetsIn PySem.F.slot_dict_pop dd.typeIs PySem.F.entry_dict_pop (PySem.F.args_dict_pop_3 _ _ _) (meets_dict_pop_default (mixKind X.prog X.w) a (kV_is ry) hd hp r) ⟨vs, dd, hn, h _ (I.tok _)⟩

theorem d_len {Q : Value → Shared → Prop} (I : Inv X pins σ H s) (e : Rd H a (.dK kvs)) (h : ∀ t s', Inv X pins σ H s' → Q (.int kvs.length t) s') : wpAny (model X.prog X.w) A (call (.builtin "len") [.ref a]) Q E s := by
  obtain ⟨z, hd, vs, rel, dd⟩ := dk_rd I.hok e
  refine call_len_dict hd dd (by rw [← rel.length]; rw [sizeLine_eq] at z; omega) ?_
  rw [← rel.length]
  exact h _ _ (I.tok _)

end




noncomputable def NoSl (i : Expr) : Prop := ∀ ov iv, subscripted i false ov iv = operate [ov, iv] (getItem ov iv)
theorem subD_of {prog : Program} {w : World} {A : Around} {E : Value → Shared → Prop} {s : Shared} {env : Env} {value slice : Expr} {pos : Pos} {T id : String} {Q : Value → Shared → Prop}
    (hl : typeLookup (.type T) "__getitem__" = pure (some (.builtin id))) (hs : NoSl slice)
    (h : wpAny (model prog w) A (eval value env) (fun o s₁ => wpAny (model prog w) A (eval slice env) (fun i s₂ => s₂.TypeIs o T ∧ wpAny (model prog w) A (getItem o i) Q E s₂) E s₁) E s) :
    wpAny (model prog w) A (eval (.Subscript value slice pos) env) Q E s := by
  refine Subscript_ (wpAny_mono h (fun o s₁ h₁ => wpAny_mono h₁ (fun i s₂ h₂ => ?_) fun _ _ x => x) fun _ _ x => x)
  obtain ⟨hT, h₂⟩ := h₂
  unfold subscriptTail
  refine wpAny_bind ?_
  rw [getitemInPython_of_ne hT.not_modules]
  refine wpAny_bind (wpAny_specialOf hT hl ?_)
  have fin : wpAny (model prog w) A (subscripted slice false o i) (fun r s₃ => wpAny (model prog w) A (letTemporaryGo value o r >>= fun _ => pure r) Q E s₃) E s₂ := by
    rw [hs o i]
    exact wpAny_operating (wpAny_mono h₂ (fun r s₃ h₃ => wpAny_bind (wpAny_letTemporaryGo (wpAny_pure h₃))) fun _ _ x => x)
  first
    | exact wpAny_pure (wpAny_bind fin)
    | exact wpAny_bind (wpAny_pure (wpAny_bind fin))
    | exact wpAny_bind fin

theorem dict_typeIs {X : Cx} {pins : List (Addr × Obj)} {σ : St} {H : Hp} {s : Shared} {a : Addr} {y : V} {o : Option V} (I : Inv X pins σ H s) (g : DGet H a y o) : s.TypeIs (.ref a) "dict" := by
  rcases g with ⟨kvs, k, e, _, _⟩ | ⟨kvs, k, b, e, _, _, _⟩
  · obtain ⟨_, _, vs, _, dd⟩ := dk_rd I.hok e
    exact dd.typeIs
  · obtain ⟨_, _, xs, _, dd⟩ := dt_rd I.hok e
    exact dd.typeIs
noncomputable def tDGet (td ty : TE) : TE := fun σ H Q => td σ H fun x H1 => ty σ H1 fun y H2 => ∃ a v, x = .ref a ∧ DGet H2 a y (some v) ∧ Q v H2

noncomputable def sDPut (td ty tv : TE) : TS := fun D σ H => tv σ H fun v H1 => td σ H1 fun x H2 => ty σ H2 fun y H3 => ∃ a H4, x = .ref a ∧ DPut H3 a y v H4 ∧ D.nx σ H4

section
variable {X : Cx} {o i e value : Expr} {pos pos' tpos : Pos} {td ty tv : TE}
theorem pe_dget (hu : X.A.units + 1 < cLine) (ho : PE X o td) (hi : PE X i ty) (hs : NoSl i) : PE X (.Subscript o i pos) (tDGet td ty) := by
  intro pins s σ H Q I h
  refine subD_of PySem.F.slot_dict_getitem.lookup hs (thn (ho pins s σ H _ I h) fun u s1 hm1_ => ?_)
  obtain ⟨x, H1, I1, rx, q1⟩ := hm1_
  refine thn (hi pins s1 σ H1 _ I1 q1) fun iv s2 hm2_ => ?_
  obtain ⟨y, H2, I2, ry, a, v, ex, g, q2⟩ := hm2_
  subst ex
  obtain rfl : u = Value.ref a := rx
  exact ⟨dict_typeIs I2 g, d_getItem hu I2 g ry fun w' s3 I3 rw' => ⟨v, H2, I3, rw', q2⟩⟩
theorem ps_dput (hu : X.A.units + 1 < cLine) (ho : PE X o td) (hi : PE X i ty) (hv : PE X value tv) (hs : swapsWith value (some (.Subscript o i pos')) pos.line X.env = pure false) :
    PS X (.Assign [.Subscript o i pos'] value pos) (sDPut td ty tv) := by
  intro pins s σ H D I h
  refine wpAny_Assign_Subscript (thn (hv pins s σ H _ I h) fun r s1 hm1_ => ?_) hs
  obtain ⟨v, H1, I1, rv, q1⟩ := hm1_
  refine thn (ho pins s1 σ H1 _ I1 q1) fun u s2 hm2_ => ?_
  obtain ⟨x, H2, I2, rx, q2⟩ := hm2_
  refine thn (hi pins s2 σ H2 _ I2 q2) fun iv s3 hm3_ => ?_
  obtain ⟨y, H3, I3, ry, a, H4, ex, g, q3⟩ := hm3_
  subst ex
  obtain rfl : u = Value.ref a := rx
  exact d_setItem hu I3 g ry rv fun s4 I4 => ⟨σ, H4, I4, q3⟩
end



theorem dk_empty {P : Program} {w : World} {H : Hp} (h : Heap) (hb : sysModules < h.objs.size) : ObjOk P w H (h.push { cls := .type "dict", data := .dict #[] }) h.objs.size (.dK []) :=
  ⟨Nat.zero_le _, beq_eq_false_iff_ne.mpr (Ne.symm (Nat.ne_of_lt hb)), [], .nil, Heap.DictOf.new h⟩
noncomputable def tDNewK : TE := fun _ H Q => ∀ p, H p = none → Q (.ref p) (upd H p (.dK []))
section
variable {X : Cx} {pos : Pos}
theorem pe_dnewK : PE X (.Dict [] [] pos) tDNewK := fun pins s σ H Q I h =>
  wpAny_Dict_empty ⟨.ref s.heap.objs.size, _, I.laid (a := s.heap.objs.size) (o := .dK []) (t' := s.toks) (fun _ _ q => Heap.get?_push_of_some _ q) (Nat.le_refl _) (dk_empty s.heap I.big), rfl, h _ (I.hok.fresh (Nat.le_refl _))⟩
end


structure M2 (X : Cx) (o : Expr) (m : Str) (apos : Pos) (e f : Expr) (cpos : Pos) : Prop where
  base : attributeBase o m X.env (eval o X.env) = eval o X.env
  few : ((backTo cpos (starEach [e, f] X.env)).all (fun x => !x.1) && (backToKw cpos (keywordEach [] X.env)).all (fun x => x.1.isSome)
    && decide (([e, f] : List Expr).length + ([] : List Keyword).length + (if ([] : List Keyword).isEmpty then 0 else 1) < 30)) = true
  line : (apos.endLine == cpos.line) = true
  trees : backTo cpos (starEach [e, f] X.env) = [(false, eval e X.env), (false, eval f X.env)]


noncomputable def IsD (H : Hp) (a : Addr) : Prop := (∃ kvs, Rd H a (.dK kvs)) ∨ ∃ kvs, Rd H a (.dT kvs)
theorem isD_at {X : Cx} {pins : List (Addr × Obj)} {σ : St} {H : Hp} {s : Shared} {a : Addr} (I : Inv X pins σ H s) (d : IsD H a) :
    s.TypeIs (.ref a) "dict" ∧ (∀ b, Value.ref a = .ref b → ∃ ob, s.heap.get? b = some ob ∧ ob.dict = none) ∧ (a == sysModules) = false := by
  rcases d with ⟨kvs, e⟩ | ⟨kvs, e⟩
  · obtain ⟨_, hd, vs, _, dd⟩ := dk_rd I.hok e
    refine ⟨dd.typeIs, fun b q => ?_, hd⟩
    cases q
    obtain ⟨ob, _, _, h1, h2, _⟩ := dd
    exact ⟨ob, h1, h2.2.1⟩
  · obtain ⟨_, hd, xs, _, dd⟩ := dt_rd I.hok e
    refine ⟨dd.typeIs, fun b q => ?_, hd⟩
    cases q
    obtain ⟨ob, _, _, h1, h2, _⟩ := dd
    exact ⟨ob, h1, h2.2.1⟩

section
variable {X : Cx} {pins : List (Addr × Obj)} {σ : St} {H : Hp} {s : Shared} {a : Addr} {y d : V} {u r : Value} {o : Option V} {A : Around} {E : Value → Shared → Prop}

theorem d_get2 {Q : Value → Shared → Prop} (hu : A.units + 1 < cLine) (I : Inv X pins σ H s) (g : DGet H a y o) (ry : RelV y u) (rd : RelV d r) (h : ∀ w' s', Inv X pins σ H s' → RelV (o.getD d) w' → Q w' s') :
    wpAny (model X.prog X.w) A (call (.builtin "dict.get") [.ref a, u, r]) Q E s := by
  rcases g with ⟨kvs, k, e, ey, l⟩ | ⟨kvs, k, b, e, ey, eb, l⟩
  · subst ey
    obtain ⟨z, hd, vs, rel, dd⟩ := dk_rd I.hok e
    refine call_meetsIn PySem.F.slot_dict_get dd.typeIs PySem.F.entry_dict_get (PySem.F.args_dict_get_3 _ _ _) (meets_dict_get_default (mixKind X.prog X.w) a (kV_is ry) hd r) ⟨_, dd.mapOf, h _ _ (I.tok _) ?_⟩
    rw [l]
    exact (rel.val k).getD rd
  · subst ey
    cases (show u = Value.ref b from ry)
    obtain ⟨z, hd, xs, rel, dd⟩ := dt_rd I.hok e
    refine call_meetsIn PySem.F.slot_dict_get dd.typeIs PySem.F.entry_dict_get (PySem.F.args_dict_get_3 _ _ _) (meetsH_dict_get_default (tupleKind (mixKind X.prog X.w)) a b hd r) ⟨tupleKind_room_in1 hu, k, xs, key_of I.hok eb, dd, h _ _ (I.tok _) ?_⟩
    rw [l]
    exact (rel.val k).getD rd
end

noncomputable def tDGet2 (td ty tx : TE) : TE := fun σ H Q => td σ H fun x H1 => ∃ a, x = .ref a ∧ IsD H1 a ∧ ty σ H1 fun y H2 => tx σ H2 fun z H3 => ∃ o, DGet H3 a y o ∧ Q (o.getD z) H3

noncomputable def tDPop2 (td ty tx : TE) : TE := fun σ H Q => td σ H fun x H1 => ∃ a, x = .ref a ∧ IsD H1 a ∧ ty σ H1 fun y H2 => tx σ H2 fun z H3 => ∃ kvs k, H3 a = some (.dK kvs) ∧ y = kV k ∧
  (∀ v, valV kvs k = some v → Q v (upd H3 a (.dK (dropK kvs k)))) ∧ (valV kvs k = none → Q z H3)
section
variable {X : Cx} {o e f : Expr} {apos cpos : Pos} {td ty tx : TE}
theorem pe_dget2 (hu : X.A.units + 1 < cLine) (ho : PE X o td) (he : PE X e ty) (hf : PE X f tx) (m : M2 X o "get" apos e f cpos) : PE X (.Call (.Attribute o "get" apos) [e, f] [] cpos) (tDGet2 td ty tx) := by
  intro pins s σ H Q I h
  refine wpAny_Call_method m.base m.few m.line PySem.F.plainAttrs_dict PySem.F.slot_dict_get PySem.F.type_dict_get (thn (ho pins s σ H _ I h) fun u s1 hm1_ => ?_)
  obtain ⟨x, H1, I1, rx, a, ex, d, q1⟩ := hm1_
  subst ex
  obtain rfl : u = Value.ref a := rx
  obtain ⟨t1, t2, _⟩ := isD_at I1 d
  refine ⟨t1, t2, ?_⟩
  rw [m.trees]
  refine Calls.callWith_builtin rfl (Calls.evalArgs_plain (Calls.spliced_cons (thn (he pins s1 σ H1 _ I1 q1) fun iv s2 hm1_ => ?_)))
  obtain ⟨y, H2, I2, ry, q2⟩ := hm1_
  refine Calls.spliced_cons (thn (hf pins s2 σ H2 _ I2 q2) fun fv s3 hm2_ => ?_)
  obtain ⟨z, H3, I3, rz, ov, g, q3⟩ := hm2_
  refine Calls.spliced_nil ?_
  exact d_get2 hu I3 g ry rz fun w' s4 I4 rw' => ⟨_, H3, I4, rw', q3⟩
theorem pe_dpop2 (ho : PE X o td) (he : PE X e ty) (hf : PE X f tx) (m : M2 X o "pop" apos e f cpos) : PE X (.Call (.Attribute o "pop" apos) [e, f] [] cpos) (tDPop2 td ty tx) := by
  intro pins s σ H Q I h
  refine wpAny_Call_method m.base m.few m.line PySem.F.plainAttrs_dict PySem.F.slot_dict_pop PySem.F.type_dict_pop (thn (ho pins s σ H _ I h) fun u s1 hm1_ => ?_)
  obtain ⟨x, H1, I1, rx, a, ex, d, q1⟩ := hm1_
  subst ex
  obtain rfl : u = Value.ref a := rx
  obtain ⟨t1, t2, _⟩ := isD_at I1 d
  refine ⟨t1, t2, ?_⟩
  rw [m.trees]
  refine Calls.callWith_builtin rfl (Calls.evalArgs_plain (Calls.spliced_cons (thn (he pins s1 σ H1 _ I1 q1) fun iv s2 hm1_ => ?_)))
  obtain ⟨y, H2, I2, ry, q2⟩ := hm1_
  refine Calls.spliced_cons (thn (hf pins s2 σ H2 _ I2 q2) fun fv s3 hm2_ => ?_)
  obtain ⟨z, H3, I3, rz, kvs, k, ea, ey, q3, q4⟩ := hm2_
  refine Calls.spliced_nil ?_
  subst ey
  cases l : valV kvs k with
  | some v => exact d_pop I3 ea ry l (.inr ⟨fv, rfl⟩) fun w' s4 I4 rw' => ⟨v, _, I4, rw', q3 v l⟩
  | none => exact d_popD I3 ea ry l fun s4 I4 => ⟨z, H3, I4, rz, q4 l⟩
end


section
variable {X : Cx} {pins : List (Addr × Obj)} {σ : St} {H : Hp} {s : Shared} {a : Addr} {kvs : List (Key × V)} {A : Around} {E : Value → Shared → Prop}
theorem d_copyOf {Q : Value → Shared → Prop} (I : Inv X pins σ H s) (e : Rd H a (.dK kvs)) (h : ∀ p s', H p = none → Inv X pins σ (upd H p (.dK kvs)) s' → Q (.ref p) s') : wpAny (model X.prog X.w) A (call (.type "dict") [.ref a]) Q E s := by
  obtain ⟨z, hd, vs, rel, dd⟩ := dk_rd I.hok e
  refine kt_call_dict hd dd (by rw [← rel.length]; exact z) fun h' dd' hs => ?_
  refine h _ _ (I.hok.fresh (Nat.le_refl _)) (I.laid (a := s.heap.objs.size) (o := .dK kvs) (t' := s.toks) (fun b q hq => ?_) (Nat.le_refl _) (dk_new z (beq_eq_false_iff_ne.mpr (Ne.symm (Nat.ne_of_lt I.big))) rel dd'))
  exact (hs.2 b (Nat.ne_of_lt (Heap.lt_size hq))).trans (Heap.get?_push_of_some _ hq)
end


section
variable {X : Cx} {pins : List (Addr × Obj)} {σ : St} {H : Hp} {s : Shared} {a : Addr} {y : V} {u : Value} {A : Around} {E : Value → Shared → Prop}

end
end L2
namespace L2
open PySem PySem.Spec PyProof.Rows
section
variable {X : Cx}
theorem call_lenD : CallR X (.builtin "len") (fun xs H Q => ∃ a kvs, xs = [V.ref a] ∧ H a = some (.dK kvs) ∧ Q (.int kvs.length) H) := by
  intro pins s σ H xs us Q I r h
  obtain ⟨a, kvs, rfl, ha, q⟩ := h
  obtain ⟨u, rfl, ru⟩ := vals1 r
  cases ru
  exact d_len I (.inl ha) fun t s' I' => ⟨.int kvs.length, H, I', ⟨t, rfl⟩, q⟩
end
end L2

set_option Elab.async false
set_option linter.all false
set_option maxRecDepth 100000
set_option maxHeartbeats 4000000

namespace L2
open PySem PySem.Spec PyProof.Rows


noncomputable def clOf (cells : List (Str × Addr)) : List (Str × NameKind) → List (Str × Addr) → List (Str × Addr)
  | [], acc => acc
  | (n, k) :: r, acc => clOf cells r (if (k == NameKind.free) = true then (n, (cells.lookup n).getD 0) :: acc else acc)

theorem closure_ok {sc : Scope} {env : Env} (h : ∀ n, (n, NameKind.free) ∈ sc.names → ∃ c, env.cells.lookup n = some c) : closureFor sc env = pure (clOf env.cells sc.names []) := by
  have all : ∀ (l : List (Str × NameKind)) (acc : List (Str × Addr)), (∀ n, (n, NameKind.free) ∈ l → ∃ c, env.cells.lookup n = some c) →
      (forIn l acc fun (x : Str × NameKind) (cs : List (Str × Addr)) => match x with
        | (name, kind) => if (kind == NameKind.free) = true then (do let c ← cellOf env name; pure (ForInStep.yield ((name, c) :: cs))) else pure (ForInStep.yield cs)) = (pure (clOf env.cells l acc) : Sem _) := by
    intro l
    induction l with
    | nil => intro acc _; rfl
    | cons x r ih =>
      intro acc hl
      obtain ⟨n, k⟩ := x
      rw [List.forIn_cons]
      by_cases hk : (k == NameKind.free) = true
      · have hk' : k = NameKind.free := by simpa using hk
        subst hk'
        obtain ⟨c, hc⟩ := hl n List.mem_cons_self
        have e1 : cellOf env n = pure c := by unfold cellOf; rw [hc]
        simp only [beq_self_eq_true, if_true, e1, pure_bind]
        rw [ih _ fun m hm => hl m (List.mem_cons_of_mem _ hm)]
        show _ = (pure (clOf env.cells r (if (NameKind.free == NameKind.free) = true then (n, (env.cells.lookup n).getD 0) :: acc else acc)) : Sem _)
        rw [if_pos (by simp), hc]
        rfl
      · have hk2 : (k == NameKind.free) = false := by simpa using hk
        simp only [hk2, Bool.false_eq_true, if_false, pure_bind]
        rw [ih _ fun m hm => hl m (List.mem_cons_of_mem _ hm)]
        show _ = (pure (clOf env.cells r (if (k == NameKind.free) = true then (n, (env.cells.lookup n).getD 0) :: acc else acc)) : Sem _)
        rw [if_neg hk]
  have := all sc.names [] h
  unfold closureFor
  dsimp only
  rw [this, pure_bind]

theorem lookup_clOf {cells : List (Str × Addr)} {x : Str} {c : Addr} : ∀ {l : List (Str × NameKind)} {acc : List (Str × Addr)}, (∀ n, (n, NameKind.free) ∈ l → ∃ c, cells.lookup n = some c) →
    (acc.lookup x = some c → cells.lookup x = some c) → (clOf cells l acc).lookup x = some c → cells.lookup x = some c
  | [], _, _, ha, h => ha h
  | (n, k) :: r, acc, hl, ha, h => by
    refine lookup_clOf (l := r) (fun m hm => hl m (List.mem_cons_of_mem _ hm)) ?_ h
    by_cases hk : (k == NameKind.free) = true
    · rw [if_pos hk]
      have hk' : k = NameKind.free := by simpa using hk
      subst hk'
      obtain ⟨d, hd⟩ := hl n List.mem_cons_self
      intro e
      rw [List.lookup_cons] at e
      cases hx : x == n with
      | true =>
        rw [hx] at e
        have hxn : x = n := by simpa using hx
        subst hxn
        rw [hd] at e ⊢
        exact e
      | false => rw [hx] at e; exact ha e
    · rw [if_neg hk]; exact ha

theorem clOf_has {cells : List (Str × Addr)} {x : Str} : ∀ {l : List (Str × NameKind)} {acc : List (Str × Addr)}, ((x, NameKind.free) ∈ l ∨ ∃ c, acc.lookup x = some c) → ∃ c, (clOf cells l acc).lookup x = some c
  | [], _, h => by
    rcases h with h | h
    · exact nomatch h
    · exact h
  | (n, k) :: r, acc, h => by
    refine clOf_has (l := r) ?_
    by_cases hk : (k == NameKind.free) = true
    · rw [if_pos hk]
      by_cases hx : (x == n) = true
      · exact .inr ⟨(cells.lookup n).getD 0, by rw [List.lookup_cons, hx]⟩
      · have hx2 : (x == n) = false := by simpa using hx
        rcases h with h | ⟨c, h⟩
        · rcases List.mem_cons.mp h with e | e
          · have e1 : x = n := congrArg Prod.fst e
            exact absurd (by simp [e1]) hx
          · exact .inl e
        · exact .inr ⟨c, by rw [List.lookup_cons, hx2]; exact h⟩
    · rw [if_neg hk]
      rcases h with h | h
      · rcases List.mem_cons.mp h with e | e
        · have e2 : NameKind.free = k := congrArg Prod.snd e
          exact absurd (by simp [← e2]) hk
        · exact .inl e
      · exact .inr h


noncomputable def compCx (X : Cx) (sc : Scope) (N' : List Str) (C : Addr) (s₀ : Shared) (H₀ : Hp) (fp : List Addr) : Cx where
  prog := X.prog
  w := X.w
  K := X.K
  mg := X.mg
  base := X.base
  A := X.A
  N := N'
  s₀ := s₀
  H₀ := H₀
  env := compEnvC sc (clOf X.env.cells sc.names []) C X.env
  outer := X.stack
  stack := X.stack
  ex := fp
  fn := fun _ => false
  calm := X.calm
  pn := []
  xe := fun _ _ => False


noncomputable def capS (cap : List (Option Nat)) (σ : St) : St := cap.map fun o => o.bind fun j => (σ[j]?).join

structure CapOk (X : Cx) (sc : Scope) (N' : List Str) (cap : List (Option Nat)) : Prop where
  kind : sc.kind = .function
  len : cap.length = N'.length
  nocell : ∀ x ∈ sc.names, x.2 ≠ NameKind.cell
  locals : ∀ x ∈ sc.names, x.2 = NameKind.local → sc.names.lookup x.1 = some NameKind.local
  free : ∀ n, (n, NameKind.free) ∈ sc.names → X.env.kindOf n = some .cell ∨ X.env.kindOf n = some .free
  slots : ∀ (i j : Nat) (x : Str), N'[i]? = some x → cap[i]? = some (some j) → X.N[j]? = some x ∧ ((relabel sc X.env).names.lookup x = some .cell ∨ (relabel sc X.env).names.lookup x = some .free) ∧ Vis X.env.scope x

section
variable {X : Cx} {sc : Scope} {N' : List Str} {cap : List (Option Nat)} {pins : List (Addr × Obj)} {σ : St} {H : Hp} {s : Shared} {C : Addr} {fp : List Addr}

theorem CapOk.cells (c : CapOk X sc N' cap) (ok : X.Ok) : ∀ n, (n, NameKind.free) ∈ sc.names → ∃ c, X.env.cells.lookup n = some c := fun n hn => ok.has n (c.free n hn)

theorem relabel_mem {env : Env} {x : Str} {k : NameKind} (hnc : ∀ x ∈ sc.names, x.2 ≠ NameKind.cell) (h : (relabel sc env).names.lookup x = some k) (hk : k = .cell ∨ k = .free) : (x, NameKind.free) ∈ sc.names := by
  have all : ∀ (l : List (Str × NameKind)), (∀ x ∈ l, x.2 ≠ NameKind.cell) → (l.map fun (n, k) => if (k == NameKind.free && env.scope.kind == .function && env.kindOf n == some .cell) then (n, NameKind.cell) else (n, k)).lookup x = some k → (x, NameKind.free) ∈ l := by
    intro l
    induction l with
    | nil => intro _ h; exact nomatch h
    | cons p r ih =>
      intro hn h
      obtain ⟨n, q⟩ := p
      rw [List.map_cons, List.lookup_cons] at h
      by_cases hc : (q == NameKind.free && env.scope.kind == .function && env.kindOf n == some .cell) = true
      · have hq : q = NameKind.free := by
          have := hc
          simp only [Bool.and_eq_true] at this
          simpa using this.1.1
        simp only [hc, if_true] at h
        cases hx : x == n with
        | true =>
          have e : x = n := by simpa using hx
          rw [e, hq]
          exact List.mem_cons_self
        | false =>
          rw [hx] at h
          exact List.mem_cons_of_mem _ (ih (fun y hy => hn y (List.mem_cons_of_mem _ hy)) h)
      · simp only [hc] at h
        cases hx : x == n with
        | true =>
          have e : x = n := by simpa using hx
          simp only [Bool.false_eq_true, if_false, hx] at h
          have e2 : q = k := by simpa using h
          rcases hk with z | z
          · exact absurd (e2.trans z) (hn (n, q) List.mem_cons_self)
          · rw [e, ← z, ← e2]
            exact List.mem_cons_self
        | false =>
          simp only [Bool.false_eq_true, if_false, hx] at h
          exact List.mem_cons_of_mem _ (ih (fun y hy => hn y (List.mem_cons_of_mem _ hy)) h)
  exact all sc.names hnc h

theorem comp_ok (c : CapOk X sc N' cap) (I : Inv X pins σ H s) (hC : s.heap.objs.size ≤ C) (hf : ∀ b ∈ fp, FpOk X pins H b) (hb : ∀ b ∈ fp, b < s.heap.objs.size) : (compCx X sc N' C s H fp).Ok where
  mod := I.ok.mod
  kind := c.kind
  glob := I.ok.glob
  blt := I.ok.blt
  above := hC
  inj := fun x y a hx hy => I.ok.inj x y a (lookup_clOf (c.cells I.ok) (fun z => by simp at z) hx) (lookup_clOf (c.cells I.ok) (fun z => by simp at z) hy)
  has := fun x hx => by
    refine clOf_has (.inl ?_)
    rcases hx with hx | hx
    · exact relabel_mem c.nocell hx (.inl rfl)
    · exact relabel_mem c.nocell hx (.inr rfl)
  cab := fun _ _ h => nomatch h
  hd := I.ok.hd
  frames := I.ok.frames
  stk := .inl rfl
  exf := fun b hb' => ⟨Nat.ne_of_lt (Nat.lt_of_lt_of_le (hb b hb') hC), fun x a e => (hf b hb').2.2.2.2.1 x a (lookup_clOf (c.cells I.ok) (fun z => by simp at z) e)⟩
  bs := I.bs
  bsz := Nat.le_trans I.ok.bsz I.sz
  noex := fun b o e hb' => by
    rcases (hf b hb').2.2.2.1 with z | z
    · exact I.ok.noex b o e z
    · exact absurd (Nat.lt_of_lt_of_le (Heap.lt_size e) (Nat.le_trans I.ok.bsz z)) (Nat.lt_irrefl _)
  exfs := fun b hb' z => by
    obtain ⟨_, f1, f2, _⟩ := hf b hb'
    rcases List.mem_cons.mp (I.stkSub b z) with e | e
    · exact f1 e
    · exact f2 e
  funs := I.stack
  frf := I.stkFree


theorem comp_inv (c : CapOk X sc N' cap) (I : Inv X pins σ H s) {D : Addr} {h1 : Heap} {t : Nat} (hC : C = s.heap.objs.size + 1) (hD : D = s.heap.objs.size) (hf : ∀ b ∈ fp, FpOk X pins H b) (hb : ∀ b ∈ fp, b < s.heap.objs.size)
    (hn : h1.Ns C fun _ => none) (hl : h1.get? D = some { cls := .type "list", data := .seq #[] 0 }) (k : ∀ b o, s.heap.get? b = some o → h1.get? b = some o) :
    Inv (compCx X sc N' C s H fp) [] (capS cap σ) (upd H D (.lst [])) { s with heap := h1, toks := t } := by
  have hCs : s.heap.objs.size ≤ C := by rw [hC]; exact Nat.le_succ _
  have hCD : C ≠ D := by rw [hC, hD]; exact Nat.succ_ne_self _
  have ok := comp_ok (C := C) (fp := fp) c I hCs hf hb
  have hDn : H D = none := by rw [hD]; exact I.fresh
  have ltc : ∀ x a, (clOf X.env.cells sc.names []).lookup x = some a → X.env.cells.lookup x = some a := fun x a e => lookup_clOf (c.cells I.ok) (fun z => by simp at z) e
  have cel : ∀ a v, s.heap.IsCell a v → h1.IsCell a v := fun a v ⟨o, ho, hd⟩ => ⟨o, k a o ho, hd⟩
  have ltD : ∀ a v, s.heap.IsCell a v → a ≠ D := fun a v ⟨o, ho, hd⟩ => by rw [hD]; exact Nat.ne_of_lt (Heap.lt_size ho)
  refine ⟨ok, rfl, I.bare, Un.laid k (by rw [hD]; exact Nat.le_refl _) hDn, ⟨_, hn, fun i x v e1 e2 e3 => ?_⟩, fun x a e => ?_, ?_, fun x a e => ?_, fun p hp => absurd hp (by simp [compCx]), ?_, ?_⟩
  · have e2' : cap[i]?.map (fun o => o.bind fun j => (σ[j]?).join) = some (some v) := by
      have := e2
      unfold capS at this
      rw [List.getElem?_map] at this
      exact this
    cases hc : cap[i]? with
    | none => rw [hc] at e2'; cases e2'
    | some o =>
      rw [hc] at e2'
      cases o with
      | none => cases e2'
      | some j =>
        have e4 : (σ[j]?).join = some v := by simpa using e2'
        obtain ⟨q1, q2', q3⟩ := c.slots i j x e1 hc
        have q2 : (x, NameKind.free) ∈ sc.names := q2'.elim (fun z => relabel_mem c.nocell z (.inl rfl)) fun z => relabel_mem c.nocell z (.inr rfl)
        obtain ⟨m, hm, hl'⟩ := I.loc
        have e5 : σ[j]? = some (some v) := by
          cases z : σ[j]? with
          | none => rw [z] at e4; cases e4
          | some y => rw [z] at e4; cases y with
            | none => cases e4
            | some y' => cases e4; rfl
        obtain ⟨u, r, l⟩ := hl' j x v q1 e5 q3
        refine ⟨u, r, ?_⟩
        obtain ⟨a, ha⟩ := clOf_has (cells := X.env.cells) (l := sc.names) (acc := []) (x := x) (.inl q2)
        have kd : X.env.kindOf x = some .cell ∨ X.env.kindOf x = some .free := c.free x q2
        rcases l with ⟨hk, _⟩ | ⟨hk, a', ha', hcell⟩
        · rcases kd with z | z <;> rw [z] at hk <;> cases hk
        · have e6 : a' = a := by
            have := ltc x a ha
            rw [ha'] at this
            exact Option.some.inj this
          refine .inr ⟨q2', a, ha, ?_⟩
          rw [← e6]
          exact cel _ _ hcell
  · obtain ⟨v, z⟩ := I.cell x a (ltc x a e)
    exact ⟨v, cel a v z⟩
  · show upd H D (.lst []) C = none
    rw [upd_ne hCD]
    exact I.hok.fresh hCs
  · show upd H D (.lst []) a = none
    obtain ⟨v, z⟩ := I.cell x a (ltc x a e)
    rw [upd_ne (ltD a v z)]
    exact I.freeC x a (ltc x a e)
  · exact I.hok.laid k (by rw [hD]; exact Nat.le_refl _) ⟨Nat.zero_le _, [], 0, .nil, hl⟩
  · show (capS cap σ).length = N'.length
    unfold capS
    rw [List.length_map, c.len]
end
end L2

set_option Elab.async false
set_option linter.all false
set_option maxRecDepth 100000
set_option maxHeartbeats 4000000
namespace L2
open PySem PySem.Spec PyProof.Rows


noncomputable def capB (osc : Scope) (N : List Str) (sc : Scope) (N' : List Str) (cap : List (Option Nat)) : Bool :=
  decide (sc.kind = .function) && decide (cap.length = N'.length) && sc.names.all (fun x => decide (x.2 ≠ NameKind.cell)) && sc.names.all (fun x => decide (x.2 = NameKind.local → sc.names.lookup x.1 = some NameKind.local)) &&
  sc.names.all (fun x => decide (x.2 = NameKind.free → (osc.names.lookup x.1 = some .cell ∨ osc.names.lookup x.1 = some .free))) &&
  (N'.zip cap).all (fun p => match p.2 with
    | none => true
    | some j => decide (N[j]? = some p.1) && decide (((sc.names.map fun (n, k) => if (k == .free && osc.kind == .function && osc.names.lookup n == some .cell) then (n, NameKind.cell) else (n, k)).lookup p.1 = some .cell) ∨
        ((sc.names.map fun (n, k) => if (k == .free && osc.kind == .function && osc.names.lookup n == some .cell) then (n, NameKind.cell) else (n, k)).lookup p.1 = some .free)) &&
      decide (osc.names.lookup p.1 = some .local ∨ osc.names.lookup p.1 = some .cell ∨ osc.names.lookup p.1 = some .free))
theorem capB_ok {X : Cx} {sc : Scope} {N' : List Str} {cap : List (Option Nat)} (h : capB X.env.scope X.N sc N' cap = true) : CapOk X sc N' cap := by
  unfold capB at h
  rw [Bool.and_eq_true, Bool.and_eq_true, Bool.and_eq_true, Bool.and_eq_true, Bool.and_eq_true, List.all_eq_true, List.all_eq_true, List.all_eq_true, List.all_eq_true] at h
  obtain ⟨⟨⟨⟨⟨h1, h2⟩, h3⟩, h4⟩, h5⟩, h6⟩ := h
  refine ⟨of_decide_eq_true h1, of_decide_eq_true h2, fun x hx => of_decide_eq_true (h3 x hx), fun x hx => of_decide_eq_true (h4 x hx), fun n hn => of_decide_eq_true (h5 _ hn) rfl, fun i j x e1 e2 => ?_⟩
  have hm : (x, some j) ∈ N'.zip cap := by
    have e : (N'.zip cap)[i]? = some (x, some j) := by
      rw [List.getElem?_zip_eq_some]
      exact ⟨e1, e2⟩
    exact List.mem_of_getElem? e
  have h7 := h6 _ hm
  dsimp only at h7
  rw [Bool.and_eq_true, Bool.and_eq_true] at h7
  obtain ⟨⟨h8, h9⟩, h10⟩ := h7
  exact ⟨of_decide_eq_true h8, of_decide_eq_true (p := (relabel sc X.env).names.lookup x = some .cell ∨ (relabel sc X.env).names.lookup x = some .free) h9, of_decide_eq_true (p := X.env.scope.names.lookup x = some .local ∨ X.env.scope.names.lookup x = some .cell ∨ X.env.scope.names.lookup x = some .free) h10⟩


noncomputable def PTs (X : Cx) (ifs : List Expr) (t : TT) : Prop :=
  ∀ (pins : List (Addr × Obj)) (s : Shared) (σ : St) (H : Hp) (Q : Bool → Hp → Prop), Inv X pins σ H s → t σ H Q →
    wpAny (model X.prog X.w) X.A (forIn ifs true fun c r => if r = true then do let ok ← isTrue c X.env (eval c X.env); pure (ForInStep.yield ok) else pure (ForInStep.yield r)) (TP X pins σ Q) X.xe s
noncomputable def tYes : TT := fun _ H Q => Q true H
theorem pts_nil {X : Cx} : PTs X [] tYes := fun _ _ _ H _ I h => wpAny_tests_nil ⟨H, I, h⟩
theorem pts_one {X : Cx} {c : Expr} {t : TT} (h : PT X c t) : PTs X [c] t := fun pins s σ H Q I hw => wpAny_tests_one (h pins s σ H Q I hw)


noncomputable def RunC (J : It) (g : TG) (tc : TT) (te : TE) (D : Addr) (Q : Hp → Prop) (τ : St) (H : Hp) : Prop :=
  ∃ W : Nat → Nat → List V → St → Hp → Prop, (∃ m, W 0 m [] τ H) ∧ ∀ i m ys τ H, W i m ys τ H →
    (J.stop i H ∧ Q H) ∨
    (J.go i H ∧ ∃ N : List V → St → Hp → Prop, (∀ ys' τ' H', N ys' τ' H' → ∃ m', m' < m ∧ W (i + 1) m' ys' τ' H') ∧
      ∀ x H', J.yld i H x H' → g x τ H' fun τ2 H2 => tc τ2 H2 fun b H3 => if b = true then te τ2 H3 fun y H4 => H4 D = some (.lst ys) ∧ ys.length < sizeLine ∧ N (ys ++ [y]) τ2 (upd H4 D (.lst (ys ++ [y]))) else N ys τ2 H3)

section
variable {X : Cx} {sc : Scope} {N' : List Str} {cap : List (Option Nat)} {tg elt iter : Expr} {ifs : List Expr} {pos : Pos} {g : TG} {tc : TT} {te : TE}

theorem comp_loop {Y : Cx} {J : It} {fp : List Addr} {it D : Addr} {tn : Nat → Heap → Prop} {R : Result → Shared → Prop} {Q : Hp → Prop} {τ : St} {H : Hp} {s : Shared}
    (hx : Y.xe = fun _ _ => False) (hc : Y.calm = true) (hg : PG Y tg g) (ht : PTs Y ifs tc) (he : PE Y elt te) (T : Turn Y.prog Y.w Y.K tg J fp it tn) (st : tn 0 s.heap) (hf : ∀ b ∈ fp, FpOk Y [] H b) (I : Inv Y [] τ H s)
    (h : RunC J g tc te D Q τ H) (hR : ∀ τ' H' s', Inv Y [] τ' H' s' → Q H' → R (.ok .next) s') :
    codeAny (model Y.prog Y.w) Y.A (.compLoop (.ListComp elt [⟨tg, iter, ifs, 0⟩] sc pos) 0 (.ref it) (.ref D) Y.env) R s := by
  obtain ⟨W, ⟨m0, w0⟩, turn⟩ := h
  have stat : ∀ {H' : Hp}, (∀ b ∈ fp, H' b = none) → ∀ b ∈ fp, FpOk Y [] H' b := fun hn b hb => ⟨hn b hb, (hf b hb).2⟩
  have no : ∀ {P : Prop} {e : Value} {s' : Shared}, Y.xe e s' → P := fun z => by rw [hx] at z; exact z.elim
  refine codeAny_loop rfl (fun n s' => ∃ i ys τ' H', Inv Y [] τ' H' s' ∧ tn i s'.heap ∧ (∀ b ∈ fp, H' b = none) ∧ W i n ys τ' H') ?_ m0 ⟨0, [], τ, H, I, st, fun b hb => (hf b hb).1, w0⟩
  rintro n s3 ⟨i, ys, τ3, H3, I3, st3, fr3, w3⟩
  show wpAny _ Y.A ((compTurn (.ListComp elt [⟨tg, iter, ifs, 0⟩] sc pos) 0 (.ref it) (.ref D) Y.env).onRaise (fun x => do noteFrame x Y.env; theTreesLotGoes x)) _ _ s3
  refine wpAny_noted ?_
  rw [compTurn_list]
  refine wpAny_bind (wpAny_standAt (wpAny_bind ?_))
  rcases turn i n ys τ3 H3 w3 with ⟨stop, qn⟩ | ⟨go, N, hN, step⟩
  · refine wpAny_mono (T.done Y rfl rfl rfl hc i [] s3 τ3 H3 (fun _ _ => False) I3 (stat fr3) st3 stop) (fun r s4 hm1_ => ?_) fun _ _ z => z.elim
    obtain ⟨hr, I4⟩ := hm1_
    subst hr
    exact wpAny_pure (hR _ _ _ I4 qn)
  · refine wpAny_mono (T.item Y rfl rfl rfl hc i [] s3 τ3 H3 (fun _ _ => False) I3 (stat fr3) st3 go) (fun r s4 hm1_ => ?_) fun _ _ z => z.elim
    obtain ⟨u, hr, h4⟩ := hm1_
    subst hr
    refine wpAny_bind (wpAny_mono h4 (fun _ s5 hm1_ => ?_) fun _ _ z => z.elim)
    obtain ⟨x, H5, I5, r5, y5, st5, fr5⟩ := hm1_
    have I5' := I5.pinned (stat fr5) (T.obj _ _ st5)
    have again : ∀ {τ7 : St} {H7 : Hp} {ys7 : List V} {s7 : Shared}, Inv Y ([] ++ pinsAt fp s5.heap) τ7 H7 s7 → N ys7 τ7 H7 → ∃ m, m < n ∧ ∃ i ys τ' H', Inv Y [] τ' H' s7 ∧ tn i s7.heap ∧ (∀ b ∈ fp, H' b = none) ∧ W i m ys τ' H' := fun {τ7 H7 ys7 s7} I7 n7 => by
      obtain ⟨m', hm, w7⟩ := hN ys7 τ7 H7 n7
      refine ⟨m', hm, i + 1, ys7, τ7, H7, I7.unpinned, T.keep _ _ _ st5 fun b hb o e => (I7.pin (b, o) (List.mem_append_right _ (List.mem_append_right _ (mem_pinsAt hb e)))).1, fun b hb => ?_, w7⟩
      obtain ⟨o, e, d⟩ := T.obj _ _ st5 b hb
      exact (I7.pin (b, o) (List.mem_append_right _ (List.mem_append_right _ (mem_pinsAt hb e)))).2.1
    refine wpAny_bind (wpAny_mono (hg _ s5 τ3 H5 x u _ I5' r5 (step x H5 y5)) (fun _ s6 hm1_ => ?_) fun _ _ z => no z)
    obtain ⟨τ6, H6, I6, q6⟩ := hm1_
    refine wpAny_bind (wpAny_mono (ht _ s6 τ6 H6 _ I6 q6) (fun ok s7 hm1_ => ?_) fun _ _ z => no z)
    obtain ⟨H7, I7, q7⟩ := hm1_
    cases ok with
    | false =>
      have q8 : N ys τ6 H7 := by simpa using q7
      exact wpAny_pure ⟨rfl, again I7 q8⟩
    | true =>
      have q8 : te τ6 H7 fun y H4 => H4 D = some (.lst ys) ∧ ys.length < sizeLine ∧ N (ys ++ [y]) τ6 (upd H4 D (.lst (ys ++ [y]))) := by simpa using q7
      refine wpAny_bind (wpAny_bind (wpAny_mono (he _ s7 τ6 H7 _ I7 q8) (fun y s8 hm1_ => ?_) fun _ _ z => no z))
      obtain ⟨v8, H8, I8, r8, hD, hl, n8⟩ := hm1_
      refine wpAny_bind (wpAny_mono (mt_append _ s8 τ6 H8 (.ref D) [v8] (.ref D) [y] (fun _ H9 => N (ys ++ [v8]) τ6 H9) I8 rfl (.cons r8 .nil) ⟨D, ys, v8, rfl, rfl, hD, hl, n8⟩) (fun _ s9 hm1_ => ?_) fun _ _ z => no z)
      obtain ⟨_, H9, I9, _, n9⟩ := hm1_
      exact wpAny_pure (wpAny_pure ⟨rfl, again I9 n9⟩)


theorem comp_block {pins : List (Addr × Obj)} {σ : St} {H : Hp} {s : Shared} {J : It} {fp : List Addr} {it : Addr} {tn : Nat → Heap → Prop} {RR : Value → Addr → Result → Shared → Prop} {Q : Addr → Hp → Prop} {E : Value → Shared → Prop}
    (c : CapOk X sc N' cap) (hc : X.calm = true) (hg : ∀ C s₀ H₀ fp, PG (compCx X sc N' C s₀ H₀ fp) tg g) (ht : ∀ C s₀ H₀ fp, PTs (compCx X sc N' C s₀ H₀ fp) ifs tc) (he : ∀ C s₀ H₀ fp, PE (compCx X sc N' C s₀ H₀ fp) elt te)
    (I : Inv X pins σ H s) (T : Turn X.prog X.w X.K tg J fp it tn) (st : tn 0 s.heap) (hf : ∀ b ∈ fp, FpOk X pins H b)
    (h : ∀ D, H D = none → RunC J g tc te D (Q D) (capS cap σ) (upd H D (.lst [])))
    (hR : ∀ D C s' H' m', H D = none → s.heap.objs.size ≤ C → s'.os = s.os → AllBare s'.gens → Un (frs X.stack) fp H H' s.heap s'.heap → HOk X.prog X.w H' s'.heap → s'.heap.Ns C m' → H' C = none → C ∉ fp → Q D H' → RR (.ref D) C (.ok .next) s') :
    wpAny (model X.prog X.w) X.A (newList []) (fun acc s₃ => wpAny (model X.prog X.w) X.A (newFunctionEnv sc X.env.globals (clOf X.env.cells sc.names []) [] X.env.qual none .none (some X.env)) (fun cenv s₄ =>
      codeAny (model X.prog X.w) X.A (.compStart (.ListComp elt [⟨tg, iter, ifs, 0⟩] sc pos) 0 (.ref it) acc { cenv with scope := relabel sc X.env }) (RR acc cenv.locals) s₄) E s₃) E s := by
  have hb : ∀ b ∈ fp, b < s.heap.objs.size := fun b hb => by
    obtain ⟨o, e, _⟩ := T.obj _ _ st b hb
    exact Heap.lt_size e
  refine wpAny_newObj_type (wpAny_newFunctionEnv c.nocell (by intro y hy; simp at hy) (fun h₁ hns₁ hsb₁ => ?_) c.kind)
  dsimp only at hns₁ hsb₁ ⊢
  generalize hH2 : s.heap.push { cls := .type "list", dict := none, data := .seq ([] : List Value).toArray } = H2 at hns₁ hsb₁ ⊢
  have hC : H2.objs.size = s.heap.objs.size + 1 := by rw [← hH2, Heap.size_push]
  have hCl : s.heap.objs.size ≤ H2.objs.size := by rw [hC]; exact Nat.le_succ _
  have hCn : s.heap.objs.size ≠ H2.objs.size := by rw [hC]; exact (Nat.succ_ne_self _).symm
  have old : ∀ b o, s.heap.get? b = some o → h₁.get? b = some o := fun b o e => by
    have l1 := Heap.lt_size e
    exact hsb₁.extBut b o (Nat.ne_of_lt (Nat.lt_of_lt_of_le l1 hCl)) (Heap.get?_push_of_some _ (hH2 ▸ Heap.get?_push_of_some _ e))
  have hl : h₁.get? s.heap.objs.size = some { cls := .type "list", data := .seq #[] 0 } := hsb₁.extBut _ _ hCn (Heap.get?_push_of_some _ (hH2 ▸ Heap.get?_push_size _ rfl))
  have hns₂ : h₁.Ns H2.objs.size fun _ => none := by simpa using hns₁
  have I4 : Inv (compCx X sc N' H2.objs.size s H fp) [] (capS cap σ) (upd H s.heap.objs.size (.lst [])) { s with heap := h₁, toks := s.toks + ([] : List (Str × Value)).length } := comp_inv c I hC rfl hf hb hns₂ hl old
  have hfr : H s.heap.objs.size = none := I.fresh
  have f4 : ∀ b ∈ fp, FpOk (compCx X sc N' H2.objs.size s H fp) [] (upd H s.heap.objs.size (.lst [])) b := fun b hb' => by
    obtain ⟨f0, f1, f2, f3, f4, f5⟩ := hf b hb'
    have lb := hb b hb'
    refine ⟨by rw [upd_ne (Nat.ne_of_lt lb)]; exact f0, (Nat.ne_of_lt (Nat.lt_of_lt_of_le lb hCl) : b ≠ H2.objs.size), fun z => ?_, .inl hb', fun x a e => f4 x a (lookup_clOf (c.cells I.ok) (fun z => by simp at z) e), fun p hp => absurd hp (by simp [compCx])⟩
    rcases List.mem_cons.mp (I.stkSub b z) with e | e
    · exact f1 e
    · exact f2 e
  have st4 : tn 0 h₁ := T.keep _ _ _ st fun b _ o e => old b o e
  have loop : ∀ s₅ : Shared, s₅ = { s with heap := h₁, toks := s.toks + ([] : List (Str × Value)).length } →
      codeAny (model X.prog X.w) X.A (.compLoop (.ListComp elt [⟨tg, iter, ifs, 0⟩] sc pos) 0 (.ref it) (.ref s.heap.objs.size) (compCx X sc N' H2.objs.size s H fp).env) (RR (.ref s.heap.objs.size) H2.objs.size) s₅ := by
    rintro s₅ rfl
    refine comp_loop (Y := compCx X sc N' H2.objs.size s H fp) (J := J) (fp := fp) (tn := tn) (Q := Q s.heap.objs.size) rfl hc (hg _ _ _ _) (ht _ _ _ _) (he _ _ _ _) T st4 f4 I4 (h _ hfr) fun τ' H' s' I' q' => ?_
    obtain ⟨m', hn', _⟩ := I'.loc
    exact hR _ _ s' H' m' hfr hCl I'.os I'.bare I'.base I'.hok hn' I'.free (fun z => absurd (Nat.lt_of_lt_of_le (hb _ z) hCl) (Nat.lt_irrefl _)) q'
  exact codeAny_compStart_list (loop _ rfl) (T.self _ 0 _ _ _ st4 (loop _ rfl))

noncomputable def tComp (wi : TI) (cap : List (Option Nat)) (g : TG) (tc : TT) (te : TE) : TE := fun σ H Q => wi σ H fun J H1 => ∀ D, H1 D = none → RunC J g tc te D (fun H' => Q (.ref D) H') (capS cap σ) (upd H1 D (.lst []))

theorem Inv.fpCh {pins : List (Addr × Obj)} {H : Hp} {fp : List Addr} (hf : ∀ b ∈ fp, FpOk X pins H b) : ∀ b ∈ fp, (b ∈ X.ex ∨ X.s₀.heap.objs.size ≤ b) ∧ b ≠ X.env.locals ∧ (∀ x c, X.env.cells.lookup x = some c → c ≠ b) ∧ ∀ p ∈ X.pn ++ pins, p.1 ≠ b :=
  fun b hb => let ⟨_, f1, _, f3, f4, f5⟩ := hf b hb; ⟨f3, f1, f4, f5⟩

theorem pe_comp {wi : TI} (hc : X.calm = true) (hcap : capB X.env.scope X.N sc N' cap = true) (hi : PI X tg iter wi) (hg : ∀ C s₀ H₀ fp, PG (compCx X sc N' C s₀ H₀ fp) tg g) (ht : ∀ C s₀ H₀ fp, PTs (compCx X sc N' C s₀ H₀ fp) ifs tc)
    (he : ∀ C s₀ H₀ fp, PE (compCx X sc N' C s₀ H₀ fp) elt te) (hs : ∀ x, foldedSetIterable iter X.env x = pure x := by intro _; rfl) : PE X (.ListComp elt [⟨tg, iter, ifs, 0⟩] sc pos) (tComp wi cap g tc te) := by
  intro pins s σ H Q I h
  have c : CapOk X sc N' cap := capB_ok hcap
  rw [eval_ListComp]
  refine wpAny_comprehension_free (use := none) rfl hs (closure_ok (c.cells I.ok)) c.kind c.locals (thn (hi pins s σ H _ I h) fun v s1 h1 => thn h1 fun itv s2 h2 => ?_)
  obtain ⟨it, fp, tn, J, H2, e, I2, T, st2, f2, hW⟩ := h2
  subst e
  refine comp_block (RR := fun acc C => compPost (model X.prog X.w) X.A X.xe none (EP X pins σ Q) acc C) (Q := fun D H' => Q (.ref D) H') c hc hg ht he I2 T st2 f2 hW ?_
  intro D C s' H' m' hD hC hos hbare hun hok hn hHC hCf q
  refine ⟨m', hn, fun h' hsb => ?_⟩
  have I3 : Inv X pins σ H' s' := I2.call' hos hun hok hbare (Inv.fpCh f2)
  have f3 : FpOk X pins H' C := I2.fpOk hC hHC
  obtain ⟨_, k1, _, k3, k4, k5⟩ := f3
  have I4 : Inv X pins σ H' { s' with heap := h' } := I3.turned (t' := s'.toks) (fun b o hb e => (hsb.2 b hb).trans e) hHC k1 k3 k4 k5
  exact ⟨.ref D, H', I4, rfl, q⟩


theorem ps_setC {wi : TI} {i : Nat} {x : Str} {px spos : Pos} (hN : X.N.Nodup) (hi' : X.N[i]? = some x) (hx : Loc X.env.scope x) (hc : X.calm = true) (hcap : capB X.env.scope X.N sc N' cap = true) (hi : PI X tg iter wi)
    (hg : ∀ C s₀ H₀ fp, PG (compCx X sc N' C s₀ H₀ fp) tg g) (ht : ∀ C s₀ H₀ fp, PTs (compCx X sc N' C s₀ H₀ fp) ifs tc) (he : ∀ C s₀ H₀ fp, PE (compCx X sc N' C s₀ H₀ fp) elt te)
    (hsw : swapsWith (.ListComp elt [⟨tg, iter, ifs, 0⟩] sc pos) (some (.Name x px)) spos.line X.env = pure true := by rfl)
    (hs : ∀ x, foldedSetIterable iter X.env x = pure x := by intro _; rfl) (hf : X.fn x = true ∨ X.env.scope.names.lookup x = some .local := by first | exact .inl rfl | exact .inr rfl | assumption) :
    PS X (.Assign [.Name x px] (.ListComp elt [⟨tg, iter, ifs, 0⟩] sc pos) spos) (tAsg (tComp wi cap g tc te) (gName i)) := by
  intro pins s σ H D I h
  have c : CapOk X sc N' cap := capB_ok hcap
  rw [exec_Assign_Name_used _ _ _ _ hsw]
  refine wpAny_bind (wpAny_standAt (wpAny_bind ?_))
  show wpAny _ X.A (do let _ ← comprehension (.ListComp elt [⟨tg, iter, ifs, 0⟩] sc pos) sc X.env _ (newList []) false (eval iter X.env) (some (assign (.Name x px) X.env))) _ _ s
  refine wpAny_bind (thn (wpAny_comprehension_free (use := some (assign (.Name x px) X.env)) (Q := fun _ s' => SP X pins D .next s') rfl hs (closure_ok (c.cells I.ok)) c.kind c.locals
    (thn (hi pins s σ H _ I h) fun v s1 h1 => thn h1 fun itv s2 h2 => ?_)) fun _ s' hq => wpAny_pure (wpAny_pure hq))
  obtain ⟨it, fp, tn, J, H2, e, I2, T, st2, f2, hW⟩ := h2
  subst e
  refine comp_block (RR := fun acc C => compPost (model X.prog X.w) X.A X.xe (some (assign (.Name x px) X.env)) (fun _ s' => SP X pins D .next s') acc C) (Q := fun A H' => gName i (.ref A) σ H' D.nx) c hc hg ht he I2 T st2 f2 hW ?_
  intro A C s' H' m' hD hC hos hbare hun hok hn hHC hCf q
  have I3 : Inv X pins σ H' s' := I2.call' hos hun hok hbare (Inv.fpCh f2)
  have f3 : FpOk X pins H' C := I2.fpOk hC hHC
  obtain ⟨_, k1, _, k3, k4, k5⟩ := f3
  show wpAny _ X.A (assign (.Name x px) X.env (.ref A)) _ _ s'
  refine wpAny_assign_Name (store_ok2 I3 hN hi' hx (v := .ref A) rfl (fun s'' I'' hm1_ => ?_) hf)
  obtain ⟨a, hsb, ha⟩ := hm1_
  have hCa : C ≠ a := by
    rcases ha with z | z
    · rw [z]; exact k1
    · exact fun z' => k4 x a z z'.symm
  refine ⟨m', hn.sameBut hsb hCa, fun h' hsb' => ?_⟩
  have I4 : Inv X pins (σ.set i (some (.ref A))) H' { s'' with heap := h' } := I''.turned (t' := s''.toks) (fun b o hb e => (hsb'.2 b hb).trans e) hHC k1 k3 k4 k5
  exact ⟨_, H', I4, q⟩
end


section
variable {g : TG} {tc : TT} {te : TE} {D : Addr} {Q : Hp → Prop} {τ : St} {H : Hp}
theorem comp_list {K : PySem.W.Frag} {a : Addr} {xs : List V} (Pv : Nat → List V → St → Hp → Prop) (h0 : Pv 0 [] τ H) (hl : ∀ i ys τ H, i ≤ xs.length → Pv i ys τ H → SqL K H a xs)
    (hs : ∀ i x ys τ H, xs[i]? = some x → Pv i ys τ H → g x τ H fun τ2 H2 => tc τ2 H2 fun b H3 => if b = true then te τ2 H3 fun y H4 => H4 D = some (.lst ys) ∧ ys.length < sizeLine ∧ Pv (i + 1) (ys ++ [y]) τ2 (upd H4 D (.lst (ys ++ [y]))) else Pv (i + 1) ys τ2 H3)
    (hd : ∀ ys τ H, Pv xs.length ys τ H → Q H) : RunC (Itl K a) g tc te D Q τ H := by
  refine ⟨fun i m ys τ H => m = xs.length - i ∧ i ≤ xs.length ∧ Pv i ys τ H, ⟨xs.length, by simp, Nat.zero_le _, h0⟩, ?_⟩
  rintro i m ys τ H ⟨rfl, hi, p⟩
  have q := hl i ys τ H hi p
  by_cases hlt : i < xs.length
  · refine .inr ⟨⟨xs, xs[i], q, by simp [hlt]⟩, Pv (i + 1), fun ys' τ' H' p' => ⟨xs.length - (i + 1), by omega, rfl, hlt, p'⟩, fun x H' y => ?_⟩
    obtain ⟨e, y⟩ := y
    subst e
    exact hs i x ys τ _ (y xs q) p
  · have e : i = xs.length := by omega
    subst e
    exact .inl ⟨⟨xs, q, Nat.le_refl _⟩, hd ys τ H p⟩
theorem comp_tup {K : PySem.W.Frag} {a : Addr} {xs : List V} (Pv : Nat → List V → St → Hp → Prop) (h0 : Pv 0 [] τ H) (hl : ∀ i ys τ H, i ≤ xs.length → Pv i ys τ H → SqT K H a xs)
    (hs : ∀ i x ys τ H, xs[i]? = some x → Pv i ys τ H → g x τ H fun τ2 H2 => tc τ2 H2 fun b H3 => if b = true then te τ2 H3 fun y H4 => H4 D = some (.lst ys) ∧ ys.length < sizeLine ∧ Pv (i + 1) (ys ++ [y]) τ2 (upd H4 D (.lst (ys ++ [y]))) else Pv (i + 1) ys τ2 H3)
    (hd : ∀ ys τ H, Pv xs.length ys τ H → Q H) : RunC (Itt K a) g tc te D Q τ H := by
  refine ⟨fun i m ys τ H => m = xs.length - i ∧ i ≤ xs.length ∧ Pv i ys τ H, ⟨xs.length, by simp, Nat.zero_le _, h0⟩, ?_⟩
  rintro i m ys τ H ⟨rfl, hi, p⟩
  have q := hl i ys τ H hi p
  by_cases hlt : i < xs.length
  · refine .inr ⟨⟨xs, xs[i], q, by simp [hlt]⟩, Pv (i + 1), fun ys' τ' H' p' => ⟨xs.length - (i + 1), by omega, rfl, hlt, p'⟩, fun x H' y => ?_⟩
    obtain ⟨e, y⟩ := y
    subst e
    exact hs i x ys τ _ (y xs q) p
  · have e : i = xs.length := by omega
    subst e
    exact .inl ⟨⟨xs, q, Nat.le_refl _⟩, hd ys τ H p⟩
theorem comp_range {lo : Int} {n : Nat} (Pv : Nat → List V → St → Hp → Prop) (h0 : Pv 0 [] τ H)
    (hs : ∀ i ys τ H, i < n → Pv i ys τ H → g (.int (lo + i)) τ H fun τ2 H2 => tc τ2 H2 fun b H3 => if b = true then te τ2 H3 fun y H4 => H4 D = some (.lst ys) ∧ ys.length < sizeLine ∧ Pv (i + 1) (ys ++ [y]) τ2 (upd H4 D (.lst (ys ++ [y]))) else Pv (i + 1) ys τ2 H3)
    (hd : ∀ ys τ H, Pv n ys τ H → Q H) : RunC (Itr lo n) g tc te D Q τ H := by
  refine ⟨fun i m ys τ H => m = n - i ∧ i ≤ n ∧ Pv i ys τ H, ⟨n, by simp, Nat.zero_le _, h0⟩, ?_⟩
  rintro i m ys τ H ⟨rfl, hi, p⟩
  by_cases hlt : i < n
  · refine .inr ⟨hlt, Pv (i + 1), fun ys' τ' H' p' => ⟨n - (i + 1), by omega, rfl, hlt, p'⟩, fun x H' y => ?_⟩
    obtain ⟨e, y⟩ := y
    subst e y
    exact hs i ys τ _ hlt p
  · have e : i = n := by omega
    subst e
    exact .inl ⟨Nat.le_refl _, hd ys τ H p⟩
end
end L2

set_option Elab.async false
set_option linter.all false
set_option maxRecDepth 100000
set_option maxHeartbeats 4000000

namespace L2
open PySem PySem.Spec PyProof.Rows PySem.SeqAt

noncomputable def cK (ms : List (Int × Int)) : List (Key × V) := ms.map fun p => (Sum.inl p.1, V.int p.2)
noncomputable def lookI (ms : List (Int × Int)) (k : Int) : Option Int := (ms.find? fun p => decide (p.1 = k)).map (·.2)
inductive IEnts : List DictEntry → List (Int × Int) → Prop
  | nil : IEnts [] []
  | cons {e : DictEntry} {k v : Int} {es : List DictEntry} {ms : List (Int × Int)} {t t' : Tok} : e.key = .int k t → e.hash = hashInt k → e.val = .int v t' → IEnts es ms → IEnts (e :: es) ((k, v) :: ms)
theorem IEnts.length {es : List DictEntry} {ms : List (Int × Int)} (h : IEnts es ms) : es.length = ms.length := by
  induction h with
  | nil => rfl
  | cons _ _ _ _ ih => simp [ih]
theorem IEnts.get {es : List DictEntry} {ms : List (Int × Int)} (h : IEnts es ms) : ∀ {i : Nat} {e : DictEntry}, es[i]? = some e → ∃ k v t t', ms[i]? = some (k, v) ∧ e.key = .int k t ∧ e.hash = hashInt k ∧ e.val = .int v t' := by
  induction h with
  | nil => intro i e q; simp at q
  | @cons e0 k v es ms t t' h1 h2 h3 _ ih =>
    intro i e q
    cases i with
    | zero =>
      have : e0 = e := by simpa using q
      subst this
      exact ⟨k, v, t, t', by simp, h1, h2, h3⟩
    | succ i =>
      obtain ⟨k', v', t1, t2, q1, q2⟩ := ih (i := i) (e := e) (by simpa using q)
      exact ⟨k', v', t1, t2, by simpa using q1, q2⟩
theorem IEnts.find {es : List DictEntry} {ms : List (Int × Int)} (h : IEnts es ms) (k : Int) : es.findIdx? (fun e => Value.isInt k e.key) = ms.findIdx? fun p => decide (p.1 = k) := by
  induction h with
  | nil => rfl
  | @cons e0 k0 v es ms t t' h1 h2 h3 _ ih =>
    rw [List.findIdx?_cons, List.findIdx?_cons, h1, ih]
    have e : Value.isInt k (.int k0 t) = decide (k0 = k) := by
      by_cases q : k0 = k
      · subst q; simp [Value.isInt]
      · simp [Value.isInt, q]; try exact fun z => q z.symm
    rw [e]
structure IDict (h : Heap) (a : Addr) (ms : List (Int × Int)) : Prop where
  ex : ∃ o es ep, h.get? a = some o ∧ o.ExactDict ∧ o.data = .dict es ep ∧ IEnts es.toList ms
  sys : (a == sysModules) = false
  nd : (ms.map (·.1)).Nodup
theorem IDict.typeIs {s : Shared} {a : Addr} {ms : List (Int × Int)} (x : IDict s.heap a ms) : s.TypeIs (.ref a) "dict" := let ⟨o, _, _, ho, hc, _⟩ := x.ex; ⟨o, ho, hc.1⟩
theorem lookI_none {ms : List (Int × Int)} {k : Int} (h : ms.findIdx? (fun p => decide (p.1 = k)) = none) : lookI ms k = none := by
  unfold lookI
  rw [List.findIdx?_eq_none_iff] at h
  rw [List.find?_eq_none.mpr (fun p hp => by have := h p hp; simpa using this)]
  rfl
theorem lookI_some {ms : List (Int × Int)} {k : Int} {j : Nat} (h : ms.findIdx? (fun p => decide (p.1 = k)) = some j) : ∃ v, ms[j]? = some (k, v) ∧ lookI ms k = some v := by
  induction ms generalizing j with
  | nil => simp at h
  | cons p ms ih =>
    rw [List.findIdx?_cons] at h
    by_cases q : p.1 = k
    · rw [decide_eq_true q, if_pos rfl] at h
      cases h
      refine ⟨p.2, by simp [← q], ?_⟩
      unfold lookI
      rw [List.find?_cons_of_pos (by simpa using q)]
      rfl
    · rw [decide_eq_false q, if_neg (by decide)] at h
      cases h2 : ms.findIdx? (fun p => decide (p.1 = k)) with
      | none => rw [h2] at h; cases h
      | some j' =>
        rw [h2] at h
        have e : j = j' + 1 := by simpa using h.symm
        subst e
        obtain ⟨v, h3, h4⟩ := ih h2
        refine ⟨v, by simpa using h3, ?_⟩
        unfold lookI at h4 ⊢
        rw [List.find?_cons_of_neg (by simpa using q)]
        exact h4
theorem arrFind (fs : Array DictEntry) (p : DictEntry → Bool) : fs.findIdx? p = fs.toList.findIdx? p := by
  cases fs
  simp
theorem intEq {prog : Program} {w : World} {A : Around} {E : Value → Shared → Prop} {s : Shared} {x y : Int} {t u : Tok} {Q : Bool → Shared → Prop} (h : Q (decide (x = y)) s) : wpAny (model prog w) A (eqBool (.int x t) (.int y u)) Q E s :=
  (intKind prog w).eqBool (by show Value.isInt x (.int x t) = true; simp [Value.isInt]) (by show Value.isInt y (.int y u) = true; simp [Value.isInt]) h
theorem keysI {prog : Program} {w : World} {es : Array DictEntry} {ms : List (Int × Int)} (h : IEnts es.toList ms) : KeysOf (intKind prog w) es := by
  intro e he
  obtain ⟨i, hi, rfl⟩ := Array.mem_iff_getElem.mp he
  obtain ⟨k, v, t, t', _, h1, h2, _⟩ := h.get (i := i) (e := es[i]) (by simp [hi])
  exact ⟨k, by show Value.isInt k _ = true; rw [h1]; simp [Value.isInt], h2⟩
theorem samePairs_ok {prog : Program} {w : World} {A : Around} {E : Value → Shared → Prop} {s : Shared} {id : String} {a b : Addr} {ms ns : List (Int × Int)} {Q : Bool → Shared → Prop} (ha : IDict s.heap a ms) (hb : IDict s.heap b ns)
    (h : Q (ms.length == ns.length && ms.all fun p => decide (lookI ns p.1 = some p.2)) s) : wpAny (model prog w) A (Builtin.Dict.samePairs id a b) Q E s := by
  obtain ⟨oa, es, ep, hoa, _, hda, hea⟩ := ha.ex
  obtain ⟨ob, fs, ep', hob, _, hdb, heb⟩ := hb.ex
  have la : es.size = ms.length := by rw [← hea.length]; simp
  have lb : fs.size = ns.length := by rw [← heb.length]; simp
  unfold Builtin.Dict.samePairs
  have sh : ∀ {c : Addr} {Q : Unit → Shared → Prop}, (c == sysModules) = false → Q () s → wpAny (model prog w) A (Builtin.Dict.showsAll c) Q E s := fun {c Q} hc hq => by
    unfold Builtin.Dict.showsAll
    rw [if_neg (by rw [hc]; exact Bool.false_ne_true)]
    exact wpAny_pure hq
  refine wpAny_bind (sh ha.sys (wpAny_bind (sh hb.sys ?_)))
  refine wpAny_bind (wpAny_dictEntries hoa hda (wpAny_bind (wpAny_dictEntries hob hdb ?_)))
  by_cases hl : ms.length = ns.length
  · rw [if_neg (by simp [la, lb, hl])]
    have e0 : (ms.length == ns.length) = true := by simp [hl]
    rw [e0, Bool.true_and] at h
    refine wpAny_bind (wpAny_dictEpoch hoa hda ?_)
    rw [Std.Legacy.Range.forIn_eq_forIn_range']
    refine wpAny_bind (wpAny_mono (wpAny_forIn_list _ (fun rest r s' => s' = s ∧ r = (none, ()) ∧ ∃ i, rest = List.range' i (ms.length - i) 1 ∧ i ≤ ms.length ∧ ∀ p ∈ ms.take i, lookI ns p.1 = some p.2)
      (fun r s' => s' = s ∧ ((r = (none, ()) ∧ (ms.all fun p => decide (lookI ns p.1 = some p.2)) = true) ∨ (r = (some false, ()) ∧ (ms.all fun p => decide (lookI ns p.1 = some p.2)) = false))) ?_ ?_ _ _ ⟨rfl, rfl, 0, ?_, Nat.zero_le _, by simp⟩) (fun r s' hr => ?_) fun _ _ e => e)
    · rintro i rest r s' ⟨rfl, rfl, i1, hr, hi, hd⟩
      have hlt : i1 < ms.length := by
        refine Nat.lt_of_not_le fun z => ?_
        rw [show ms.length - i1 = 0 by omega] at hr
        cases hr
      rw [show ms.length - i1 = (ms.length - (i1 + 1)) + 1 by omega, List.range'_succ] at hr
      cases hr
      have hie : i < es.size := by omega
      obtain ⟨k, v, t, t', hm, h1, h2, h3⟩ := hea.get (i := i) (e := es[i]) (by simp [hie])
      have hmi : ms[i] = (k, v) := by
        rw [List.getElem?_eq_getElem hlt] at hm
        exact Option.some.inj hm
      refine wpAny_bind (wpAny_dictEntries hoa hda ?_)
      rw [Array.getElem?_eq_getElem hie]
      dsimp only
      refine wpAny_bind (wpAny_mono (Q := fun same s'' => s'' = s' ∧ same = decide (lookI ns k = some v)) (wpAny_holding ?_) (fun same s'' hs => ?_) fun _ _ e => e)
      · rw [h1, h2]
        refine wpAny_bind (wpAny_dictFind_of (knd := intKind prog w) (k := k) (show Value.isInt k (.int k t) = true from by simp [Value.isInt]) hob hdb (keysI heb) ?_)
        have ef : (fs.findIdx? fun e => (intKind prog w).is k e.key) = ns.findIdx? fun p => decide (p.1 = k) := by
          rw [← heb.find k]
          show fs.findIdx? (fun e => Value.isInt k e.key) = _
          exact arrFind _ _
        rw [ef]
        cases hf : ns.findIdx? (fun p => decide (p.1 = k)) with
        | none =>
          dsimp only
          refine wpAny_pure ⟨rfl, ?_⟩
          rw [lookI_none hf]
          rfl
        | some j =>
          obtain ⟨v', hj, hl2⟩ := lookI_some hf
          have hjn : j < ns.length := (List.getElem?_eq_some_iff.mp hj).1
          have hjf : j < fs.size := by omega
          obtain ⟨k2, v2, t2, t2', hm2, g1, g2, g3⟩ := heb.get (i := j) (e := fs[j]) (by simp [hjf])
          rw [hj] at hm2
          cases hm2
          dsimp only
          refine wpAny_bind (wpAny_dictEntries hob hdb ?_)
          rw [Array.getElem?_eq_getElem hjf]
          dsimp only
          refine wpAny_holding ?_
          rw [h3, g3]
          refine intEq ⟨rfl, ?_⟩
          rw [hl2]
          by_cases q : v = v'
          · subst q; simp
          · have q' : ¬ v' = v := fun z => q z.symm
            simp [q, q']
      · obtain ⟨rfl, hs⟩ := hs
        by_cases q : lookI ns k = some v
        · rw [decide_eq_true q] at hs
          subst hs
          rw [if_neg (by decide)]
          refine wpAny_bind (wpAny_dictEpoch hoa hda ?_)
          rw [if_neg (by simp)]
          refine wpAny_pure ⟨rfl, rfl, i + 1, rfl, hlt, fun p hp => ?_⟩
          rw [List.take_succ, List.getElem?_eq_getElem hlt, hmi] at hp
          rcases List.mem_append.mp hp with hp | hp
          · exact hd p hp
          · have : p = (k, v) := by simpa using hp
            subst this
            exact q
        · rw [decide_eq_false q] at hs
          subst hs
          rw [if_pos (by decide)]
          refine wpAny_pure ⟨rfl, .inr ⟨rfl, ?_⟩⟩
          rw [List.all_eq_false]
          exact ⟨(k, v), by rw [← hmi]; exact List.getElem_mem hlt, by simpa using q⟩
    · rintro r s' ⟨rfl, rfl, i, hr, hi, hd⟩
      have e1 : i = ms.length := by
        refine Nat.le_antisymm hi (Nat.le_of_not_lt fun z => ?_)
        rw [show ms.length - i = (ms.length - (i + 1)) + 1 by omega, List.range'_succ] at hr
        cases hr
      subst e1
      rw [List.take_length] at hd
      exact ⟨rfl, .inl ⟨rfl, List.all_eq_true.mpr fun p hp => decide_eq_true (hd p hp)⟩⟩
    · simp [Std.Legacy.Range.size, la]
    · obtain ⟨rfl, ⟨rfl, e2⟩ | ⟨rfl, e2⟩⟩ := hr
      · rw [e2] at h
        exact wpAny_pure h
      · rw [e2] at h
        exact wpAny_pure h
  · rw [if_pos (by simp [la, lb]; exact hl)]
    have e0 : (ms.length == ns.length) = false := by simp [hl]
    rw [e0, Bool.false_and] at h
    exact wpAny_bind (wpAny_rule (wpAny_pure h))
end L2

set_option Elab.async false
set_option linter.all false
set_option maxRecDepth 100000
set_option maxHeartbeats 4000000

namespace L2
open PySem PySem.Spec PyProof.Rows
section
variable {prog : Program} {w : World} {A : Around} {E : Value → Shared → Prop}
variable {KT : Type} [DecidableEq KT] {knd : KeyKind prog w KT}

end

end L2
namespace L2
open PySem PySem.Spec PyProof.Rows PySem.SeqAt
theorem meets_dict_eqI (a b : Addr) (ms ns : List (Int × Int)) : Meets (Builtin.«dict.__eq__» ⟨[.ref a, .ref b], []⟩) (fun A R s => IDict s.heap a ms ∧ IDict s.heap b ns ∧ R (.ok (.ret (.bool (ms.length == ns.length && ms.all fun p => decide (lookI ns p.1 = some p.2))))) s) :=
  Meets.of_wp fun prog w A R s hs => by
    obtain ⟨ha, hb, h⟩ := hs
    show wpAny (model prog w) A.in1 (do
      let (self, other) ← Builtin.Dict.dictSlotArgs "__eq__" ⟨[.ref a, .ref b], []⟩
      if !(← isInstance other (.type "dict")) then rule s!"dict.{"__eq__"}.not-a-dict"; return ← ret .notImplemented
      ret (.bool ((← Builtin.Dict.samePairs s!"dict.{"__eq__"}" (← Builtin.Dict.addrOf self) (← Builtin.Dict.addrOf other)) == true))) _ _ s
    unfold Builtin.Dict.dictSlotArgs
    refine wpAny_bind (wpAny_bind (wpAny_notOrdered_dict ha.typeIs ?_))
    refine wpAny_bind (wpAny_pure ?_)
    refine wpAny_pure ?_
    refine wpAny_bind (wpAny_isInstance (T := "dict") (b := true) hb.typeIs isSubtype_dict_dict ?_)
    rw [if_neg (by decide)]
    refine wpAny_bind (wpAny_pure (wpAny_bind (wpAny_pure (wpAny_bind (samePairs_ok ha hb ?_)))))
    have e : ∀ b : Bool, (b == true) = b := by decide
    rw [e]
    exact wpAny_pure ⟨_, rfl, h⟩
theorem RcAt.dicts {A : Around} {s : Shared} {a b : Addr} {ms ns : List (Int × Int)} (ha : IDict s.heap a ms) (hb : IDict s.heap b ns) (hu : A.units < cLine) :
    RcAt A s (.ref a) (.ref b) (ms.length == ns.length && ms.all fun p => decide (lookI ns p.1 = some p.2)) := fun prog w E Q h =>
  richCompare_meets_room (op := .Eq) ha.typeIs hb.typeIs PySem.F.slot_dict_eq PySem.F.entry_dict_eq (PySem.F.args_dict_eq_2 _ _) (meets_dict_eqI a b ms ns)
    ⟨ha, hb, show Value.bool (ms.length == ns.length && ms.all fun p => decide (lookI ns p.1 = some p.2)) ≠ Value.notImplemented ∧ _ from ⟨(fun x => nomatch x), h⟩⟩ hu
end L2

set_option Elab.async false
set_option linter.all false
set_option maxRecDepth 100000
set_option maxHeartbeats 4000000

namespace L2
open PySem PySem.Spec PyProof.Rows PySem.SeqAt

inductive D where
  | non | bl (b : Bool) | int (i : Int) | str (x : Str) | tup (ds : List D) | lst (ds : List D)

mutual
noncomputable def Rep (K : PySem.W.Frag) (H : Hp) : V → D → Prop
  | v, .non => v = .non
  | v, .bl b => v = .bl b
  | v, .int i => v = .int i
  | v, .str x => v = .str x
  | v, .tup ds => ∃ a vs, v = .ref a ∧ SqT K H a vs ∧ Reps K H vs ds
  | v, .lst ds => ∃ a vs, v = .ref a ∧ SqL K H a vs ∧ Reps K H vs ds
noncomputable def Reps (K : PySem.W.Frag) (H : Hp) : List V → List D → Prop
  | vs, [] => vs = []
  | vs, d :: ds => ∃ v r, vs = v :: r ∧ Rep K H v d ∧ Reps K H r ds
end
mutual
noncomputable def imm : D → Bool
  | .lst _ => false
  | .tup ds => imms ds
  | _ => true
noncomputable def imms : List D → Bool
  | [] => true
  | d :: ds => imm d && imms ds
end
mutual
noncomputable def dep : D → Nat
  | .lst ds => deps ds + 1
  | .tup ds => deps ds + 1
  | _ => 0
noncomputable def deps : List D → Nat
  | [] => 0
  | d :: ds => max (dep d) (deps ds)
end
mutual
noncomputable def eqD : D → D → Bool
  | .non, .non => true
  | .bl a, .bl b => a == b
  | .bl a, .int b => (if a then 1 else 0) == b
  | .int a, .bl b => a == (if b then 1 else 0)
  | .int a, .int b => a == b
  | .str a, .str b => a == b
  | .tup a, .tup b => eqDs a b
  | .lst a, .lst b => eqDs a b
  | _, _ => false
noncomputable def eqDs : List D → List D → Bool
  | [], [] => true
  | a :: r, b :: q => eqD a b && eqDs r q
  | _, _ => false
end
mutual
theorem eqD_refl (d : D) : eqD d d = true := by
  cases d with
  | non => rfl
  | bl b => simp [eqD]
  | int b => simp [eqD]
  | str b => simp [eqD]
  | tup ds => simp only [eqD]; exact eqDs_refl ds
  | lst ds => simp only [eqD]; exact eqDs_refl ds
theorem eqDs_refl (ds : List D) : eqDs ds ds = true := by
  cases ds with
  | nil => rfl
  | cons d r => simp only [eqDs, Bool.and_eq_true]; exact ⟨eqD_refl d, eqDs_refl r⟩
end
theorem eqDs_len : ∀ {a b : List D}, eqDs a b = true → a.length = b.length
  | [], [], _ => rfl
  | [], _ :: _, h => by simp [eqDs] at h
  | _ :: _, [], h => by simp [eqDs] at h
  | x :: a, y :: b, h => by
    simp only [eqDs, Bool.and_eq_true] at h
    rw [List.length_cons, List.length_cons, eqDs_len h.2]
theorem eqDs_all : ∀ (a b : List D), a.length = b.length → eqDs a b = (List.range a.length).all fun j => match a[j]?, b[j]? with | some x, some y => eqD x y | _, _ => true
  | [], [], _ => by simp [eqDs]
  | [], _ :: _, h => by simp at h
  | _ :: _, [], h => by simp at h
  | x :: a, y :: b, h => by
    have h' : a.length = b.length := by simpa using h
    rw [List.length_cons, List.range_succ_eq_map, List.all_cons, List.all_map]
    simp only [eqDs, eqDs_all a b h']
    congr 1


structure TSame (H H' : Hp) : Prop where
  tup : ∀ b xs, H b = some (.tup xs) → H' b = some (.tup xs)
  frz : ∀ b o u, H b = some (.frz o u) → H' b = some (.frz o u)
section
variable {K : PySem.W.Frag} {H H' H1 H2 : Hp} {a l p : Addr} {xs : List V} {o : HO}
theorem Same.t (x : Same H H') : TSame H H' := ⟨fun b xs h => x b _ h, fun b o u h => x b _ h⟩
theorem TSame.lst (h : H l = some (.lst xs)) : TSame H (upd H l o) := ⟨fun b ys e => by rw [upd_ne (ne_of e h (by intro z; cases z))]; exact e, fun b ob u e => by rw [upd_ne (ne_of e h (by intro z; cases z))]; exact e⟩
theorem Same.new (h : H l = none) : Same H (upd H l o) := fun b u e => by rw [upd_ne (ne_of_none e h)]; exact e

theorem Same.turn (x : Same H H1) (h : H l = none) : Same H (upd H1 l o) := fun b u e => by rw [upd_ne (ne_of_none e h)]; exact x b u e
theorem SqT.t (x : TSame H H') (h : SqT K H a xs) : SqT K H' a xs := by
  rcases h with (h | ⟨o, h⟩) | h
  · exact .inl (.inl (x.tup _ _ h))
  · exact .inl (.inr ⟨o, x.frz _ _ _ h⟩)
  · exact .inr h
theorem Same.seqT (x : Same H H') (h : SqT K H a xs) : SqT K H' a xs := h.t x.t
mutual
theorem Rep.t (x : TSame H H') {v : V} {d : D} (hi : imm d = true) (h : Rep K H v d) : Rep K H' v d := by
  cases d with
  | non => exact h
  | bl b => exact h
  | int i => exact h
  | str x => exact h
  | tup ds =>
    obtain ⟨a, vs, e, q, r⟩ := h
    exact ⟨a, vs, e, q.t x, Reps.t x (by simpa [imm] using hi) r⟩
  | lst ds => simp [imm] at hi
theorem Reps.t (x : TSame H H') {vs : List V} {ds : List D} (hi : imms ds = true) (h : Reps K H vs ds) : Reps K H' vs ds := by
  cases ds with
  | nil => exact h
  | cons d r =>
    obtain ⟨v, q, e, h1, h2⟩ := h
    simp only [imms, Bool.and_eq_true] at hi
    exact ⟨v, q, e, Rep.t x hi.1 h1, Reps.t x hi.2 h2⟩
end
mutual
theorem Rep.same (x : Same H H') {v : V} {d : D} (h : Rep K H v d) : Rep K H' v d := by
  cases d with
  | non => exact h
  | bl b => exact h
  | int i => exact h
  | str x => exact h
  | tup ds =>
    obtain ⟨a, vs, e, q, r⟩ := h
    exact ⟨a, vs, e, x.seqT q, Reps.same x r⟩
  | lst ds =>
    obtain ⟨a, vs, e, q, r⟩ := h
    exact ⟨a, vs, e, x.seq q, Reps.same x r⟩
theorem Reps.same (x : Same H H') {vs : List V} {ds : List D} (h : Reps K H vs ds) : Reps K H' vs ds := by
  cases ds with
  | nil => exact h
  | cons d r =>
    obtain ⟨v, q, e, h1, h2⟩ := h
    exact ⟨v, q, e, Rep.same x h1, Reps.same x h2⟩
end
theorem Reps.length : ∀ {vs : List V} {ds : List D}, Reps K H vs ds → vs.length = ds.length
  | vs, [], h => by cases (show vs = [] from h); rfl
  | vs, d :: ds, h => by
    obtain ⟨v, r, rfl, _, h2⟩ := h
    rw [List.length_cons, List.length_cons, Reps.length h2]
theorem Reps.get : ∀ {vs : List V} {ds : List D} {i : Nat} {d : D}, Reps K H vs ds → ds[i]? = some d → ∃ v, vs[i]? = some v ∧ Rep K H v d
  | vs, [], i, d, h, e => by simp at e
  | vs, d0 :: ds, 0, d, h, e => by
    obtain ⟨v, r, rfl, h1, _⟩ := h
    simp only [List.getElem?_cons_zero, Option.some.injEq] at e
    subst e
    exact ⟨v, by simp, h1⟩
  | vs, d0 :: ds, i + 1, d, h, e => by
    obtain ⟨v, r, rfl, _, h2⟩ := h
    obtain ⟨u, e1, e2⟩ := Reps.get (i := i) h2 (by simpa using e)
    exact ⟨u, by simpa using e1, e2⟩
theorem Reps.getV : ∀ {vs : List V} {ds : List D} {i : Nat} {v : V}, Reps K H vs ds → vs[i]? = some v → ∃ d, ds[i]? = some d ∧ Rep K H v d := fun {vs ds i v} h e => by
  have hl := h.length
  have hi : i < vs.length := (List.getElem?_eq_some_iff.mp e).1
  obtain ⟨d, hd⟩ : ∃ d, ds[i]? = some d := ⟨ds[i]'(by omega), by simp <;> omega⟩
  obtain ⟨u, e1, e2⟩ := h.get hd
  rw [e] at e1
  cases e1
  exact ⟨d, hd, e2⟩
theorem Reps.append : ∀ {vs ws : List V} {ds es : List D}, Reps K H vs ds → Reps K H ws es → Reps K H (vs ++ ws) (ds ++ es)
  | vs, ws, [], es, h, h' => by cases (show vs = [] from h); exact h'
  | vs, ws, d :: ds, es, h, h' => by
    obtain ⟨v, r, rfl, h1, h2⟩ := h
    exact ⟨v, r ++ ws, rfl, h1, Reps.append h2 h'⟩
theorem Reps.one {v : V} {d : D} (h : Rep K H v d) : Reps K H [v] [d] := ⟨v, [], rfl, h, rfl⟩
theorem Reps.snoc {vs : List V} {ds : List D} {v : V} {d : D} (h : Reps K H vs ds) (h' : Rep K H v d) : Reps K H (vs ++ [v]) (ds ++ [d]) := h.append (.one h')
noncomputable def nums (ns : List Int) : List D := ns.map D.int
noncomputable abbrev tI (ns : List Int) : D := .tup (nums ns)
theorem imms_nums : ∀ ns : List Int, imms (nums ns) = true
  | [] => rfl
  | n :: ns => by show (imm (.int n) && imms (nums ns)) = true; rw [imms_nums ns]; rfl
theorem imm_tI (ns : List Int) : imm (tI ns) = true := imms_nums ns
theorem imms_tIs : ∀ xs : List (List Int), imms (xs.map tI) = true
  | [] => rfl
  | x :: xs => by show (imm (tI x) && imms (xs.map tI)) = true; rw [imms_tIs xs, imm_tI]; rfl
theorem eqDs_nums : ∀ a b : List Int, eqDs (nums a) (nums b) = decide (a = b)
  | [], [] => by simp [nums, eqDs]
  | [], _ :: _ => by simp [nums, eqDs]
  | _ :: _, [] => by simp [nums, eqDs]
  | x :: a, y :: b => by
    show (eqD (.int x) (.int y) && eqDs (nums a) (nums b)) = _
    rw [eqDs_nums a b]
    simp only [eqD]
    by_cases e : x = y
    · subst e; by_cases e2 : a = b <;> simp [e2]
    · simp [e]
theorem eqD_tI (a b : List Int) : eqD (tI a) (tI b) = decide (a = b) := by simp only [eqD]; exact eqDs_nums a b
theorem reps_nums : ∀ {vs : List V} {ns : List Int}, Reps K H vs (nums ns) ↔ vs = ns.map V.int
  | vs, [] => Iff.rfl
  | vs, n :: ns => by
    constructor
    · rintro ⟨v, r, rfl, h1, h2⟩
      have h1' : v = .int n := h1
      rw [h1', reps_nums.mp h2]; rfl
    · rintro rfl
      exact ⟨.int n, ns.map V.int, rfl, rfl, reps_nums.mpr rfl⟩
end


section
variable {X : Cx} {pins : List (Addr × Obj)} {σ : St} {H : Hp} {s : Shared}
theorem notBoth (I : Inv X pins σ H s) {a : Addr} {xs ys : List V} (h : SqT X.K H a xs) (h' : SqL X.K H a ys) : False := by
  obtain ⟨its, r, ⟨o, e, c, n, d⟩, _⟩ := I.tuple h
  obtain ⟨its', r', ⟨o', n', e', c', _, d'⟩, _⟩ := I.list h'
  rw [e] at e'; cases e'
  rw [c] at c'
  have z : ("tuple" : String) = "list" := by injection c'
  exact absurd z (by decide)
mutual
theorem Rep.inj (I : Inv X pins σ H s) {v : V} {d e : D} (h : Rep X.K H v d) (h' : Rep X.K H v e) : d = e := by
  cases d with
  | non => cases (show v = .non from h); cases e <;> first | rfl | (exfalso; first | (cases (show V.non = _ from h')) | (obtain ⟨_, _, z, _⟩ := h'; cases z))
  | bl b => cases (show v = .bl b from h); cases e <;> first | (cases (show V.bl b = _ from h'); rfl) | (exfalso; first | (cases (show V.bl b = _ from h')) | (obtain ⟨_, _, z, _⟩ := h'; cases z))
  | int b => cases (show v = .int b from h); cases e <;> first | (cases (show V.int b = _ from h'); rfl) | (exfalso; first | (cases (show V.int b = _ from h')) | (obtain ⟨_, _, z, _⟩ := h'; cases z))
  | str b => cases (show v = .str b from h); cases e <;> first | (cases (show V.str b = _ from h'); rfl) | (exfalso; first | (cases (show V.str b = _ from h')) | (obtain ⟨_, _, z, _⟩ := h'; cases z))
  | tup ds =>
    obtain ⟨a, vs, rfl, q, r⟩ := h
    cases e with
    | tup es =>
      obtain ⟨b, ws, z, q', r'⟩ := h'
      cases z
      have e1 := I.tuple_inj q q'
      subst e1
      rw [Reps.inj I r r']
    | lst es =>
      obtain ⟨b, ws, z, q', r'⟩ := h'
      cases z
      exact (notBoth I q q').elim
    | non => cases (show V.ref a = _ from h')
    | bl _ => cases (show V.ref a = _ from h')
    | int _ => cases (show V.ref a = _ from h')
    | str _ => cases (show V.ref a = _ from h')
  | lst ds =>
    obtain ⟨a, vs, rfl, q, r⟩ := h
    cases e with
    | lst es =>
      obtain ⟨b, ws, z, q', r'⟩ := h'
      cases z
      have e1 := I.list_inj q q'
      subst e1
      rw [Reps.inj I r r']
    | tup es =>
      obtain ⟨b, ws, z, q', r'⟩ := h'
      cases z
      exact (notBoth I q' q).elim
    | non => cases (show V.ref a = _ from h')
    | bl _ => cases (show V.ref a = _ from h')
    | int _ => cases (show V.ref a = _ from h')
    | str _ => cases (show V.ref a = _ from h')
theorem Reps.inj (I : Inv X pins σ H s) {vs : List V} {ds es : List D} (h : Reps X.K H vs ds) (h' : Reps X.K H vs es) : ds = es := by
  cases ds with
  | nil =>
    cases (show vs = [] from h)
    cases es with
    | nil => rfl
    | cons e es => obtain ⟨_, _, z, _⟩ := h'; cases z
  | cons d ds =>
    obtain ⟨v, r, rfl, h1, h2⟩ := h
    cases es with
    | nil => cases (show v :: r = [] from h')
    | cons e es =>
      obtain ⟨v', r', z, h1', h2'⟩ := h'
      cases z
      rw [Rep.inj I h1 h1', Reps.inj I h2 h2']
end


noncomputable def EqD (X : Cx) (H : Hp) (s : Shared) (d : D) : Prop := ∀ (A : Around) (x y : V) (u v : Value) (e : D), A.units + dep d < cLine → Rep X.K H x d → Rep X.K H y e → RelV x u → RelV y v → RcAt A s u v (eqD d e) ∧ EqAt A s u v (eqD d e)
theorem seq_eq (I : Inv X pins σ H s) {ds es : List D} {vs ws : List V} {us us' : List Value} {A : Around} (hu : A.units + deps ds < cLine) (r : Reps X.K H vs ds) (r' : Reps X.K H ws es) (rv : Vals vs us) (rv' : Vals ws us')
    (ih : ∀ d ∈ ds, EqD X H s d) (hdm : ∀ d ∈ ds, dep d ≤ deps ds) : ∀ j (h1 : j < us.toArray.size) (h2 : j < us'.toArray.size), EqAt A s us.toArray[j] us'.toArray[j] (match ds[j]?, es[j]? with | some x, some y => eqD x y | _, _ => true) := by
  intro j h1 h2
  have l1 := r.length
  have l2 := r'.length
  have l3 := rv.length
  have l4 := rv'.length
  have h1' : j < us.length := by simpa using h1
  have h2' : j < us'.length := by simpa using h2
  have e1 : ds[j]? = some (ds[j]'(by omega)) := by simp <;> omega
  have e2 : es[j]? = some (es[j]'(by omega)) := by simp <;> omega
  obtain ⟨v, ev, rd⟩ := r.get e1
  obtain ⟨w, ew, re⟩ := r'.get e2
  obtain ⟨u, eu, ru⟩ := rv.get ev
  obtain ⟨u', eu', ru'⟩ := rv'.get ew
  have f1 : us.toArray[j] = u := by
    have : us[j]? = some us[j] := by simp
    rw [eu] at this
    have := (Option.some.inj this).symm
    simpa using this
  have f2 : us'.toArray[j] = u' := by
    have : us'[j]? = some us'[j] := by simp
    rw [eu'] at this
    have := (Option.some.inj this).symm
    simpa using this
  rw [f1, f2, e1, e2]
  have hm : ds[j]'(by omega) ∈ ds := List.getElem_mem _
  exact (ih _ hm A v w u u' _ (by have := hdm _ hm; omega) rd re ru ru').2
theorem deps_le : ∀ {ds : List D} {d : D}, d ∈ ds → dep d ≤ deps ds
  | d0 :: ds, d, h => by
    simp only [deps]
    rcases List.mem_cons.mp h with rfl | h
    · omega
    · have := deps_le h; omega
theorem range_min {a b : List D} (h : ¬ a.length = b.length) : eqDs a b = false := by
  cases q : eqDs a b with
  | false => rfl
  | true => exact absurd (eqDs_len q) h
mutual
theorem eqD_ok (I : Inv X pins σ H s) (d : D) : EqD X H s d := by
  intro A x y u v e hu hx hy rx ry
  cases d with
  | non =>
    cases (show x = .non from hx)
    cases (show u = Value.none from rx)
    cases e with
    | non => cases (show y = .non from hy); cases (show v = Value.none from ry); exact ⟨.none_none, .same _⟩
    | bl b => cases (show y = .bl b from hy); cases (show v = Value.bool b from ry); exact ⟨.none_bool b, .none_bool b⟩
    | int i => cases (show y = .int i from hy); obtain ⟨t, rfl⟩ := ry; exact ⟨.none_int i t, .none_int i t⟩
    | str z => cases (show y = .str z from hy); obtain ⟨t, rfl⟩ := ry; exact ⟨.none_str z t, .none_str z t⟩
    | tup es => obtain ⟨a, vs, rfl, q, r⟩ := hy; cases ry; obtain ⟨its, _, p, _⟩ := I.tuple q; exact ⟨.none_tuple p (by omega), .none_tuple p (by omega)⟩
    | lst es => obtain ⟨a, vs, rfl, q, r⟩ := hy; cases ry; obtain ⟨its, _, p, _⟩ := I.list q; exact ⟨.none_list p.isList (by omega), .none_list p.isList (by omega)⟩
  | bl c =>
    cases (show x = .bl c from hx)
    cases (show u = Value.bool c from rx)
    cases e with
    | non => cases (show y = .non from hy); cases (show v = Value.none from ry); exact ⟨.bool_none c, .bool_none c⟩
    | bl b => cases (show y = .bl b from hy); cases (show v = Value.bool b from ry); exact ⟨.bool_bool c b, .bool_bool c b⟩
    | int i => cases (show y = .int i from hy); obtain ⟨t, rfl⟩ := ry; exact ⟨.bool_int c i t, .bool_int c i t⟩
    | str z => cases (show y = .str z from hy); obtain ⟨t, rfl⟩ := ry; exact ⟨.bool_str c z t, .bool_str c z t⟩
    | tup es => obtain ⟨a, vs, rfl, q, r⟩ := hy; cases ry; obtain ⟨its, _, p, _⟩ := I.tuple q; exact ⟨.bool_tuple c p (by omega), .bool_tuple c p (by omega)⟩
    | lst es => obtain ⟨a, vs, rfl, q, r⟩ := hy; cases ry; obtain ⟨its, _, p, _⟩ := I.list q; exact ⟨.bool_list c p.isList (by omega), .bool_list c p.isList (by omega)⟩
  | int c =>
    cases (show x = .int c from hx)
    obtain ⟨t, rfl⟩ := rx
    cases e with
    | non => cases (show y = .non from hy); cases (show v = Value.none from ry); exact ⟨.int_none c t, .int_none c t⟩
    | bl b => cases (show y = .bl b from hy); cases (show v = Value.bool b from ry); exact ⟨.int_bool c t b, .int_bool c t b⟩
    | int i => cases (show y = .int i from hy); obtain ⟨t', rfl⟩ := ry; exact ⟨.int_int c t i t', .int_int c t i t'⟩
    | str z => cases (show y = .str z from hy); obtain ⟨t', rfl⟩ := ry; exact ⟨.int_str c t z t', .int_str c t z t'⟩
    | tup es => obtain ⟨a, vs, rfl, q, r⟩ := hy; cases ry; obtain ⟨its, _, p, _⟩ := I.tuple q; exact ⟨.int_tuple c t p (by omega), .int_tuple c t p (by omega)⟩
    | lst es => obtain ⟨a, vs, rfl, q, r⟩ := hy; cases ry; obtain ⟨its, _, p, _⟩ := I.list q; exact ⟨.int_list c t p.isList (by omega), .int_list c t p.isList (by omega)⟩
  | str c =>
    cases (show x = .str c from hx)
    obtain ⟨t, rfl⟩ := rx
    cases e with
    | non => cases (show y = .non from hy); cases (show v = Value.none from ry); exact ⟨.str_none c t, .str_none c t⟩
    | bl b => cases (show y = .bl b from hy); cases (show v = Value.bool b from ry); exact ⟨.str_bool c t b, .str_bool c t b⟩
    | int i => cases (show y = .int i from hy); obtain ⟨t', rfl⟩ := ry; exact ⟨.str_int c t i t', .str_int c t i t'⟩
    | str z => cases (show y = .str z from hy); obtain ⟨t', rfl⟩ := ry; exact ⟨.str_str c t z t', .str_str c t z t'⟩
    | tup es => obtain ⟨a, vs, rfl, q, r⟩ := hy; cases ry; obtain ⟨its, _, p, _⟩ := I.tuple q; exact ⟨.str_tuple c t p (by omega), .str_tuple c t p (by omega)⟩
    | lst es => obtain ⟨a, vs, rfl, q, r⟩ := hy; cases ry; obtain ⟨its, _, p, _⟩ := I.list q; exact ⟨.str_list c t p.isList (by omega), .str_list c t p.isList (by omega)⟩
  | tup ds =>
    have hx' := hx
    obtain ⟨a, vs, rfl, q, r⟩ := hx
    cases rx
    obtain ⟨its, rv, p, _⟩ := I.tuple q
    have hu' : A.units + 1 + deps ds < cLine := by simp only [dep] at hu; omega
    cases e with
    | non => cases (show y = .non from hy); cases (show v = Value.none from ry); exact ⟨.tuple_none p (by omega), .tuple_none p (by omega)⟩
    | bl b => cases (show y = .bl b from hy); cases (show v = Value.bool b from ry); exact ⟨.tuple_bool b p (by omega), .tuple_bool b p (by omega)⟩
    | int i => cases (show y = .int i from hy); obtain ⟨t', rfl⟩ := ry; exact ⟨.tuple_int i t' p (by omega), .tuple_int i t' p (by omega)⟩
    | str z => cases (show y = .str z from hy); obtain ⟨t', rfl⟩ := ry; exact ⟨.tuple_str z t' p (by omega), .tuple_str z t' p (by omega)⟩
    | lst es => obtain ⟨b, ws, rfl, q', r'⟩ := hy; cases ry; obtain ⟨its', _, p', _⟩ := I.list q'; exact ⟨.tuple_list p p'.isList (by omega), .tuple_list p p'.isList (by omega)⟩
    | tup es =>
      have hy' := hy
      obtain ⟨b, ws, rfl, q', r'⟩ := hy
      cases ry
      obtain ⟨its', rv', p', _⟩ := I.tuple q'
      have main : RcAt A s (.ref a) (.ref b) (eqD (.tup ds) (.tup es)) := by
        have := RcAt.tuples (A := A) p p' (by omega) (seq_eq I (A := A.in1) (by show A.units + 1 + deps ds < cLine; omega) r r' rv rv' (eqDs_ok I ds) fun d h => deps_le h)
        have l1 := r.length
        have l2 := r'.length
        have l3 := rv.length
        have l4 := rv'.length
        have e1 : its.toArray.size = ds.length := by simp <;> omega
        have e2 : its'.toArray.size = es.length := by simp <;> omega
        rw [e1, e2] at this
        simp only [eqD]
        by_cases hl : ds.length = es.length
        · rw [eqDs_all ds es hl]
          rw [← hl, Nat.min_self] at this
          simpa using this
        · rw [range_min hl]
          have z : (ds.length == es.length) = false := by simpa using hl
          rw [z, Bool.and_false] at this
          exact this
      refine ⟨main, ?_⟩
      by_cases hab : a = b
      · subst hab
        have e3 : D.tup ds = D.tup es := Rep.inj I hx' hy'
        rw [e3, eqD_refl]
        exact .same _
      · exact .of_refs hab main
  | lst ds =>
    have hx' := hx
    obtain ⟨a, vs, rfl, q, r⟩ := hx
    cases rx
    obtain ⟨its, rv, p, _⟩ := I.list q
    have hu' : A.units + 1 + deps ds < cLine := by simp only [dep] at hu; omega
    cases e with
    | non => cases (show y = .non from hy); cases (show v = Value.none from ry); exact ⟨.list_none p.isList (by omega), .list_none p.isList (by omega)⟩
    | bl b => cases (show y = .bl b from hy); cases (show v = Value.bool b from ry); exact ⟨.list_bool b p.isList (by omega), .list_bool b p.isList (by omega)⟩
    | int i => cases (show y = .int i from hy); obtain ⟨t', rfl⟩ := ry; exact ⟨.list_int i t' p.isList (by omega), .list_int i t' p.isList (by omega)⟩
    | str z => cases (show y = .str z from hy); obtain ⟨t', rfl⟩ := ry; exact ⟨.list_str z t' p.isList (by omega), .list_str z t' p.isList (by omega)⟩
    | tup es => obtain ⟨b, ws, rfl, q', r'⟩ := hy; cases ry; obtain ⟨its', _, p', _⟩ := I.tuple q'; exact ⟨.list_tuple p.isList p' (by omega), .list_tuple p.isList p' (by omega)⟩
    | lst es =>
      have hy' := hy
      obtain ⟨b, ws, rfl, q', r'⟩ := hy
      cases ry
      obtain ⟨its', rv', p', _⟩ := I.list q'
      have main : RcAt A s (.ref a) (.ref b) (eqD (.lst ds) (.lst es)) := by
        have l1 := r.length
        have l2 := r'.length
        have l3 := rv.length
        have l4 := rv'.length
        have e1 : its.toArray.size = ds.length := by simp <;> omega
        have e2 : its'.toArray.size = es.length := by simp <;> omega
        simp only [eqD]
        by_cases hl : ds.length = es.length
        · have := RcAt.lists (A := A) p.isList p'.isList (by omega) (by omega) (seq_eq I (A := A.in1) (by show A.units + 1 + deps ds < cLine; omega) r r' rv rv' (eqDs_ok I ds) fun d h => deps_le h)
          rw [e1] at this
          rw [eqDs_all ds es hl]
          exact this
        · rw [range_min hl]
          exact RcAt.lists_lengths p.isList p'.isList (by simpa [e1, e2] using hl) (by omega)
      refine ⟨main, ?_⟩
      by_cases hab : a = b
      · subst hab
        have e3 : D.lst ds = D.lst es := Rep.inj I hx' hy'
        rw [e3, eqD_refl]
        exact .same _
      · exact .of_refs hab main
theorem eqDs_ok (I : Inv X pins σ H s) (ds : List D) : ∀ d ∈ ds, EqD X H s d := by
  cases ds with
  | nil => exact fun _ h => nomatch h
  | cons d0 r =>
    intro d h
    rcases List.mem_cons.mp h with e | h
    · exact e ▸ eqD_ok I d0
    · exact eqDs_ok I r d h
end

noncomputable def rEqD (K : PySem.W.Frag) (n : Nat) : R2 := fun x y H Q => ∃ d e, Rep K H x d ∧ Rep K H y e ∧ dep d ≤ n ∧ Q (.bl (eqD d e)) H
theorem op_eqD {n : Nat} (hu : X.A.units + n < cLine) : OpR X (compareOp .Eq) (rEqD X.K n) := by
  intro pins s σ H x y v u Q I rx ry h
  obtain ⟨d, e, hd, he, hn, q⟩ := h
  exact (eqD_ok I d X.A x y v u e (by omega) hd he rx ry).1 X.prog X.w X.xe _ ⟨.bl (eqD d e), H, I, rfl, q⟩
end
end L2

set_option Elab.async false
set_option linter.all false
set_option maxRecDepth 100000
set_option maxHeartbeats 4000000
namespace L2
open PySem PySem.Spec PyProof.Rows PySem.SeqAt

section
variable {X : Cx}



noncomputable def eqF (X : Cx) (H : Hp) (d : D) (u : Value) : Bool := @decide (∃ v e, RelV v u ∧ Rep X.K H v e ∧ eqD e d = true) (Classical.propDecidable _)
theorem eqF_of {pins : List (Addr × Obj)} {σ : St} {H : Hp} {s : Shared} (I : Inv X pins σ H s) {d e : D} {v : V} {u : Value} (r : RelV v u) (h : Rep X.K H v e) : eqF X H d u = eqD e d := by
  cases q : eqD e d with
  | true => exact @decide_eq_true _ (Classical.propDecidable _) ⟨v, e, r, h, q⟩
  | false =>
    refine @decide_eq_false _ (Classical.propDecidable _) ?_
    rintro ⟨v', e', r', h', q'⟩
    have := r.inj r'
    subst this
    rw [Rep.inj I h h'] at q
    rw [q] at q'
    cases q'
theorem eqF_at {pins : List (Addr × Obj)} {σ : St} {H : Hp} {s : Shared} (I : Inv X pins σ H s) {A : Around} {x : V} {v : Value} {d : D} {vs : List V} {us : List Value} {ds : List D} (hu : A.units + deps ds < cLine) (hx : Rep X.K H x d) (rx : RelV x v)
    (r : Reps X.K H vs ds) (rv : Vals vs us) : ∀ y, y ∈ us.toArray → EqAt A s y v (eqF X H d y) := by
  intro y hy
  have hy' : y ∈ us := by simpa using hy
  obtain ⟨i, hi⟩ := List.getElem?_of_mem hy'
  have hlt : i < us.length := (List.getElem?_eq_some_iff.mp hi).1
  have l1 := rv.length
  obtain ⟨w, hw⟩ : ∃ w, vs[i]? = some w := ⟨vs[i]'(by omega), by simp <;> omega⟩
  obtain ⟨u, hu2, ru⟩ := rv.get hw
  rw [hi] at hu2
  cases hu2
  obtain ⟨e, he, re⟩ := r.getV hw
  rw [eqF_of I ru re]
  have hm : e ∈ ds := List.mem_of_getElem? he
  exact (eqD_ok I e A w x y v d (by have := deps_le hm; omega) re hx ru rx).2
theorem any_eqF {pins : List (Addr × Obj)} {σ : St} {H : Hp} {s : Shared} (I : Inv X pins σ H s) {d : D} : ∀ {vs : List V} {us : List Value} {ds : List D}, Reps X.K H vs ds → Vals vs us → us.any (eqF X H d) = ds.any fun e => eqD e d
  | vs, us, [], r, rv => by
    cases (show vs = [] from r)
    cases rv
    rfl
  | vs, us, e :: ds, r, rv => by
    obtain ⟨v, q, rfl, h1, h2⟩ := r
    cases rv with
    | cons r1 r2 => rw [List.any_cons, List.any_cons, eqF_of I r1 h1, any_eqF I h2 r2]

noncomputable def SeqD (K : PySem.W.Frag) (H : Hp) (y : V) (ds : List D) : Prop := Rep K H y (.lst ds) ∨ Rep K H y (.tup ds)
noncomputable def rInD (K : PySem.W.Frag) (n : Nat) (neg : Bool) : R2 := fun x y H Q => ∃ d ds, Rep K H x d ∧ SeqD K H y ds ∧ deps ds + 1 ≤ n ∧ Q (.bl (if neg then !(ds.any fun e => eqD e d) else ds.any fun e => eqD e d)) H
theorem op_inD {n : Nat} (hu : X.A.units + n < cLine) : OpR X (compareOp .In) (rInD X.K n false) := by
  intro pins s σ H x y v u Q I rx ry h
  obtain ⟨d, ds, hx, hs, hn, q⟩ := h
  have fin : ∀ {us : List Value} {vs : List V}, Reps X.K H vs ds → Vals vs us → EP X pins σ Q (.bool (us.toArray.any (eqF X H d))) s := fun r rv =>
    ⟨.bl (ds.any fun e => eqD e d), H, I, by show Value.bool _ = Value.bool _; rw [List.any_toArray, any_eqF I r rv], q⟩
  rcases hs with ⟨a, vs, rfl, hq, r⟩ | ⟨a, vs, rfl, hq, r⟩
  · cases ry
    obtain ⟨its, rv, p, _⟩ := I.list hq
    exact in_listAt (eqF X H d) p.isList (eqF_at I (A := X.A.in1) (by show X.A.units + 1 + deps ds < cLine; omega) hx rx r rv) (fin r rv)
  · cases ry
    obtain ⟨its, rv, p, _⟩ := I.tuple hq
    exact in_tupleAt (eqF X H d) p (eqF_at I (A := X.A.in1) (by show X.A.units + 1 + deps ds < cLine; omega) hx rx r rv) (fin r rv)
theorem op_notInD {n : Nat} (hu : X.A.units + n < cLine) : OpR X (compareOp .NotIn) (rInD X.K n true) := by
  intro pins s σ H x y v u Q I rx ry h
  obtain ⟨d, ds, hx, hs, hn, q⟩ := h
  have fin : ∀ {us : List Value} {vs : List V}, Reps X.K H vs ds → Vals vs us → EP X pins σ Q (.bool (!us.toArray.any (eqF X H d))) s := fun r rv =>
    ⟨.bl (!(ds.any fun e => eqD e d)), H, I, by show Value.bool _ = Value.bool _; rw [List.any_toArray, any_eqF I r rv], q⟩
  rcases hs with ⟨a, vs, rfl, hq, r⟩ | ⟨a, vs, rfl, hq, r⟩
  · cases ry
    obtain ⟨its, rv, p, _⟩ := I.list hq
    exact notIn_listAt (eqF X H d) p.isList (eqF_at I (A := X.A.in1) (by show X.A.units + 1 + deps ds < cLine; omega) hx rx r rv) (fin r rv)
  · cases ry
    obtain ⟨its, rv, p, _⟩ := I.tuple hq
    exact notIn_tupleAt (eqF X H d) p (eqF_at I (A := X.A.in1) (by show X.A.units + 1 + deps ds < cLine; omega) hx rx r rv) (fin r rv)

noncomputable def rIndex (K : PySem.W.Frag) (n : Nat) : V → List V → Hp → VK → Prop := fun x vs H Q => ∃ ds y d j, vs = [y] ∧ Rep K H x (.lst ds) ∧ Rep K H y d ∧ deps ds + 1 ≤ n ∧ ds.findIdx? (fun e => eqD e d) = some j ∧ Q (.int (j : Nat)) H
theorem mt_index {n : Nat} (hu : X.A.units + n < cLine) : MtR X "list.index" (rIndex X.K n) := by
  intro pins s σ H x vs v us Q I rx rv h
  obtain ⟨ds, y, d, j, rfl, ⟨a, ws, rfl, hq, r⟩, hy, hn, hj, q⟩ := h
  cases rx
  obtain ⟨u, rfl, ru⟩ := rv.one
  obtain ⟨its, rw', p, hz⟩ := I.list hq
  have l1 := r.length
  have l2 := rw'.length
  obtain ⟨hlt, hit, hno⟩ := List.findIdx?_eq_some_iff_getElem.mp hj
  have at' : ∀ m (hm : m < its.toArray.size) (hm' : m < ds.length), eqF X H d its.toArray[m] = eqD ds[m] d := fun m hm hm' => by
    obtain ⟨w, hw, re⟩ := r.get (i := m) (d := ds[m]) (by simp)
    obtain ⟨u', hu', ru'⟩ := rw'.get hw
    have e1 : its.toArray[m] = u' := by
      have hm2 : m < its.length := by simpa using hm
      have : its[m]? = some its[m] := by simp
      rw [hu'] at this
      have := (Option.some.inj this).symm
      simpa using this
    rw [e1]
    exact eqF_of I ru' re
  obtain ⟨o, k, ho, hc, hdn, hd⟩ := id p
  obtain ⟨cls, dd, data, sl⟩ := o
  simp only at hc hdn hd
  subst hc hdn hd
  have hsz : ds.length ≤ sizeLine := by omega
  have big : (sizeLine : Nat) < 2 ^ 62 := by rw [sizeLine_eq]; decide
  refine call_meets PySem.F.slot_list_index ⟨_, ho, rfl⟩ PySem.F.entry_list_index (PySem.F.args_list_index_2 _ _)
    (list_indexAt a its.toArray k none sl u (eqF X H d) j (by simp <;> omega) (by omega) ?_ ?_) ⟨ho, eqF_at I (A := X.A.in1) (by show X.A.units + 1 + deps ds < cLine; omega) hy ru r rw', ?_⟩
  · rw [at' j (by simp <;> omega) hlt]; exact hit
  · intro m hm hmj
    rw [at' m hm (by omega)]
    have := hno m hmj
    simpa using this
  · exact ⟨.int (j : Nat), H, I.tok _, ⟨_, rfl⟩, q⟩


noncomputable def isD (n : String) : D → Bool
  | .non => false
  | .bl _ => n == "int" || n == "bool"
  | .int _ => n == "int"
  | .str _ => n == "str"
  | .tup _ => n == "tuple"
  | .lst _ => n == "list"
noncomputable def tyD : D → String
  | .non => "NoneType"
  | .bl _ => "bool"
  | .int _ => "int"
  | .str _ => "str"
  | .tup _ => "tuple"
  | .lst _ => "list"
theorem kit_ok {K : PySem.W.Frag} {n : String} {d : D} (hn : n = "int" ∨ n = "bool" ∨ n = "str" ∨ n = "tuple" ∨ n = "list" ∨ n = "dict") : PySem.W.kitOne K (.type (tyD d)) (.type n) = some (isD n d) := by
  rcases hn with rfl | rfl | rfl | rfl | rfl | rfl <;> cases d <;> (unfold PySem.W.kitOne PySem.W.kitCls PySem.W.subIn tyD isD; first | rfl | decide +kernel)
theorem call_isinst : CallR X (.builtin "isinstance") (fun xs H Q => ∃ x n d, xs = [x, .ty n] ∧ (n = "int" ∨ n = "bool" ∨ n = "str" ∨ n = "tuple" ∨ n = "list" ∨ n = "dict") ∧ Rep X.K H x d ∧ Q (.bl (isD n d)) H) := by
  intro pins s σ H xs us Q I r h
  obtain ⟨x, n, d, rfl, hn, hx, q⟩ := h
  obtain ⟨u, v, rfl, rx, rt⟩ := vals2 r
  cases rt
  have k := kit_ok (K := X.K) (d := d) hn
  have fin : ∀ tk, EP X pins σ Q (.bool (isD n d)) { s with toks := tk } := fun tk => ⟨.bl (isD n d), H, I.tok tk, rfl, q⟩
  cases d with
  | non => cases (show x = .non from hx); cases (show u = Value.none from rx); exact PySem.W.kia_one PySem.W.kitx_none I.kIn True.intro k (fun z => nomatch z) fin
  | bl b => cases (show x = .bl b from hx); cases (show u = Value.bool b from rx); exact PySem.W.kia_one PySem.W.kitx_bool I.kIn True.intro k (fun z => nomatch z) fin
  | int b => cases (show x = .int b from hx); obtain ⟨t, rfl⟩ := rx; exact PySem.W.kia_one PySem.W.kitx_int I.kIn True.intro k (fun z => nomatch z) fin
  | str b => cases (show x = .str b from hx); obtain ⟨t, rfl⟩ := rx; exact PySem.W.kia_one PySem.W.kitx_str I.kIn True.intro k (fun z => nomatch z) fin
  | tup ds =>
    obtain ⟨a, vs, rfl, hq, _⟩ := hx
    cases rx
    obtain ⟨its, _, ⟨o, e, c, _⟩, _⟩ := I.tuple hq
    exact PySem.W.kia_one PySem.W.kitx_tuple I.kIn ⟨o, e, c⟩ k (fun z => nomatch z) fin
  | lst ds =>
    obtain ⟨a, vs, rfl, hq, _⟩ := hx
    cases rx
    obtain ⟨its, _, ⟨o, _, e, c, _⟩, _⟩ := I.list hq
    exact PySem.W.kia_one PySem.W.kitx_list I.kIn ⟨o, e, c⟩ k (fun z => nomatch z) fin


noncomputable def rCatW (K : PySem.W.Frag) : R2 := fun x y H Q => ∃ a b xs ys, x = .ref a ∧ y = .ref b ∧ SqT K H a xs ∧ SqT K H b ys ∧ xs.length + ys.length ≤ sizeLine ∧ ∀ p H', Same H H' → SqT K H' p (xs ++ ys) → Q (.ref p) H'
theorem op_catW : OpR X (binaryOp .Add) (rCatW X.K) := by
  intro pins s σ H x y v u Q I rx ry h
  obtain ⟨a, b, xs, ys, rfl, rfl, ha, hb, hz, q⟩ := h
  by_cases hx : xs = []
  · subst hx
    cases rx
    cases ry
    obtain ⟨its, r1, p1, _⟩ := I.tuple ha
    obtain ⟨its2, r2, p2, _⟩ := I.tuple hb
    cases r1
    obtain ⟨⟨cls, dd, data, sl⟩, ho, hc, n, hd⟩ := id p1
    obtain ⟨⟨cls2, dd2, data2, sl2⟩, ho2, hc2, n2, hd2⟩ := id p2
    simp only at hc hd hc2 hd2
    subst hc hd hc2 hd2
    exact concat_meets ⟨_, ho, rfl⟩ ⟨_, ho2, rfl⟩ noFill_tuple_add seq_tuple_add PySem.F.slot_tuple_add PySem.F.entry_tuple_add (PySem.F.args_tuple_add_2 _ _)
      (tuple_addW0 a b _ _ n n2 dd dd2 sl sl2 (by simp)) ⟨ho, ho2, ⟨.ref b, H, I, rfl, q b H (Same.refl H) (by simpa using hb)⟩⟩
  · refine op_catT pins s σ H (.ref a) (.ref b) v u Q I rx ry ⟨a, b, xs, ys, rfl, rfl, ha, hb, hx, hz, fun e => ?_, fun e p hp => ?_⟩
    · subst e; exact q a H (Same.refl H) (by simpa using ha)
    · exact q p _ (Same.new hp) (.of upd_same)
noncomputable def rSlTW (K : PySem.W.Frag) : V → Option Int → Option Int → Hp → VK → Prop := fun x lo hi H Q => ∃ a xs, x = .ref a ∧ SqT K H a xs ∧
  ¬ (HT.sIx xs.length 0 lo = 0 ∧ HT.sIx xs.length xs.length hi = xs.length) ∧ ∀ p H', Same H H' → SqT K H' p (cutV xs lo hi) → Q (.ref p) H'
theorem sl_tupW : SlR X (rSlTW X.K) := by
  intro pins s σ H x v vl vu lo hi sl Q I rx hs pl pu h
  obtain ⟨a, xs, rfl, hx, hw, q⟩ := h
  exact sl_tup pins s σ H (.ref a) v vl vu lo hi sl Q I rx hs pl pu ⟨a, xs, rfl, hx, hw, fun p hp => q p _ (Same.new hp) (.of upd_same)⟩

noncomputable def rCatLW (K : PySem.W.Frag) : R2 := fun x y H Q => ∃ l b xs zs, x = .ref l ∧ y = .ref b ∧ SqL K H l xs ∧ SqL K H b zs ∧ xs.length + zs.length ≤ sizeLine ∧ ∀ p, H p = none → Q (.ref p) (upd H p (.lst (xs ++ zs)))
theorem op_catLW : OpR X (binaryOp .Add) (rCatLW X.K) := by
  intro pins s σ H x y v u Q I rx ry h
  obtain ⟨l, b, xs, zs, rfl, rfl, hl, hb, hz, q⟩ := h
  cases rx
  cases ry
  obtain ⟨its, r1, p1, _⟩ := I.list hl
  obtain ⟨its2, r2, p2, _⟩ := I.list hb
  obtain ⟨⟨cls, dd, data, sl⟩, n, ho, hc, hdd, hd⟩ := id p1
  obtain ⟨⟨cls2, dd2, data2, sl2⟩, n2, ho2, hc2, hdd2, hd2⟩ := id p2
  simp only at hc hd hc2 hd2
  subst hc hd hc2 hd2
  refine concat_meets ⟨_, ho, rfl⟩ ⟨_, ho2, rfl⟩ noFill_list_add seq_list_add PySem.F.slot_list_add PySem.F.entry_list_add (PySem.F.args_list_add_2 _ _)
    (list_addW l b its.toArray its2.toArray n n2 dd dd2 sl sl2 (by rw [List.size_toArray, List.size_toArray, ← r1.length, ← r2.length]; exact hz)) ⟨ho, ho2, ?_⟩
  rw [show its.toArray ++ its2.toArray = (its ++ its2).toArray by simp]
  exact ⟨.ref s.heap.objs.size, _, I.lnew (t' := s.toks) (r1.append r2) (by rw [List.length_append]; exact hz), rfl, q _ I.fresh⟩


theorem call_allB (hc : X.calm = true) : CallR X (.builtin "all") (fun xs H Q => ∃ (p : Addr) (bs : List Bool), xs = [.ref p] ∧ SqL X.K H p (bs.map V.bl) ∧ Q (.bl (bs.all id)) H) := by
  intro pins s σ H xs us Q I r h
  obtain ⟨p, bs, rfl, hq, q⟩ := h
  obtain ⟨u, rfl, ru⟩ := vals1 r
  cases ru
  obtain ⟨its, rv, pl, hz⟩ := I.list hq
  have hh : X.A.handled = none := I.ok.hd hc
  have rel : ∀ (i : Nat) (v : Value), its.toArray[i]? = some v → ∃ b, bs[i]? = some b ∧ v = .bool b := fun i v e => by
    have e' : its[i]? = some v := by simpa using e
    have hlt : i < its.length := (List.getElem?_eq_some_iff.mp e').1
    have l1 := rv.length
    rw [List.length_map] at l1
    have hb : bs[i]? = some (bs[i]'(by omega)) := by simp <;> omega
    obtain ⟨u, hu, ru⟩ := rv.get (i := i) (x := V.bl (bs[i]'(by omega))) (by rw [List.getElem?_map, hb]; rfl)
    rw [e'] at hu
    cases hu
    exact ⟨_, hb, ru⟩
  refine call_all_walk (wpAny_pyIter_list pl.isList ?_)
  refine ⟨s.heap.objs.size, [s.heap.objs.size, p], [s.heap.objs.size], its.toArray.size, _, _, fun i => (bs[i]?).getD true, rfl, Walks.list (show X.A.in1.handled = none from hh) s.heap.objs.size p ?_ its.toArray, ⟨⟨_, Heap.get?_push_size _ rfl, rfl, rfl⟩, ?_⟩, ?_, fun h' tk k => ?_⟩
  · obtain ⟨o, _, ho, _⟩ := pl
    exact Nat.ne_of_lt (Heap.lt_size ho)
  · exact pl.isList.at fun o e => Heap.get?_push_of_some _ e
  · intro i v s' Q' E' hv hQ
    obtain ⟨b, hb, rfl⟩ := rel i v hv
    dsimp only at hQ
    rw [hb] at hQ
    exact wpAny_truthy_bool hQ
  · have e : (List.range its.toArray.size).all (fun i => (bs[i]?).getD true) = bs.all id := by
      have l1 := rv.length
      rw [List.length_map] at l1
      rw [List.size_toArray, ← l1]
      rw [Bool.eq_iff_iff, List.all_eq_true, List.all_eq_true]
      constructor
      · intro hx b hb
        obtain ⟨i, hi⟩ := List.getElem?_of_mem hb
        have := hx i (List.mem_range.mpr (List.getElem?_eq_some_iff.mp hi).1)
        rw [hi] at this
        exact this
      · intro hx i hi
        have hlt := List.mem_range.mp hi
        have hb : bs[i]? = some bs[i] := by simp
        rw [hb]
        exact hx _ (List.getElem_mem _)
    rw [e]
    have I1 : Inv X pins σ H { s with heap := h', toks := tk } := I.kept (fun b o e => k b o (by simp; exact Nat.ne_of_lt (Heap.lt_size e)) (Heap.get?_push_of_some _ e))
    exact ⟨.bl (bs.all id), H, I1, rfl, q⟩
end


structure Has (P : Program) (w : World) (K : PySem.W.Frag) (mg : Str → Option Value) (base : Heap) (x : Str) (ps : List Str) (k : Nat) (sp : Sp) : Prop where
  ex : ∃ (f : Addr) (fd : FuncData), mg x = some (.ref f) ∧ PySem.W.keepIn K (.ref f) = true ∧ Binds K fd ps [] ∧ FnOk P w K mg base CX0 k f fd ps sp
section
variable {X : Cx} {x : Str} {ps : List Str} {j k : Nat} {sp : Sp} {p pos : Pos} {e : Expr} {es : List Expr} {t : TA}
theorem pe_callH (h : Has X.prog X.w X.K X.mg X.base x ps j sp) (hr : Room k X.A) (hg : Gl X x) (ha : PA X (e :: es) t) (hk : j ≤ k := by decide) (hdb : (x == ("__debug__" : Str)) = false := by decide)
    (he : starEach (e :: es) X.env = (false, eval e X.env) :: starEach es X.env := by rfl) (hpl : (backTo pos (starEach es X.env)).any (·.1) = false := by rfl) : PE X (.Call (.Name x p) (e :: es) [] pos) (tCall sp [] E0 t) := by
  obtain ⟨f, fd, h1, h2, h3, h4⟩ := h.ex
  exact pe_call h4 (hr.mono hk) hg h1 h2 h3 .nil pass0 ha hdb he hpl
end

theorem boot_intT : bootBuiltins "int" = some (.type "int") := by decide +kernel
theorem boot_boolT : bootBuiltins "bool" = some (.type "bool") := by decide +kernel
theorem boot_tupleT : bootBuiltins "tuple" = some (.type "tuple") := by decide +kernel
theorem boot_listT : bootBuiltins "list" = some (.type "list") := by decide +kernel
theorem boot_dictT : bootBuiltins "dict" = some (.type "dict") := by decide +kernel
theorem boot_maxB : bootBuiltins "max" = some (.builtin "max") := by decide +kernel
theorem boot_allB : bootBuiltins "all" = some (.builtin "all") := by decide +kernel
theorem boot_isinstanceB : bootBuiltins "isinstance" = some (.builtin "isinstance") := by decide +kernel
end L2

set_option Elab.async false
set_option linter.all false
namespace L2
open PySem PySem.Spec PyProof.Rows

section
variable {X : Cx} {K : PySem.W.Frag} {tg l : Expr} {tl : TE} {n : Nat}
theorem kop_catW (hK : X.K = K := by rfl) : OpR X (binaryOp .Add) (rCatW K) := by subst hK; exact op_catW
theorem kop_catLW (hK : X.K = K := by rfl) : OpR X (binaryOp .Add) (rCatLW K) := by subst hK; exact op_catLW
theorem ksl_tupW (hK : X.K = K := by rfl) : SlR X (rSlTW K) := by subst hK; exact sl_tupW
theorem ksl_list (hK : X.K = K := by rfl) : SlR X (rSlL K) := by subst hK; exact sl_list
theorem kix_list (hK : X.K = K := by rfl) : IxR X (rIxL K) := by subst hK; exact ix_list
theorem kix_tup (hK : X.K = K := by rfl) : IxR X (rIxT K) := by subst hK; exact ix_tup
theorem kcall_len_seq (hK : X.K = K := by rfl) : CallR X (.builtin "len") (fun xs H Q => ∃ p ys, xs = [.ref p] ∧ (SqL K H p ys ∨ SqT K H p ys) ∧ Q (.int ys.length) H) := by subst hK; exact call_len_seq
theorem kcall_list_of (hK : X.K = K := by rfl) : CallR X (.type "list") (fun xs H Q => ∃ p ys, xs = [.ref p] ∧ (SqL K H p ys ∨ SqT K H p ys) ∧ ∀ l, H l = none → Q (.ref l) (upd H l (.lst ys))) := by subst hK; exact call_list_of
theorem kcall_tuple_of (hK : X.K = K := by rfl) : CallR X (.type "tuple") (fun xs H Q => ∃ p ys, xs = [.ref p] ∧ ((SqL K H p ys ∧ ∀ l, H l = none → Q (.ref l) (upd H l (.tup ys))) ∨ (SqT K H p ys ∧ Q (.ref p) H))) := by subst hK; exact call_tuple_of
theorem kcall_isinst (hK : X.K = K := by rfl) : CallR X (.builtin "isinstance") (fun xs H Q => ∃ x n d, xs = [x, .ty n] ∧ (n = "int" ∨ n = "bool" ∨ n = "str" ∨ n = "tuple" ∨ n = "list" ∨ n = "dict") ∧ Rep K H x d ∧ Q (.bl (isD n d)) H) := by subst hK; exact call_isinst
theorem kcall_allB (hc : X.calm = true) (hK : X.K = K := by rfl) : CallR X (.builtin "all") (fun xs H Q => ∃ (p : Addr) (bs : List Bool), xs = [.ref p] ∧ SqL K H p (bs.map V.bl) ∧ Q (.bl (bs.all id)) H) := by subst hK; exact call_allB hc
theorem kop_inD (hu : X.A.units + n < cLine) (hK : X.K = K := by rfl) : OpR X (compareOp .In) (rInD K n false) := by subst hK; exact op_inD hu
theorem kop_notInD (hu : X.A.units + n < cLine) (hK : X.K = K := by rfl) : OpR X (compareOp .NotIn) (rInD K n true) := by subst hK; exact op_notInD hu
theorem kop_eqD (hu : X.A.units + n < cLine) (hK : X.K = K := by rfl) : OpR X (compareOp .Eq) (rEqD K n) := by subst hK; exact op_eqD hu
theorem kmt_index (hu : X.A.units + n < cLine) (hK : X.K = K := by rfl) : MtR X "list.index" (rIndex K n) := by subst hK; exact mt_index hu
theorem kpi_list (hl : PE X l tl) (hK : X.K = K := by rfl) : PI X tg l (iList K tl) := by subst hK; exact pi_list hl
theorem kpi_tup (hl : PE X l tl) (hK : X.K = K := by rfl) : PI X tg l (iTup K tl) := by subst hK; exact pi_tup hl
variable {o e : Expr} {es : List Expr} {to : TE} {t : TA} {name : Str} {apos cpos : Pos} {T id : String} {r : V → List V → Hp → VK → Prop}
theorem kpe_bm (pa : PlainAttrs T) (slot : Slot T name id) (hty : typeOf (.builtin id) = pure (.type "method_descriptor")) (hm : MtR X id r) (ho : PE X o to) (ha : PA X (e :: es) t) (hK : X.K = K := by rfl)
    (hbase : attributeBase o name X.env (eval o X.env) = eval o X.env := by rfl)
    (hfew : ((backTo cpos (starEach (e :: es) X.env)).all (fun x => !x.1) && (backToKw cpos (keywordEach [] X.env)).all (fun x => x.1.isSome)
      && decide ((e :: es).length + ([] : List Keyword).length + (if ([] : List Keyword).isEmpty then 0 else 1) < 30)) = true := by rfl)
    (hline : (apos.endLine == cpos.line) = true := by rfl) (hs : starEach (e :: es) X.env = (false, eval e X.env) :: starEach es X.env := by rfl) (hplain : (backTo cpos (starEach es X.env)).any (·.1) = false := by rfl) :
    PE X (.Call (.Attribute o name apos) (e :: es) [] cpos) (tBM K T r to t) := by subst hK; exact pe_bm pa slot hty hm ho ha hbase hfew hline hs hplain
theorem kpg_tup {es : List Expr} {k : Nat} {t : TGs} {n : Nat} {pos : Pos} (hc : X.calm = true) (h : PGs X es t) (hK : X.K = K := by rfl)
    (hn : (assignEach es X.env).length = n := by rfl) (hst : (assignEach es X.env).findIdx? (·.1) = none := by rfl) : PG X (.Tuple es k pos) (gTup K n t) := by subst hK; exact pg_tup hc h hn hst
end
end L2

set_option Elab.async false
set_option linter.all false
set_option maxRecDepth 100000
set_option maxHeartbeats 4000000

namespace L2
open PySem PySem.Spec PyProof.Rows

theorem ObjOk.ob {P : Program} {w : World} {H : Hp} {h : Heap} {a : Addr} {o : HO} (x : ObjOk P w H h a o) : ∃ u, h.get? a = some u := by
  cases o with
  | lst xs => obtain ⟨_, _, _, _, e⟩ := x; exact ⟨_, e⟩
  | tup xs => obtain ⟨_, _, _, ob, e, _⟩ := x; exact ⟨_, e⟩
  | dK kvs => obtain ⟨_, _, _, _, ob, _, _, e, _⟩ := x; exact ⟨_, e⟩
  | dT kvs => obtain ⟨_, _, _, _, ob, _, _, e, _⟩ := x; exact ⟨_, e⟩
  | set S n => obtain ⟨ob, _, _, _, e, _⟩ := x; exact ⟨_, e⟩
  | ins C dx fs => obtain ⟨_, _, _, e, _⟩ := x; exact ⟨_, e⟩
  | own y => exact x
  | xd fs => obtain ⟨_, ⟨ob, _, _, e, _⟩, _⟩ := x; exact ⟨_, e⟩
  | rng lo hi => obtain ⟨_, _, _, e⟩ := x; exact ⟨_, e⟩
  | frz ob u => obtain ⟨e, _⟩ := x; exact ⟨_, e⟩
  | tbl ps => exact ⟨_, (show h.get? a = some _ from x)⟩
  | met f y => exact ⟨_, (show h.get? a = some _ from x)⟩
  | ext φ => obtain ⟨_, e, _⟩ := x; exact e


structure XUn (fs : List Addr) (H H' : Hp) (h B h' : Heap) : Prop where
  kp : ∀ b o, h.get? b = some o → H b = none → b ∉ fs → B.get? b = some o
  sl : ∀ b o, h.get? b = some o → H b = none → b ∈ fs → ∃ z, h'.get? b = some { o with slots := z }
  fr : ∀ b o, h.get? b = some o → H b = none → H' b = none
  th : ∀ b o, h.get? b = some o → b ∉ fs → ∃ z, B.get? b = some z
  tu : ∀ b xs, H b = some (.tup xs) → H' b = some (.tup xs)
  fz : ∀ b o u, H b = some (.frz o u) → H' b = some (.frz o u)
  tb : ∀ b ps, H b = some (.tbl ps) → ∃ more, H' b = some (.tbl (ps ++ more))
section
variable {fs : List Addr} {H H' : Hp} {h B h' h2 : Heap}
theorem XUn.un (x : XUn fs H H' h B h') (hB : B.StaysIn h2) (hf : ∀ b ∈ fs, H b = none) (hs : ∀ b o, h'.get? b = some o → b ∈ fs → ∃ z, h2.get? b = some { o with slots := z }) : Un fs [] H H' h h2 where
  keep := fun b o e n hb _ => hB b o (x.kp b o e n hb)
  slot := fun b o e n hb _ => by
    obtain ⟨z, e1⟩ := x.sl b o e n hb
    obtain ⟨z', e2⟩ := hs b _ e1 hb
    exact ⟨z', e2⟩
  free := fun b o e n _ => x.fr b o e n
  there := fun b o e _ => by
    by_cases hb : b ∈ fs
    · obtain ⟨z, e1⟩ := x.sl b o e (hf b hb) hb
      obtain ⟨z', e2⟩ := hs b _ e1 hb
      exact ⟨_, e2⟩
    · obtain ⟨z, e1⟩ := x.th b o e hb
      exact ⟨z, hB b z e1⟩
  tups := x.tu
  frzs := x.fz
  tbls := x.tb
theorem frames_up {l : List Env} (ff : h'.FunFrames B l) (up : h'.UpToSlots h2) : ∀ b o, h'.get? b = some o → b ∈ frs l → ∃ z, h2.get? b = some { o with slots := z } := fun b o e hb => by
  obtain ⟨_, o', e', hd⟩ := ff.mem hb
  rw [e] at e'
  cases e'
  exact up b o e hd
theorem XUn.next {l : List Env} (x : XUn (frs l) H H' h B h') (ff : h'.FunFrames B l) (up : h'.UpToSlots h2) : XUn (frs l) H H' h B h2 :=
  ⟨x.kp, fun b o e n hb => by
    obtain ⟨z, e1⟩ := x.sl b o e n hb
    obtain ⟨z', e2⟩ := frames_up ff up b _ e1 hb
    exact ⟨z', e2⟩, x.fr, x.th, x.tu, x.fz, x.tb⟩
end


noncomputable def CX1 (P : Program) (w : World) : CXT := fun outer H s E u s' => ∃ (e : Addr) (cls a0 : Value) (B : Heap) (H' : Hp), u = .ref e ∧ s'.os = s.os ∧ AllBare s'.gens ∧ XUn (frs outer) H H' s.heap B s'.heap ∧ HOk P w H' B ∧ Heap.FlyingW B outer e cls a0 s'.heap ∧ E cls none H'

noncomputable def FlyAt (X : Cx) (pins : List (Addr × Obj)) (e : Addr) (cls a0 : Value) (σ : St) (H' : Hp) (s' : Shared) : Prop :=
  ∃ (B : Heap) (H : Hp) (s : Shared), Inv X pins σ H s ∧ s'.os = s.os ∧ AllBare s'.gens ∧ XUn (frs X.stack) H H' s.heap B s'.heap ∧ HOk X.prog X.w H' B ∧ Heap.FlyingW B X.stack e cls a0 s'.heap

noncomputable abbrev XJ := Value → St → Hp → Prop
noncomputable def Fly (X : Cx) (J : XJ) (u : Value) (s' : Shared) : Prop := ∃ (e : Addr) (cls a0 : Value) (σ : St) (H' : Hp), u = .ref e ∧ FlyAt X [] e cls a0 σ H' s' ∧ J cls σ H'
noncomputable def Flies (X : Cx) (J : XJ) : Prop := ∀ u s', Fly X J u s' → X.xe u s'
noncomputable def Makes (X : Cx) (J : XJ) : Prop := ∀ (pins : List (Addr × Obj)) (σ : St) (H : Hp) (s : Shared) (e : Addr) (cls : Value) (vs : List Value) (h' : Heap), Inv X pins σ H s → Heap.MadeExcOf s.heap h' e cls vs → J cls σ H → X.xe (.ref e) { s with heap := h' }


noncomputable def excO (e : Addr) (cls : Value) : HO := .ext fun h => ∃ o vs, h.get? e = some o ∧ o.cls = cls ∧ o.data = .fields vs

section
variable {X : Cx} {pins : List (Addr × Obj)} {σ : St} {H H' : Hp} {s s' : Shared} {e : Addr} {cls a0 : Value}
theorem Inv.nopin (I : Inv X pins σ H s) : Inv X [] σ H s := I.pins_of (fun p hp => nomatch hp)
theorem FlyAt.step {B : Heap} {h2 : Heap} {S : Shared} (I : Inv X pins σ H S) (q1 : s'.os = S.os) (q2 : AllBare s'.gens) (q3 : XUn (frs X.stack) H H' S.heap B s'.heap) (q4 : HOk X.prog X.w H' B) (q5 : Heap.FlyingW B X.stack e cls a0 s'.heap)
    (f : Heap.FlyingW B X.stack e cls a0 h2) (up : s'.heap.UpToSlots h2) : FlyAt X pins e cls a0 σ H' { s' with heap := h2 } :=
  ⟨B, H, S, I, q1, q2, q3.next q5.2.2.1 up, q4, f⟩

theorem FlyAt.apart {B : Heap} {S : Shared} (q3 : XUn (frs X.stack) H H' S.heap B s'.heap) (q5 : Heap.FlyingW B X.stack e cls a0 s'.heap) : S.heap.get? e = none := by
  cases z : S.heap.get? e with
  | none => rfl
  | some o =>
    by_cases hb : e ∈ frs X.stack
    · obtain ⟨_, o', e1, hd⟩ := q5.2.2.1.mem hb
      obtain ⟨oe, vs, e2, _, d2, _⟩ := q5.first
      rw [e1] at e2
      cases e2
      exact absurd d2 (hd vs)
    · obtain ⟨o', e1⟩ := q3.th e o z hb
      have e2 := q5.2.1
      rw [e1] at e2
      cases e2
theorem HOk.none_of {P : Program} {w : World} {B : Heap} (q : HOk P w H' B) (z : B.get? e = none) : H' e = none := by
  cases y : H' e with
  | none => rfl
  | some o =>
    obtain ⟨u, e1⟩ := (q e o y).ob
    rw [e1] at z
    cases z
theorem FlyAt.inv (F : FlyAt X pins e cls a0 σ H' s') : Inv X pins σ H' s' ∧ H' e = none := by
  obtain ⟨B, H, S, I, q1, q2, q3, q4, q5⟩ := F
  exact ⟨I.call' (ch := []) q1 (q3.un q5.1 I.stkFree fun b o e1 _ => ⟨o.slots, e1⟩) (q4.kept q5.1) q2 (fun b z => absurd z (by simp)), q4.none_of q5.2.1⟩

theorem FlyAt.held (F : FlyAt X pins e cls a0 σ H' s') : Inv X pins σ (upd H' e (excO e cls)) s' ∧ H' e = none := by
  obtain ⟨B, H, S, I, q1, q2, q3, q4, q5⟩ := F
  have hn := q4.none_of q5.2.1
  have ha := FlyAt.apart q3 q5
  have ne : ∀ b u, H' b = some u → b ≠ e := fun b u y => ne_of_none y hn
  have q6 : XUn (frs X.stack) H (upd H' e (excO e cls)) S.heap B s'.heap :=
    ⟨q3.kp, q3.sl, fun b o e1 n => by
      have : b ≠ e := fun z => by rw [z, ha] at e1; cases e1
      rw [upd_ne this]
      exact q3.fr b o e1 n, q3.th, fun b xs y => by
      have y' := q3.tu b xs y
      rw [upd_ne (ne b _ y')]
      exact y', fun b o u y => by
      have y' := q3.fz b o u y
      rw [upd_ne (ne b _ y')]
      exact y', fun b ps y => by
      obtain ⟨more, y'⟩ := q3.tb b ps y
      exact ⟨more, by rw [upd_ne (ne b _ y')]; exact y'⟩⟩
  refine ⟨I.call' (ch := []) q1 (q6.un q5.1 I.stkFree fun b o e1 _ => ⟨o.slots, e1⟩) (fun b u y => ?_) q2 (fun b z => absurd z (by simp)), hn⟩
  have hk := q4.kept q5.1
  by_cases hb : b = e
  · subst hb
    rw [upd_same] at y
    cases y
    obtain ⟨oe, vs, e2, c2, d2, _⟩ := q5.first
    exact ⟨⟨oe, vs, e2, c2, d2⟩, ⟨oe, e2⟩, fun h1 h2 ⟨o, ws, a1, a2, a3⟩ k => ⟨o, ws, k o a1, a2, a3⟩⟩
  · rw [upd_ne hb] at y
    exact (hk b u y).stay (fun _ _ _ q => q) (fun c q => by rw [upd_ne (ne c _ q)]; exact q) fun c xs q => by rw [upd_ne (ne c _ q)]; exact q
end


section
variable {P : Program} {w : World} {K : PySem.W.Frag} {mg : Str → Option Value} {base : Heap} {N : List Str} {qual : Str} {scope : Scope} {f : Addr} {cd : Value} {A : Around} {outer : List Env} {s : Shared} {H : Hp} {E : XK}
theorem frs_def : frs (envOfC qual scope s.heap.objs.size f cd :: outer) = s.heap.objs.size :: frs outer := rfl
theorem makes_def : Makes (cxOf (CX1 P w) P w K mg base N qual scope f cd A outer s H E) (fun cls _ H' => E cls none H') := by
  intro pins σ H1 s1 e cls vs h' I hx hj
  have fin : ∀ env ∈ (envOfC qual scope s.heap.objs.size f cd :: outer), ∀ b, env.frame = some b → b ∈ frs (envOfC qual scope s.heap.objs.size f cd :: outer) := fun env he b hb => List.mem_filterMap.mpr ⟨env, he, hb⟩
  have old : ∀ b o, s.heap.get? b = some o → b ∉ frs outer → b ∉ frs (envOfC qual scope s.heap.objs.size f cd :: outer) := fun b o e1 hb z => by
    rw [frs_def] at z
    rcases List.mem_cons.mp z with y | y
    · exact absurd (Heap.lt_size e1) (by rw [y]; exact Nat.lt_irrefl _)
    · exact hb y
  have nx : ∀ b : Addr, b ∉ ([] : List Addr) := fun b => by simp
  have fr1 : ∀ b ∈ frs (envOfC qual scope s.heap.objs.size f cd :: outer), H1 b = none := I.stkFree
  show wpAny (model P w) (A.deeper (envOfC qual scope s.heap.objs.size f cd)) (leaving (envOfC qual scope s.heap.objs.size f cd) (.ref e)) _ _ { s1 with heap := h' }
  refine wpAny_leaves_madeW (L := s.heap.objs.size) (base := PySem.W.hideAll s1.heap (frs (envOfC qual scope s.heap.objs.size f cd :: outer))) (h := s1.heap) I.ok.frames rfl (fun b o q => PySem.W.of_hideAll _ q) (PySem.W.funFrames_hide I.stack fin) hx fun h2 t x1 x2 x3 x4 => ?_
  refine ⟨e, cls, .ref t, _, H1, rfl, I.os, I.bare, ⟨fun b o e1 n hb => ?_, fun b o e1 n hb => ?_, fun b o e1 n => I.base.free b o e1 n (nx b), fun b o e1 hb => ?_, I.base.tups, I.base.frzs, I.base.tbls⟩, ?_, x1, hj⟩
  · exact PySem.W.hideAll_get _ (I.base.keep b o e1 n hb (nx b)) (old b o e1 hb)
  · obtain ⟨z, e2⟩ := I.base.slot b o e1 n hb (nx b)
    obtain ⟨_, o', e3, hd⟩ := I.ok.funs.mem hb
    have e3' : s.heap.get? b = some o' := e3
    rw [e1] at e3'
    cases e3'
    obtain ⟨z2, e4⟩ := x4 b _ (hx.keeps b _ e2) hd
    exact ⟨z2, e4⟩
  · obtain ⟨o', e2⟩ := I.base.there b o e1 (nx b)
    exact ⟨o', PySem.W.hideAll_get _ e2 (old b o e1 hb)⟩
  · intro a u y
    refine (I.hok a u y).stay (fun b v hb q => PySem.W.hideAll_get _ q fun hm => ?_) (fun _ q => q) fun _ _ q => q
    have z := fr1 b hm
    rcases hb with rfl | hb
    · rw [y] at z; cases z
    · rw [hb] at z; cases z

theorem Fun.okX {x : Str} {st : Stmt} {fd : FuncData} {ps : List Str} {k : Nat} {sp : Sp} (F : Fun K x qual st f fd) (S : FnScope N ps (defScope st)) (len : ∀ vs H Q E, sp vs H Q E → vs.length = ps.length)
    (hbody : ∀ (cdv : Value) (A : Around) (outer : List Env) (s : Shared) (H : Hp) (vs : List V) (Q : VK) (E : XK), Room k (A.deeper (envOfC qual (defScope st) s.heap.objs.size f cdv)) → sp vs H Q E →
      ∃ t, PSs (cxOf (CX1 P w) P w K mg base N qual (defScope st) f cdv A outer s H E) (defBody st) t ∧ t { nx := fun _ H' => Q .non H', rt := Q } (start N vs) H) : FnOk P w K mg base (CX1 P w) (k + 1) f fd ps sp := by
  obtain ⟨oc, od, kV, doc, pm, an, cdv, ct, osl, rfl, lk, hcd⟩ := F.ex
  exact fn_of lk hcd S len fun A outer s H vs Q E hr hsp => hbody cdv A outer s H vs Q E hr hsp
end
structure HasX (P : Program) (w : World) (K : PySem.W.Frag) (mg : Str → Option Value) (base : Heap) (x : Str) (ps : List Str) (k : Nat) (sp : Sp) : Prop where
  ex : ∃ (f : Addr) (fd : FuncData), mg x = some (.ref f) ∧ PySem.W.keepIn K (.ref f) = true ∧ Binds K fd ps [] ∧ FnOk P w K mg base (CX1 P w) k f fd ps sp

noncomputable def tCallX (sp : Sp) (J : XJ) (t : TA) : TE := fun σ H Q => t σ H fun vs H1 => sp vs H1 Q (fun cls _ H2 => J cls σ H2)
section
variable {X : Cx} {J : XJ} {x : Str} {ps : List Str} {j k : Nat} {sp : Sp} {p pos : Pos} {e : Expr} {es : List Expr} {t : TA}
theorem run_fnX {pins : List (Addr × Obj)} {σ : St} {H : Hp} {s : Shared} {Q : VK} {us : List Value} {vs : List V} {f : Addr} {fd : FuncData} (F : FnOk X.prog X.w X.K X.mg X.base (CX1 X.prog X.w) k f fd ps sp) (hr : Room k X.A) (hb : Binds X.K fd ps []) (hx : Flies X J)
    (I : Inv X pins σ H s) (r : Vals vs us) (h : sp vs H Q (fun cls _ H2 => J cls σ H2)) : wpAny (model X.prog X.w) X.A (call (.ref f) us) (EP X pins σ Q) X.xe s := by
  have hl : us.length = ps.length := by rw [← r.length]; exact F.len _ _ _ _ h
  have hb1 := hb s us I.kIn (by rw [List.append_nil]; exact hl)
  rw [List.append_nil] at hb1
  refine wpAny_call (codeAny_mono (F.run X.A X.stack s H ⟨us, []⟩ us vs Q _ hr I.env0 hb1 r h) fun q s' hq => ?_)
  cases q with
  | error u =>
    obtain ⟨e, cls, a0, B, H', rfl, q1, q2, q3, q4, q5, q6⟩ := hq
    exact hx _ _ ⟨e, cls, a0, σ, H', rfl, ⟨B, H, s, I.nopin, q1, q2, q3, q4, q5⟩, q6⟩
  | ok fl =>
    cases fl with
    | ret u => exact I.after hq
    | next => exact False.elim hq
    | brk => exact False.elim hq
    | cont => exact False.elim hq
theorem pe_callX (hx : Flies X J) (h : HasX X.prog X.w X.K X.mg X.base x ps j sp) (hr : Room k X.A) (hg : Gl X x) (ha : PA X (e :: es) t) (hk : j ≤ k := by decide) (hdb : (x == ("__debug__" : Str)) = false := by decide)
    (he : starEach (e :: es) X.env = (false, eval e X.env) :: starEach es X.env := by rfl) (hpl : (backTo pos (starEach es X.env)).any (·.1) = false := by rfl) : PE X (.Call (.Name x p) (e :: es) [] pos) (tCallX sp J t) := by
  intro pins s σ H Q I hw
  obtain ⟨f, fd, h1, h2, h3, h4⟩ := h.ex
  refine wpAny_Call_Name_kw (ld_glob I hg h1 ?_ hdb)
  refine PySem.W.callWith_K (h₀ := X.base) I.ok.mod.kin h2 (thn (ha pos pins s σ H _ I hw) fun us s1 hm1_ => ?_) he hpl
  obtain ⟨vs, H1, I1, r, q⟩ := hm1_
  refine ⟨I1.kIn, ?_⟩
  exact run_fnX h4 (hr.mono hk) h3 hx I1 r q
end


abbrev bmV : List Value := [.type "ValueError", .type "Exception", .type "BaseException", .type "object"]
theorem own_obj {K : PySem.W.Frag} {h : Heap} {C : Addr} {bmB : List Value} {nid : String} (X : K.In h) (z : PySem.W.excIn K C bmB nid = true) :
    ∃ bm N nm q bs hdct sn sub ab col dd k0 k1 k2 k3 k5 mN, h.get? C = some (excClassObj nm q C N bs bm hdct sn sub ab col dd k0 k1 k2 k3 k5 nid) ∧ h.Ns N mN ∧ mN "__init__" = none ∧ OwnTail h bmB bm := by
  unfold PySem.W.excIn at z
  split at z
  case h_2 => cases z
  case h_1 dd cd sl ho =>
    split at z
    case h_2 => cases z
    case h_1 C' bm k0 k1 k2 k3 n k5 hm hs =>
      rw [Bool.and_eq_true, Bool.and_eq_true, Bool.and_eq_true, Bool.and_eq_true, Bool.and_eq_true, beq_iff_eq, beq_iff_eq, Bool.not_eq_true', beq_iff_eq] at z
      obtain ⟨⟨⟨⟨⟨z1, z2⟩, z3⟩, z4⟩, z5⟩, z6⟩ := z
      obtain ⟨nm, bs, mro, ns, qn, hd, sn, sub, ab, col, del⟩ := cd
      have hm' : mro = .ref C' :: bm := hm
      have z3' : del = false := z3
      subst hm' z3' z1 z2
      have hsl : sl = #[k0, k1, k2, k3, some (.builtin n), k5] := by
        cases sl with
        | mk l =>
          have : l = [k0, k1, k2, k3, some (.builtin n), k5] := hs
          rw [this]
      subst hsl
      exact ⟨bm, ns, nm, qn, bs, hd, sn, sub, ab, col, dd, k0, k1, k2, k3, k5, _, X _ _ ho, .of_isNs (PySem.W.isNs_of_in X z5), PySem.W.nsMap_none_of_in X z5 z6, PySem.W.tail_of_in X z4⟩
noncomputable def tRaise (J : XJ) (C : Addr) (t : TA) : TS := fun _ σ H => t σ H fun vs H1 => vs.length ≤ sizeLine ∧ J (.ref C) σ H1
theorem ps_raise {X : Cx} {J : XJ} {C : Addr} {x : Str} {np cpos pos : Pos} {e : Expr} {es : List Expr} {t : TA} (hx : Makes X J) (hc : X.calm = true) (hg : Gl X x) (hm : X.mg x = some (.ref C)) (z : PySem.W.excIn X.K C bmV "ValueError.__new__" = true) (ha : PA X (e :: es) t)
    (hdb : (x == ("__debug__" : Str)) = false := by decide) (he : starEach (e :: es) X.env = (false, eval e X.env) :: starEach es X.env := by rfl) (hpl : (backTo cpos (starEach es X.env)).any (·.1) = false := by rfl) :
    PS X (.Raise (some (.Call (.Name x np) (e :: es) [] cpos)) none pos) (tRaise J C t) := by
  intro pins s σ H D I h
  obtain ⟨bm, N, nm, q, bs, hdct, sn, sub, ab, col, dd, k0, k1, k2, k3, k5, mN, hC, hN, hni, T⟩ := own_obj I.mod.kin z
  have hp2 : (backTo cpos (starEach (e :: es) X.env)).any (·.1) = false := by
    rw [he]
    show (false || (backTo cpos (starEach es X.env)).any (·.1)) = false
    rw [hpl]
    rfl
  refine wpAny_Raise_call_subT PySem.F.excBase_ValueError (C := C) (nm := nm) (q := q) (N := N) (bs := bs) (bm := bm) (hdct := hdct) (sn := sn) (sub := sub) (ab := ab) (col := col) (dd := dd) (k0 := k0) (k1 := k1) (k2 := k2) (k3 := k3) (k5 := k5) (mN := mN)
    (T.hasType PySem.F.excBase_ValueError.hasBase) (I.ok.hd hc) hp2 hni (ld_glob I hg hm ⟨rfl, ?_⟩ hdb)
  have a1 := thn (ha cpos pins s σ H _ I h) (Q' := fun us s2 => (⟨us, []⟩ : Args).kw = [] ∧ us.length ≤ sizeLine ∧ s2.heap.get? C = some (excClassObj nm q C N bs bm hdct sn sub ab col dd k0 k1 k2 k3 k5 "ValueError.__new__") ∧ s2.heap.Ns N mN ∧ OwnTail s2.heap bmV bm ∧
      ∀ h' e, Heap.MadeExcOf s2.heap h' e (.ref C) us → X.xe (.ref e) { s2 with heap := h' }) fun us s2 ⟨vs, H1, I1, r, hl, hj⟩ =>
    ⟨rfl, by rw [← r.length]; exact hl, I1.bk _ _ hC, hN.keeps I1.bk, T.keeps I1.bk, fun h' e2 hmk => hx pins σ H1 s2 e2 _ _ h' I1 hmk hj⟩
  rw [he] at a1 ⊢
  exact Calls.evalArgs_plain a1


end L2

set_option Elab.async false
set_option linter.all false
set_option maxRecDepth 100000
set_option maxHeartbeats 4000000

namespace L2
open PySem PySem.Spec PyProof.Rows PySem.W

section
variable {X : Cx} {pins pn : List (Addr × Obj)} {σ : St} {H : Hp} {s : Shared} {J : XJ}
noncomputable abbrev Cx.pinned (X : Cx) (pn : List (Addr × Obj)) : Cx := { X with pn := X.pn ++ pn }
theorem Cx.Ok.pinned (ok : X.Ok) (pn : List (Addr × Obj)) : (X.pinned pn).Ok :=
  ⟨ok.mod, ok.kind, ok.glob, ok.blt, ok.above, ok.inj, ok.has, ok.cab, ok.hd, ok.frames, ok.stk, ok.exf, ok.bs, ok.bsz, ok.noex, ok.exfs, ok.funs, ok.frf⟩
theorem Cx.Ok.unpinned' (ok : (X.pinned pn).Ok) : X.Ok :=
  ⟨ok.mod, ok.kind, ok.glob, ok.blt, ok.above, ok.inj, ok.has, ok.cab, ok.hd, ok.frames, ok.stk, ok.exf, ok.bs, ok.bsz, ok.noex, ok.exfs, ok.funs, ok.frf⟩
theorem Inv.toPn (I : Inv X pins σ H s) : Inv (X.pinned pins) [] σ H s := ⟨I.ok.pinned _, I.os, I.bare, I.base, I.loc, I.cell, I.free, I.freeC, fun p hp => I.pin p (by simpa using hp), I.hok, I.len⟩
theorem Inv.ofPn (I : Inv (X.pinned pins) [] σ H s) : Inv X pins σ H s := ⟨I.ok.unpinned', I.os, I.bare, I.base, I.loc, I.cell, I.free, I.freeC, fun p hp => I.pin p (by simpa using hp), I.hok, I.len⟩

noncomputable abbrev Cx.tried (X : Cx) (pn : List (Addr × Obj)) (J : XJ) : Cx := (X.pinned pn).wish (Fly (X.pinned pn) J)
theorem flies_tried : Flies (X.tried pn J) J := fun u s' ⟨e, cls, a0, σ, H', h1, ⟨B, H, S, I, q⟩, h3⟩ => ⟨e, cls, a0, σ, H', h1, ⟨B, H, S, I.unwish, q⟩, h3⟩

noncomputable abbrev Cx.suite (X : Cx) (e : Addr) : Cx := { X with A := X.A.mark (some (.ref e)), calm := false, xe := fun _ _ => False }
theorem Cx.Ok.suite (ok : X.Ok) (e : Addr) : (X.suite e).Ok :=
  ⟨ok.mod, ok.kind, ok.glob, ok.blt, ok.above, ok.inj, ok.has, ok.cab, fun z => Bool.noConfusion z, ok.frames, ok.stk, ok.exf, ok.bs, ok.bsz, ok.noex, ok.exfs, ok.funs, ok.frf⟩
theorem Inv.suite (I : Inv X pins σ H s) (e : Addr) : Inv (X.suite e) pins σ H s := ⟨I.ok.suite e, I.os, I.bare, I.base, I.loc, I.cell, I.free, I.freeC, I.pin, I.hok, I.len⟩
theorem Inv.unsuite {e : Addr} (ok : X.Ok) (I : Inv (X.suite e) pins σ H s) : Inv X pins σ H s := ⟨ok, I.os, I.bare, I.base, I.loc, I.cell, I.free, I.freeC, I.pin, I.hok, I.len⟩


theorem unname_ok {M : Model} {A : Around} {E : Value → Shared → Prop} {i : Nat} {n : Str} {pos : Pos} {Q : Unit → Shared → Prop} (I : Inv X pins σ H s) (hN : X.N.Nodup) (hi : X.N[i]? = some n) (hk : X.env.kindOf n = some .local)
    (h : ∀ s', Inv X pins (σ.set i none) H s' → Q () s') : wpAny M A (do bindName X.env n .none; unbindBehindTheSuite X.env n pos) Q E s := by
  obtain ⟨m, hn, hl⟩ := id I.loc
  have hcls : (X.env.scope.kind == .class || (X.env.scope.kind == .module && X.env.locals != X.env.globals)) = false := by rw [I.ok.kind]; rfl
  refine wpAny_nameGoes_keeps hk hn hcls fun h' v hn' hs => h _ ?_
  have lt : ∀ b o, X.s₀.heap.get? b = some o → b ≠ X.env.locals := fun b o e => Nat.ne_of_lt (Nat.lt_of_lt_of_le (Heap.lt_size e) I.ok.above)
  refine ⟨I.ok, I.os, I.bare, ⟨fun b o e z hb hx => (hs.2 b (lt b o e)).trans (I.base.keep b o e z hb hx), fun b o e z hb hx => ?_, I.base.free, fun b o e hx => ?_, I.base.tups, I.base.frzs, I.base.tbls⟩, ⟨_, hn', fun j y v' e1 e2 e3 => ?_⟩, fun y c e => ?_, I.free, I.freeC, fun p hp => ?_, fun b o e => ?_, by simpa using I.len⟩
  · obtain ⟨sl, e1⟩ := I.base.slot b o e z hb hx
    exact ⟨sl, (hs.2 b (lt b o e)).trans e1⟩
  · obtain ⟨o', e1⟩ := I.base.there b o e hx
    exact ⟨o', (hs.2 b (lt b o e)).trans e1⟩
  · have hj : i ≠ j := by
      rintro rfl
      rw [List.getElem?_set] at e2
      simp at e2
    rw [List.getElem?_set_ne hj] at e2
    obtain ⟨u, r, q⟩ := hl j y v' e1 e2 e3
    refine ⟨u, r, ?_⟩
    rcases q with ⟨k, z⟩ | ⟨k, c, z, w'⟩
    · have : y ≠ n := fun z' => hj (nodup_ix hN hi (z' ▸ e1))
      exact .inl ⟨k, by simp [this, z]⟩
    · exact .inr ⟨k, c, z, w'.sameBut hs (I.cne y c z)⟩
  · obtain ⟨w', z⟩ := I.cell y c e
    exact ⟨w', z.sameBut hs (I.cne y c e)⟩
  · obtain ⟨e, z, ne, nf, d⟩ := I.pin p hp
    exact ⟨(hs.2 p.1 ne).trans e, z, ne, nf, d⟩
  · refine (I.hok b o e).stay (fun c w' hc q => (hs.2 c ?_).trans q) (fun _ q => q) fun _ _ q => q
    rintro rfl
    have hf := I.free
    rcases hc with rfl | hc
    · rw [hf] at e; cases e
    · rw [hf] at hc; cases hc
end


noncomputable def PH (X : Cx) (hs : List ExceptHandler) (th : Ends → XJ) : Prop := ∀ (pins : List (Addr × Obj)) (s : Shared) (σ : St) (H : Hp) (D : Ends) (e : Addr) (cls a0 : Value), FlyAt X pins e cls a0 σ H s → th D cls σ H →
  wpAny (model X.prog X.w) X.A (handleBy (.ref e) X.env hs) (SP X pins D) X.xe s
noncomputable def hNo : Ends → XJ := fun _ _ _ _ => False
theorem ph_none {X : Cx} : PH X [] hNo := fun _ _ _ _ _ _ _ _ _ h => h.elim

noncomputable def behind (i : Nat) (D : Ends) : Ends := { nx := fun σ H => D.nx (σ.set i none) H, rt := D.rt, bk := fun σ H => D.bk (σ.set i none) H, ct := fun σ H => D.ct (σ.set i none) H }
noncomputable def hAs (K : Frag) (C : Addr) (i : Nat) (ts : TS) (th : Ends → XJ) : Ends → XJ := fun D cls σ H => ∃ (C' : Addr) (b : Bool), cls = .ref C' ∧ subIn K (.ref C') (.ref C) = some b ∧
  if b = true then ∀ e, H e = none → ts (behind i D) (σ.set i (some (.ref e))) (upd H e (excO e cls)) else th D cls σ H

theorem exc_match {M : Model} {A : Around} {E : Value → Shared → Prop} {nm q : Str} {C C' N : Addr} {bs bm : List Value} {hdct : Bool} {sn : List Str} {sub : List Value} {ab : Bool} {col : Option Bool} {dd : Option Addr} {k0 k1 k2 k3 k5 : Option Value} {nid : String}
    {h : Heap} {g : Array GenState} {d : Drawn} {t : Nat} {os : OsState} {e : Addr} {oe : Obj} {b : Bool} {Q : Bool → Shared → Prop} (hC : h.get? C = some (excClassObj nm q C N bs bm hdct sn sub ab col dd k0 k1 k2 k3 k5 nid))
    (he : h.get? e = some oe) (hcls : oe.cls = .ref C') (hbase : bm.contains (.type "BaseException") = true) (LS : Looks M h (isSubtype (.ref C') (.ref C)) b) (hq : Q b ⟨h, g, d, t, os⟩) : wpAny M A (excMatches (.ref e) (.ref C)) Q E ⟨h, g, d, t, os⟩ := by
  have hb2 : (Value.ref C :: bm).contains (.type "BaseException") = true := by rw [List.contains_cons, hbase, Bool.or_true]
  have tnt := tc_notTuple
  unfold excMatches
  repeat (first | (with_reducible refine wpAny_loadPart_at he ?_; rw [hcls]) | with_reducible refine wpAny_loadPart_at hC ?_ | (with_reducible refine wpAny_isSubtype_exc hC ?_; rw [hb2]) | with_reducible refine LS.at ?_ | wp_step)
  cases b <;> (wp_walk; exact hq)

section
variable {X : Cx} {th : Ends → XJ}
theorem ph_as {x n : Str} {i : Nat} {C : Addr} {np hpos : Pos} {b0 : Stmt} {bs : List Stmt} {ts : TS} {rest : List ExceptHandler} (hN : X.N.Nodup) (hi : X.N[i]? = some n) (hk : X.env.kindOf n = some .local) (hg : Gl X x) (hm : X.mg x = some (.ref C)) (hC : ktsIn X.K C "BaseException" = true)
    (hs : ∀ e, PSs (X.suite e) (b0 :: bs) ts) (hr : PH X rest th) (hdb : (x == ("__debug__" : Str)) = false := by decide) : PH X (.ExceptHandler (some (.Name x np)) (some n) (b0 :: bs) hpos :: rest) (hAs X.K C i ts th) := by
  intro pins s σ H D e cls a0 F h
  obtain ⟨C', b, rfl, hb, h⟩ := h
  have I := F.inv.1
  obtain ⟨nm, qn, N, bs', bm, hdct, sn, sub, ab, col, dd, k0, k1, k2, k3, k5, nid, hCo, hbase, _⟩ := kts_cls I.kIn hC
  have F' := F
  obtain ⟨B, H0, S, I0, q1, q2, q3, q4, q5⟩ := F'
  obtain ⟨oe, he, hcls⟩ := q5.there
  refine wpAny_handleBy_cons (codeAny_handlers_test (ld_glob (X := X.suite e) (I.suite e) hg hm ?_ hdb)) (by intro q; cases q)
  have LS : Looks (model X.prog X.w) s.heap (isSubtype (.ref C') (.ref C)) b := looks_subIn I.kIn hb
  obtain ⟨sh, sg, sd, st, so⟩ := s
  refine exc_match hCo he hcls hbase LS ?_
  cases b with
  | false =>
    rw [if_neg Bool.false_ne_true] at h
    exact hr pins _ σ H D e _ a0 F h
  | true =>
    rw [if_pos rfl] at h
    refine codeAny_handlers_suite_as ?_
    refine lands_againW q5 fun h6 f6 up6 => ?_
    have F6 := FlyAt.step I0 q1 q2 q3 q4 q5 f6 up6
    obtain ⟨I6, hn⟩ := F6.held
    refine store_ok (v := .ref e) I6 hN hi (.inl hk) rfl (fun s7 I7 => ?_) (.inr hk)
    refine wpAny_mono (hs e pins s7 _ _ (behind i D) (I7.suite e) (h e hn)) (fun f s8 q => ?_) fun _ _ z => z.elim
    have go : ∀ {σ' : St} {H' : Hp} {f : Flow}, Inv (X.suite e) pins σ' H' s8 → (∀ s9, Inv X pins (σ'.set i none) H' s9 → SP X pins D f s9) → wpAny (model X.prog X.w) X.A (do bindName X.env n .none; unbindBehindTheSuite X.env n hpos) (fun _ s9 => SP X pins D f s9) X.xe s8 :=
      fun {σ' H' f} I8 k => unname_ok (I8.unsuite I.ok) hN hi hk k
    cases f with
    | next => obtain ⟨σ', H', I8, q⟩ := q; exact go I8 fun s9 I9 => ⟨_, H', I9, q⟩
    | brk => obtain ⟨σ', H', I8, q⟩ := q; exact go I8 fun s9 I9 => ⟨_, H', I9, q⟩
    | cont => obtain ⟨σ', H', I8, q⟩ := q; exact go I8 fun s9 I9 => ⟨_, H', I9, q⟩
    | ret u => obtain ⟨v, σ', H', I8, r, q⟩ := q; exact go I8 fun s9 I9 => ⟨v, _, H', I9, r, q⟩

noncomputable def tTry (tb : XJ → TS) (th : Ends → XJ) : TS := fun D σ H => tb (th D) D σ H
theorem ps_try {tb : XJ → TS} {body : List Stmt} {h0 : ExceptHandler} {hs : List ExceptHandler} {pos : Pos} (hb : ∀ pn J, PSs (X.tried pn J) body (tb J)) (hh : PH X (h0 :: hs) th) (hstk : X.stack = X.env :: X.outer := by rfl) (hfr : X.env.frame = some X.env.locals := by rfl) :
    PS X (.Try body (h0 :: hs) [] [] pos) (tTry tb th) := by
  intro pins s σ H D I h
  refine wpAny_Try_except (wpAny_mono (hb pins (th D) [] s σ H D (I.toPn.wish _) h) (fun f s1 q => ?_) fun u s1 q => ?_)
  · cases f with
    | next => obtain ⟨σ', H', I', q⟩ := q; exact wpAny_execs_nil ⟨σ', H', I'.unwish.ofPn, q⟩
    | brk => obtain ⟨σ', H', I', q⟩ := q; exact ⟨σ', H', I'.unwish.ofPn, q⟩
    | cont => obtain ⟨σ', H', I', q⟩ := q; exact ⟨σ', H', I'.unwish.ofPn, q⟩
    | ret u => obtain ⟨v, σ', H', I', r, q⟩ := q; exact ⟨v, σ', H', I'.unwish.ofPn, r, q⟩
  · obtain ⟨e, cls, a0, σ', H', rfl, ⟨B, H1, S, I1, q1, q2, q3, q4, q5⟩, hj⟩ := q
    have q5' : Heap.FlyingW B (X.env :: X.outer) e cls a0 s1.heap := hstk ▸ q5
    refine wpAny_looks_onW (L := X.env.locals) (I.ok.frames.trans (congrArg some hstk)) hfr q5' fun h4 held4 up4 => ?_
    refine wpAny_landsW held4 fun h5 fl5 up5 => ?_
    exact hh pins _ σ' H' D e cls a0 (FlyAt.step (s' := s1) I1.ofPn q1 q2 q3 q4 q5 (hstk ▸ fl5) (up4.trans up5)) hj
end


structure ExcC (K : Frag) (C : Addr) : Prop where
  cls : ktsIn K C "BaseException" = true
  ga : findIn K (.ref C) "__getattribute__" = some (some (.builtin "BaseException.__getattribute__"))
  gt : findIn K (.ref C) "__getattr__" = some none
  cl : findIn K (.ref C) "__class__" = some (some (.builtin "object.__class__"))
  ob : subIn K (.ref C) (.type "object") = some true
  be : subIn K (.ref C) (.type "BaseException") = some true
section
variable {prog : Program} {w : World} {A : Around} {E : Value → Shared → Prop} {h : Heap} {g : Array GenState} {d : Drawn} {t : Nat} {os : OsState} {a C : Addr} {o : Obj} {K : Frag}
theorem xcls_get {R : Result → Shared → Prop} (X : K.In h) (Z : ExcC K C) (hx : h.get? a = some o) (hc : o.cls = .ref C) (hq : R (.ok (.ret (.ref C))) ⟨h, g, d, t, os⟩) :
    codeAny (model prog w) A (.call (.builtin "getset_descriptor.__get__") ⟨[.builtin "object.__class__", .ref a, .ref C], []⟩) R ⟨h, g, d, t, os⟩ := by
  have ht : (⟨h, g, d, t, os⟩ : Shared).TypeIs (.builtin "object.__class__") "getset_descriptor" := F.typeOf_object_class
  have LS : Looks (model prog w) h (isSubtype (.ref C) (.type (".".intercalate ("object.__class__".cutAt '.').dropLast))) true := by rw [F.owner_object_class]; exact looks_subIn X Z.ob
  refine codeAny_call_builtin F.slot_gs_get.plain F.entry_gs_get (F.slot_gs_get.check _ _ _ _ _ _ _ _ ht (F.args_gs_get _ _ _) ?_)
  repeat (any_goals (first | assumption | (with_reducible refine wpAny_loadPart_at hx ?_; rw [hc]) | with_reducible refine LS.at ?_ | wp_step))
  refine ⟨Code.quiet_builtin _ (by decide +kernel), codeAny_builtin F.entry_object_class ?_⟩
  repeat (any_goals (first | assumption | (with_reducible refine wpAny_loadPart_at hx ?_; rw [hc]) | wp_step))
theorem xcls_entry {tk : Tok} {Q : Fin → Shared → Prop} (X : K.In h) (Z : ExcC K C) (hx : h.get? a = some o) (hc : o.cls = .ref C) (hq : Q (.done (.ret (.ref C))) ⟨h, g, d, t, os⟩) :
    wpAny (model prog w) A (Builtin.«object.__getattribute__» ⟨[.ref a, .str "__class__" tk], []⟩) Q E ⟨h, g, d, t, os⟩ := by
  have ht : (⟨h, g, d, t, os⟩ : Shared).TypeIs (.builtin "object.__class__") "getset_descriptor" := F.typeOf_object_class
  have L1 : Looks (model prog w) h (typeLookup (.ref C) "__class__") (some (.builtin "object.__class__")) := looks_findIn X Z.cl
  have f5 := F.typeOf_object_class
  have f6 := F.slot_gs_get.lookup
  have f7 := F.slot_gs_set.lookup
  repeat (any_goals (first | assumption | (with_reducible refine wpAny_loadPart_at hx ?_; rw [hc]) | with_reducible refine L1.at ?_ | wp_step))
  refine xcls_get X Z hx hc ?_
  repeat (any_goals (first | assumption | wp_step))
theorem xcls_check {M : Model} {nameV : Value} {Q : Unit → Shared → Prop} (X : K.In h) (Z : ExcC K C) (hx : h.get? a = some o) (hc : o.cls = .ref C) (hq : Q () ⟨h, g, d, t, os⟩) :
    wpAny M A (checkBuiltinCall "BaseException.__getattribute__" ⟨[.ref a, nameV], []⟩) Q E ⟨h, g, d, t, os⟩ := by
  have hk : builtinKind "BaseException.__getattribute__" = some .slot := by decide +kernel
  have hsp : splitId "BaseException.__getattribute__" = some ("BaseException", "__getattribute__") := by decide +kernel
  have LS : Looks M h (isSubtype (.ref C) (.type "BaseException")) true := looks_subIn X Z.be
  have ha := F.args_bexc_ga (.ref a) nameV
  simp only [checkBuiltinCall, hk, hsp]
  refine wpAny_bind ?_
  unfold isInstance
  repeat (first | (with_reducible refine wpAny_loadPart_at hx ?_; rw [hc]) | with_reducible refine LS.at ?_ | wp_step)
  exact hq
theorem xcls_call {tk : Tok} {R : Result → Shared → Prop} (X : K.In h) (Z : ExcC K C) (hx : h.get? a = some o) (hc : o.cls = .ref C) (hq : R (.ok (.ret (.ref C))) ⟨h, g, d, t, os⟩) :
    codeAny (model prog w) A (.call (.builtin "BaseException.__getattribute__") ⟨[.ref a, .str "__class__" tk], []⟩) R ⟨h, g, d, t, os⟩ :=
  codeAny_call_builtin F.attr_ValueError.ga.plain F.entry_bexc_ga (xcls_check X Z hx hc (xcls_entry X Z hx hc hq))
theorem xcls_by {tk : Tok} {fill expr : Bool} {Q : Value → Shared → Prop} (X : K.In h) (Z : ExcC K C) (hx : h.get? a = some o) (hc : o.cls = .ref C) (hq : Q (.ref C) ⟨h, g, d, t, os⟩) :
    wpAny (model prog w) A (getAttrBy (.ref a) (.str "__class__" tk) fill expr) Q E ⟨h, g, d, t, os⟩ := by
  have f3 := F.attr_ValueError.ga.bind (.ref a)
  have hx0 : (expr && onTheHeap (Value.builtin "BaseException.__getattribute__")) = false := by cases expr <;> rfl
  have hx2 : (Value.builtin "BaseException.__getattribute__" == Value.builtin "object.__getattribute__") = false := by decide +kernel
  have hx1 : (onTheHeap (Value.ref C) && Value.builtin "BaseException.__getattribute__" == Value.builtin "object.__getattribute__") = false := by rw [hx2]; rfl
  have L1 : Looks (model prog w) h (typeLookup (.ref C) "__getattribute__") (some (.builtin "BaseException.__getattribute__")) := looks_findIn X Z.ga
  have L2' : Looks (model prog w) h (typeLookup (.ref C) "__getattr__") none := looks_findIn X Z.gt
  repeat (any_goals (first | assumption | (with_reducible refine wpAny_loadPart_at hx ?_; rw [hc]) | with_reducible refine L1.at ?_ | with_reducible refine L2'.at ?_ | wp_step))
  refine xcls_call X Z hx hc ?_
  repeat (any_goals (first | assumption | wp_step))
theorem xcls_attr {Q : Option Value → Shared → Prop} (X : K.In h) (Z : ExcC K C) (hx : h.get? a = some o) (hc : o.cls = .ref C) (hq : Q (some (.ref C)) ⟨h, g, d, t + 1, os⟩) : wpAny (model prog w) A (getAttr? (.ref a) "__class__") Q E ⟨h, g, d, t, os⟩ := by
  unfold getAttr? getAttrBy?
  repeat (any_goals (first | assumption | with_reducible apply xcls_by X Z hx hc | wp_step))
theorem kitx_exc (Z : ExcC K C) : KitX K (.ref a) (.ref C) (fun h => ∃ o, h.get? a = some o ∧ o.cls = .ref C) where
  ty := fun M h X ⟨o, e, c⟩ => by
    have := (Looks.ld (M := M) (part := none) e).andThen (f := fun ob => pure ob.cls) .now
    rw [c] at this
    exact this
  it := fun M h X _ => by
    obtain ⟨nm, qn, N, bs', bm, hdct, sn, sub, ab, col, dd, k0, k1, k2, k3, k5, nid, hCo, _, _⟩ := kts_cls X Z.cls
    intro A' Q' E' s' k q
    unfold isType loadHead
    exact wpAny_bind (wpAny_loadPart (k _ _ hCo) (wpAny_pure q))
  ne := fun h tp dd its n sl X htp => by
    obtain ⟨nm, qn, N, bs', bm, hdct, sn, sub, ab, col, dd, k0, k1, k2, k3, k5, nid, hCo, _, _⟩ := kts_cls X Z.cls
    refine Bool.eq_false_iff.mpr fun q => ?_
    have e : C = tp := Value.ref.inj (beq_iff_eq.mp q)
    subst e
    have z := congrArg Obj.cls (Option.some.inj (hCo.symm.trans htp))
    have z2 : ("type" : String) = "tuple" := by injection z
    exact absurd z2 (by decide)
  ca := fun {prog w A E Q s} X ⟨o, e, c⟩ k => by
    obtain ⟨sh, sg, sd, st, so⟩ := s
    exact xcls_attr X Z e c k
end
section
variable {X : Cx} {K : Frag}

theorem kcall_isiX (hK : X.K = K := by rfl) : CallR X (.builtin "isinstance") (fun xs H Q => ∃ (e C : Addr) (y : V) (c : Value) (b : Bool), xs = [.ref e, y] ∧ RelV y c ∧ (∀ u, RelV y u → u = c) ∧ H e = some (excO e (.ref C)) ∧ ExcC K C ∧ kitOne K (.ref C) c = some b ∧ Q (.bl b) H) := by
  subst hK
  intro pins s σ H xs us Q I r h
  obtain ⟨e, C, y, c, b, rfl, _, hy, hH, Z, kk, q⟩ := h
  obtain ⟨u, v, rfl, rx, rt⟩ := vals2 r
  cases rx
  cases hy v rt
  have ho := I.hok e _ hH
  obtain ⟨⟨o, vs, e1, c1, _⟩, _⟩ := ho
  exact kia_one (kitx_exc Z) I.kIn ⟨o, e1, c1⟩ kk (fun z => nomatch z) fun tk => ⟨.bl b, H, I.tok tk, rfl, q⟩
theorem ref_only {D : Addr} : ∀ u, RelV (.ref D) u → u = .ref D := fun u h => h
theorem ty_only {n : String} : ∀ u, RelV (.ty n) u → u = .type n := fun u h => h
end
end L2

set_option Elab.async false
set_option linter.all false
set_option maxRecDepth 100000
set_option maxHeartbeats 4000000

namespace L2
open PySem PySem.Spec PyProof.Rows

noncomputable def Ite (K : PySem.W.Frag) (a : Addr) : It :=
  ⟨fun i H => ∃ xs x, SqL K H a xs ∧ xs[i]? = some x, fun i H x H' => ∃ p v, H p = none ∧ x = .ref p ∧ H' = upd H p (.tup [.int i, v]) ∧ ∀ xs, SqL K H a xs → xs[i]? = some v, fun i H => ∃ xs, SqL K H a xs ∧ xs.length ≤ i⟩
theorem turn_enum {P : Program} {w : World} {K : PySem.W.Frag} {es : List Expr} {x1 : Nat} {tpos : Pos} (a e it : Addr) (hne : e ≠ it) : Turn P w K (.Tuple es x1 tpos) (Ite K a) [e, it] e (fun i h => (∃ old, IsEnum h e it (i : Int) old) ∧ h.IsListIter it a i) where
  mem := by simp
  obj := fun i h st b hb => by
    obtain ⟨⟨old, h1⟩, o, h2, c, d⟩ := st
    rcases List.mem_cons.mp hb with rfl | hb
    · exact ⟨_, h1, fun v z => by cases (show Data.fields _ = Data.cell v from z)⟩
    · have z : b = it := by simpa using hb
      subst z
      exact ⟨o, h2, fun v z => by rw [d] at z; cases z⟩
  keep := fun i h h' st k => by
    obtain ⟨⟨old, h1⟩, h2⟩ := st
    exact ⟨⟨old, k e (by simp) _ h1⟩, h2.at fun o z => k it (by simp) o z⟩
  item := by
    intro X hP hw hK hc i pins s σ H E I hf st hg
    subst hP hw hK
    obtain ⟨⟨old, h1⟩, h2⟩ := st
    obtain ⟨xs, x, hq, hx⟩ := hg
    obtain ⟨its, rv, p, hz⟩ := I.list hq
    obtain ⟨u, hu, ru⟩ := rv.get hx
    have fe := hf e (by simp)
    have fi := hf it (by simp)
    have lte : e < s.heap.objs.size := Heap.lt_size h1
    have hfresh : H s.heap.objs.size = none := I.hok.fresh (Nat.le_refl _)
    refine wpAny_pyNext_enum_item h1 h2 p.isList (x := u) (by simpa using hu) hne fun h' hout hit' htup hsz hk => ?_
    refine ⟨_, rfl, wpAny_letOwnedTupleGo_enum hout fun h3 hen hsb => ?_⟩
    replace hsb : Heap.SameBut e h' h3 := hsb
    have kk : ∀ b o, b ≠ e → b ≠ it → s.heap.get? b = some o → h3.get? b = some o := fun b o n1 n2 z => (hsb.2 b n1).trans (hk b o n1 n2 z)
    have ht3 : h3.get? s.heap.objs.size = some { cls := .type "tuple", data := .seq #[.int i s.toks, u] } := (hsb.2 _ (Nat.ne_of_gt lte)).trans htup
    have hi3 : h3.IsListIter it a (i + 1) := hit'.at fun o z => (hsb.2 it hne.symm).trans z
    have nch : ∀ b, b ∉ [e, it] → b ≠ e ∧ b ≠ it := fun b hb => by simpa using hb
    have ntr : ∀ b v, H b = some v → b ≠ e ∧ b ≠ it := fun b v z => ⟨ne_of_none z fe.1, ne_of_none z fi.1⟩
    have nsz : ∀ b v, H b = some v → b ≠ s.heap.objs.size := fun b v z => ne_of_none z hfresh
    refine ⟨.ref s.heap.objs.size, upd H s.heap.objs.size (.tup [.int i, x]), ?_, rfl, ⟨s.heap.objs.size, x, hfresh, rfl, rfl, fun ys hy => by rw [I.list_inj hy hq]; exact hx⟩, ⟨⟨_, hen⟩, hi3⟩, fun b hb => ?_⟩
    · refine Inv.step (s := s) (h' := h3) (t' := s.toks + 1) (H' := upd H s.heap.objs.size (.tup [.int i, x])) I (g' := s.gens) (d' := s.drawn) (ch := [e, it]) (fun b hb => ?_) (fun b o _ _ hb z _ => kk b o (nch b hb).1 (nch b hb).2 z) (fun b o _ _ hb z _ => ⟨o.slots, kk b o (nch b hb).1 (nch b hb).2 z⟩) (fun b o hb z n => ?_) (fun b o hb z => ⟨o, kk b o (nch b hb).1 (nch b hb).2 z⟩)
        (fun b ys z => by rw [upd_ne (nsz b _ z)]; exact z) (fun b o v z => by rw [upd_ne (nsz b _ z)]; exact z) (fun b ps z => ⟨#[], by rw [upd_ne (nsz b _ z), z]; simp⟩) (fun m hm => ?_) (fun b v z => ?_) I.bare
      · rcases List.mem_cons.mp hb with rfl | hb
        · exact ⟨fe.2.2.2.1, fe.2.1, fe.2.2.2.2.1, fe.2.2.2.2.2⟩
        · have z : b = it := by simpa using hb
          subst z
          exact ⟨fi.2.2.2.1, fi.2.1, fi.2.2.2.2.1, fi.2.2.2.2.2⟩
      · rw [upd_ne (Nat.ne_of_lt (Heap.lt_size z))]
        exact n
      · obtain ⟨o, es', ep, ho, r⟩ := hm
        exact ⟨o, es', ep, kk _ o fe.2.1.symm fi.2.1.symm ho, r⟩
      · by_cases hb : b = s.heap.objs.size
        · subst hb
          rw [upd_same] at z
          cases z
          exact ⟨(by show (2 : Nat) ≤ sizeLine; decide), [.int i s.toks, u], .cons ⟨_, rfl⟩ (.cons ru .nil), ⟨_, ht3, rfl, rfl, _, rfl⟩⟩
        · rw [upd_ne hb] at z
          refine (I.hok b v z).stay (fun c y hc' q => ?_) (fun c q => by rw [upd_ne (nsz c _ q)]; exact q) fun c ys q => by rw [upd_ne (nsz c _ q)]; exact q
          rcases hc' with rfl | hc'
          · exact kk _ _ (ntr _ _ z).1 (ntr _ _ z).2 q
          · exact kk _ _ (ntr _ _ hc').1 (ntr _ _ hc').2 q
    · have lb : b < s.heap.objs.size := by
        rcases List.mem_cons.mp hb with rfl | hb
        · exact lte
        · have z : b = it := by simpa using hb
          subst z
          obtain ⟨o, z, _⟩ := h2
          exact Heap.lt_size z
      rw [upd_ne (Nat.ne_of_lt lb)]
      exact (hf b hb).1
  done := by
    intro X hP hw hK hc i pins s σ H E I hf st hg
    subst hP hw hK
    obtain ⟨⟨old, h1⟩, h2⟩ := st
    obtain ⟨xs, hq, hx⟩ := hg
    obtain ⟨its, rv, p, hz⟩ := I.list hq
    obtain ⟨f0, f1, f2, f3, f4, f5⟩ := hf it (by simp)
    have hl := rv.length
    exact wpAny_pyNext_enum_end (I.ok.hd hc) h1 h2 p.isList (by simp; omega) fun h' eb => ⟨rfl, I.turned (t' := s.toks) (fun b o hb z => eb b o hb z) f0 f1 f3 f4 f5⟩
  self := fun _ _ _ _ _ st h => by
    obtain ⟨⟨old, h1⟩, h2⟩ := st
    exact wpAny_pyIter_enum h1 h

noncomputable def iEnum (K : PySem.W.Frag) (ta : TA) : TI := fun σ H R => ta σ H fun vs H1 => ∃ a, vs = [.ref a] ∧ (∃ xs, SqL K H1 a xs) ∧ R (Ite K a) H1
theorem boot_enumerateT : bootBuiltins "enumerate" = some (.type "enumerate") := by decide +kernel
theorem pi_enum {X : Cx} {K : PySem.W.Frag} {es : List Expr} {x1 : Nat} {tpos : Pos} {a : Expr} {ta : TA} {p pos : Pos} (hg : Gl X "enumerate") (hm : X.mg "enumerate" = none) (ha : PA X [a] ta) (hK : X.K = K := by rfl) (hs : starEach [a] X.env = [(false, eval a X.env)] := by rfl) : PI X (.Tuple es x1 tpos) (.Call (.Name "enumerate" p) [a] [] pos) (iEnum K ta) := by
  subst hK
  intro pins s σ H R I h
  refine Call_ (ld_blt I hg hm boot_enumerateT (PyProof.Rows.callWith_type1 (thn (ha pos pins s σ H _ I h) fun us s1 hm1_ => ?_) hs rfl))
  obtain ⟨vs, H1, I1, r1, q1⟩ := hm1_
  obtain ⟨l, e, ⟨xs, hq⟩, q⟩ := q1
  subst e
  cases r1 with
  | cons r rr =>
    cases rr
    cases r
    obtain ⟨its, rv, pl, hz⟩ := I1.list hq
    refine call_enumerate_list pl.isList fun h' hen hit hsz hk => ?_
    refine wpAny_pyIter_enum hen ⟨s1.heap.objs.size + 1, [s1.heap.objs.size + 1, s1.heap.objs.size], _, _, H1, rfl, I1.kept (t' := s1.toks) hk, turn_enum l _ _ (Nat.succ_ne_self _), ⟨⟨_, hen⟩, hit⟩, fun b hb => ?_, q⟩
    have lb : s1.heap.objs.size ≤ b := by
      rcases List.mem_cons.mp hb with rfl | hb
      · exact Nat.le_succ _
      · have z : b = s1.heap.objs.size := by simpa using hb
        rw [z]
        exact Nat.le_refl _
    exact I1.fpOk lb (I1.hok.fresh lb)
section
variable {g : TG} {tc : TT} {te : TE} {D : Addr} {Q : Hp → Prop} {τ : St} {H : Hp}
theorem comp_enum {K : PySem.W.Frag} {a : Addr} {xs : List V} (Pv : Nat → List V → St → Hp → Prop) (h0 : Pv 0 [] τ H) (hl : ∀ i ys τ H, i ≤ xs.length → Pv i ys τ H → SqL K H a xs)
    (hs : ∀ i x ys τ H p, xs[i]? = some x → Pv i ys τ H → H p = none → g (.ref p) τ (upd H p (.tup [.int i, x])) fun τ2 H2 => tc τ2 H2 fun b H3 => if b = true then te τ2 H3 fun y H4 => H4 D = some (.lst ys) ∧ ys.length < sizeLine ∧ Pv (i + 1) (ys ++ [y]) τ2 (upd H4 D (.lst (ys ++ [y]))) else Pv (i + 1) ys τ2 H3)
    (hd : ∀ ys τ H, Pv xs.length ys τ H → Q H) : RunC (Ite K a) g tc te D Q τ H := by
  refine ⟨fun i m ys τ H => m = xs.length - i ∧ i ≤ xs.length ∧ Pv i ys τ H, ⟨xs.length, by simp, Nat.zero_le _, h0⟩, ?_⟩
  rintro i m ys τ H ⟨rfl, hi, pp⟩
  have q := hl i ys τ H hi pp
  by_cases hlt : i < xs.length
  · refine .inr ⟨⟨xs, xs[i], q, by simp [hlt]⟩, Pv (i + 1), fun ys' τ' H' p' => ⟨xs.length - (i + 1), by omega, rfl, hlt, p'⟩, fun x H' y => ?_⟩
    obtain ⟨p, v, hp, rfl, rfl, y⟩ := y
    exact hs i v ys τ _ p (y xs q) pp hp
  · have e : i = xs.length := by omega
    subst e
    exact .inl ⟨⟨xs, q, Nat.le_refl _⟩, hd ys τ H pp⟩
end
end L2

set_option Elab.async false
set_option linter.all false
set_option maxRecDepth 100000
set_option maxHeartbeats 4000000

namespace L2
open PySem PySem.Spec PyProof.Rows

theorem Inv.turnedN {X : Cx} {pins : List (Addr × Obj)} {σ : St} {H : Hp} {s : Shared} {h' : Heap} {t' : Nat} {fp : List Addr} (I : Inv X pins σ H s) (k : ∀ b o, b ∉ fp → s.heap.get? b = some o → h'.get? b = some o) (hf : ∀ b ∈ fp, FpOk X pins H b) :
    Inv X pins σ H { s with heap := h', toks := t' } := by
  have ntr : ∀ c o, H c = some o → c ∉ fp := fun c o e hm => by rw [(hf c hm).1] at e; cases e
  refine I.step (g' := s.gens) (d' := s.drawn) (ch := fp) (fun b hb => ?_) (fun b o _ _ hc e _ => k b o hc e) (fun b o _ _ hc e _ => ⟨o.slots, k b o hc e⟩) (fun _ _ _ _ n => n)
    (fun b o hc e => ⟨o, k b o hc e⟩) (fun _ _ e => e) (fun _ _ _ e => e) (fun b ps e => ⟨#[], by rw [e]; simp⟩) (fun m hm => ?_) (fun b u e => ?_) I.bare
  · have f := hf b hb
    exact ⟨f.2.2.2.1, f.2.1, f.2.2.2.2.1, f.2.2.2.2.2⟩
  · obtain ⟨o, es', ep, ho, r⟩ := hm
    exact ⟨o, es', ep, k _ o (fun z => (hf _ z).2.1 rfl) ho, r⟩
  · refine (I.hok b u e).stay (fun c y hc' q => ?_) (fun c q => q) fun c ys q => q
    rcases hc' with rfl | hc'
    · exact k _ _ (ntr _ _ e) q
    · exact k _ _ (ntr _ _ hc') q

section
variable {g : TG} {tc : TT} {te : TE} {D : Addr} {Q : Hp → Prop} {τ : St} {H : Hp}
end


theorem op_mulX {X : Cx} : OpR X (binaryOp .Mult) (rI IntMulOk fun i j => .int (i * j)) := opI fun _ _ _ _ _ _ _ hc q => mul_int q hc
theorem bits_le {i : Int} {m : Nat} (h : i.natAbs < 2 ^ m) : Builtin.Int.intBits i ≤ m := by
  unfold Builtin.Int.intBits
  split
  · exact Nat.zero_le _
  · rename_i h0
    have hne : i.natAbs ≠ 0 := by
      intro z
      exact h0 (by have : i = 0 := by omega
                   simp [this])
    exact (Nat.log2_lt hne).mpr h
theorem mulok {i j : Int} {m n : Nat} (hi : i.natAbs < 2 ^ m) (hj : j.natAbs < 2 ^ n) (h : m + n ≤ 134217728) : IntMulOk i j := by
  have h1 := bits_le hi
  have h2 := bits_le hj
  have h3 : ¬ ((Builtin.Int.intBits i : Nat) : Int) + ((Builtin.Int.intBits j : Nat) : Int) > ((bitsLine : Nat) : Int) := by
    have : bitsLine = 134217728 := by decide
    omega
  unfold IntMulOk
  intro hz
  simp only [Bool.and_eq_true] at hz
  have h4 := hz.2
  unfold Builtin.Int.intTooBig at h4
  exact h3 (by simpa using h4)
end L2


namespace L2
open PySem PySem.W PySem.Calls PyProof.Rows
end L2

set_option Elab.async false
set_option linter.all false
set_option maxRecDepth 100000
set_option maxHeartbeats 4000000

namespace L2
open PySem PySem.Spec PyProof.Rows

section
variable {X : Cx} {pins : List (Addr × Obj)} {σ : St} {H : Hp} {s : Shared} {a : Addr} {kvs : List (Key × V)}
theorem Inv.freeze (I : Inv X pins σ H s) (e : H a = some (.dK kvs)) : ∃ o, Inv X pins σ (upd H a (.frz o (.dK kvs))) s := by
  obtain ⟨z, y, vs, r, o, es, ep, ho, c⟩ := id (I.hok a _ e)
  refine ⟨o, ?_⟩
  have ne : ∀ b u, H b = some u → u ≠ .dK kvs → b ≠ a := fun b u q n z => by rw [z, e] at q; exact n (Option.some.inj q).symm
  have up : ∀ b u, H b = some u → u ≠ .dK kvs → upd H a (.frz o (.dK kvs)) b = some u := fun b u q n => by rw [upd_ne (ne b u q n)]; exact q
  refine I.step (g' := s.gens) (t' := s.toks) (d' := s.drawn) (h' := s.heap) (H' := upd H a (.frz o (.dK kvs))) (ch := []) (fun _ q => nomatch q) (fun b ob _ _ _ q _ => q) (fun b ob _ _ _ q _ => ⟨ob.slots, q⟩) (fun b ob _ q n => by rw [upd_ne (fun z => by rw [z, e] at n; cases n)]; exact n) (fun b ob _ q => ⟨ob, q⟩)
    (fun b xs q => up b _ q (by intro z; cases z)) (fun b ob u q => up b _ q (by intro z; cases z)) (fun b ps q => ⟨#[], by rw [up b _ q (by intro z; cases z)]; simp⟩) (fun m q => q) (fun b u q => ?_) I.bare
  by_cases hb : b = a
  · subst hb
    rw [upd_same] at q
    cases q
    exact ⟨ho, (I.hok b _ e).stay (fun _ _ _ q => q) (fun c q => up c _ q (by intro z; cases z)) fun c xs q => up c _ q (by intro z; cases z)⟩
  · rw [upd_ne hb] at q
    exact (I.hok b u q).stay (fun _ _ _ q => q) (fun c q => up c _ q (by intro z; cases z)) fun c xs q => up c _ q (by intro z; cases z)
theorem Inv.thaw {o : Obj} (I : Inv X pins σ H s) (e : H a = some (.frz o (.dK kvs))) (hb : ∀ ob u, X.H₀ a ≠ some (.frz ob u)) : Inv X pins σ (upd H a (.dK kvs)) s := by
  have ne : ∀ b u, H b = some u → u ≠ .frz o (.dK kvs) → b ≠ a := fun b u q n z => by rw [z, e] at q; exact n (Option.some.inj q).symm
  have up : ∀ b u, H b = some u → u ≠ .frz o (.dK kvs) → upd H a (.dK kvs) b = some u := fun b u q n => by rw [upd_ne (ne b u q n)]; exact q
  have no : ∀ b, H b = none → upd H a (.dK kvs) b = none := fun b n => by rw [upd_ne (fun z => by rw [z, e] at n; cases n)]; exact n
  refine ⟨I.ok, I.os, I.bare, ⟨I.base.keep, I.base.slot, fun b ob q n x => no b (I.base.free b ob q n x), I.base.there, fun b xs q => up b _ (I.base.tups b xs q) (by intro z; cases z), fun b ob u q => ?_, fun b ps q => ?_⟩, I.loc, I.cell, no _ I.free, fun x c q => no _ (I.freeC x c q), fun p hp => ?_, fun b u q => ?_, I.len⟩
  · have hne : b ≠ a := fun z => hb ob u (z ▸ q)
    rw [upd_ne hne]
    exact I.base.frzs b ob u q
  · obtain ⟨m, q'⟩ := I.base.tbls b ps q
    exact ⟨m, up b _ q' (by intro z; cases z)⟩
  · obtain ⟨p1, p2, p3⟩ := I.pin p hp
    exact ⟨p1, no _ p2, p3⟩
  · by_cases hba : b = a
    · subst hba
      rw [upd_same] at q
      cases q
      obtain ⟨_, q'⟩ := I.hok b _ e
      exact q'.stay (fun _ _ _ q => q) (fun c q => up c _ q (by intro z; cases z)) fun c xs q => up c _ q (by intro z; cases z)
    · rw [upd_ne hba] at q
      exact (I.hok b u q).stay (fun _ _ _ q => q) (fun c q => up c _ q (by intro z; cases z)) fun c xs q => up c _ q (by intro z; cases z)
theorem Inv.notfrz (I : Inv X pins σ H s) (e : H a = some (.dK kvs)) : ∀ ob u, X.H₀ a ≠ some (.frz ob u) := fun ob u q => by
  have := I.base.frzs a ob u q
  rw [e] at this
  cases this
theorem Inv.nodupK (I : Inv X pins σ H s) (e : Rd H a (.dK kvs)) : (kvs.map (·.1)).Nodup := by
  obtain ⟨z, hd, vs, rel, o, es, ep, _, _, _, _, _, hn⟩ := dk_rd I.hok e
  rw [rel.keys]
  exact hn
end


noncomputable def tFrz (t : TE) : TE := fun σ H Q => t σ H Q ∨ ∃ (a : Addr) (kvs : List (Key × V)), H a = some (.dK kvs) ∧ ((kvs.map (·.1)).Nodup → ∀ o : Obj, t σ (upd H a (.frz o (.dK kvs))) fun v H' => H' a = some (.frz o (.dK kvs)) ∧ Q v (upd H' a (.dK kvs)))
noncomputable def sFrz (t : TS) : TS := fun D σ H => t D σ H ∨ ∃ (a : Addr) (kvs : List (Key × V)), H a = some (.dK kvs) ∧ ((kvs.map (·.1)).Nodup → ∀ o : Obj, t ⟨fun σ' H' => H' a = some (.frz o (.dK kvs)) ∧ D.nx σ' (upd H' a (.dK kvs)), fun v H' => H' a = some (.frz o (.dK kvs)) ∧ D.rt v (upd H' a (.dK kvs)),
  fun σ' H' => H' a = some (.frz o (.dK kvs)) ∧ D.bk σ' (upd H' a (.dK kvs)), fun σ' H' => H' a = some (.frz o (.dK kvs)) ∧ D.ct σ' (upd H' a (.dK kvs))⟩ σ (upd H a (.frz o (.dK kvs))))
theorem pe_frz {X : Cx} {e : Expr} {t : TE} (h : PE X e t) : PE X e (tFrz t) := by
  intro pins s σ H Q I hw
  rcases hw with hw | ⟨a, kvs, ea, hw⟩
  · exact h pins s σ H Q I hw
  · obtain ⟨o, I'⟩ := I.freeze ea
    have hb := I.notfrz ea
    refine thn (h pins s σ _ _ I' (hw (I.nodupK (.inl ea)) o)) fun u s' ⟨v, H', I2, r, e2, q⟩ => ⟨v, _, I2.thaw e2 hb, r, q⟩
theorem ps_frz {X : Cx} {st : Stmt} {t : TS} (h : PS X st t) : PS X st (sFrz t) := by
  intro pins s σ H D I hw
  rcases hw with hw | ⟨a, kvs, ea, hw⟩
  · exact h pins s σ H D I hw
  · obtain ⟨o, I'⟩ := I.freeze ea
    have hb := I.notfrz ea
    refine thn (h pins s σ _ _ I' (hw (I.nodupK (.inl ea)) o)) fun f s' hq => ?_
    cases f with
    | next => obtain ⟨σ', H', I2, e2, q⟩ := hq; exact ⟨σ', _, I2.thaw e2 hb, q⟩
    | brk => obtain ⟨σ', H', I2, e2, q⟩ := hq; exact ⟨σ', _, I2.thaw e2 hb, q⟩
    | cont => obtain ⟨σ', H', I2, e2, q⟩ := hq; exact ⟨σ', _, I2.thaw e2 hb, q⟩
    | ret u => obtain ⟨v, σ', H', I2, r, e2, q⟩ := hq; exact ⟨v, σ', _, I2.thaw e2 hb, r, q⟩

theorem frz_at {X : Cx} {pins : List (Addr × Obj)} {σ : St} {H : Hp} {s : Shared} {a : Addr} {kvs : List (Key × V)} {o : Obj} (I : Inv X pins σ H s) (e : H a = some (.frz o (.dK kvs))) :
    s.heap.get? a = some o ∧ (a == sysModules) = false ∧ kvs.length ≤ sizeLine ∧ ∃ vs es ep, KV kvs vs ∧ o.data = .dict es ep ∧ es.size = kvs.length ∧ o.ExactDict ∧ s.heap.DictAt (mixKind X.prog X.w) a vs ep := by
  obtain ⟨ho, z, y, vs, r, o', es, ep, ho', ex, hd, hk, hp, hn⟩ := I.hok a _ e
  rw [ho] at ho'
  cases ho'
  refine ⟨ho, y, z, vs, es, ep, r, hd, ?_, ex, ⟨o, es, ho, ex, hd, hk, hp, hn⟩⟩
  rw [r.length, ← hp.length]
  simp
theorem KV.getV : ∀ {kvs : List (Key × V)} {vs : List (Key × Value)} {i : Nat} {k : Key} {v : V}, KV kvs vs → kvs[i]? = some (k, v) → ∃ u, vs[i]? = some (k, u) ∧ RelV v u
  | _, _, i, k, v, .nil, e => by simp at e
  | _, _, 0, k, v, .cons (b := q) r t, e => by
    simp only [List.getElem?_cons_zero, Option.some.injEq] at e
    subst e
    obtain ⟨k', u⟩ := q
    have e1 : k = k' := r.1
    subst e1
    exact ⟨u, by simp, r.2⟩
  | _, _, i + 1, k, v, .cons r t, e => by
    obtain ⟨u, e1, e2⟩ := KV.getV (i := i) t (by simpa using e)
    exact ⟨u, by simpa using e1, e2⟩
theorem is_kV {P : Program} {w : World} {k : Key} {u : Value} (h : (mixKind P w).is k u = true) : RelV (kV k) u := by
  rcases keyIs_shape h with ⟨i, t, rfl, rfl⟩ | ⟨x, t, rfl, rfl⟩
  · exact ⟨t, rfl⟩
  · exact ⟨t, rfl⟩


noncomputable def Itm (d : Addr) (o : Obj) : It :=
  ⟨fun i H => ∃ kvs k v, H d = some (.frz o (.dK kvs)) ∧ kvs[i]? = some (k, v),
   fun i H x H' => ∃ p k v, H p = none ∧ x = .ref p ∧ H' = upd H p (.tup [kV k, v]) ∧ ∀ kvs, H d = some (.frz o (.dK kvs)) → kvs[i]? = some (k, v),
   fun i H => ∃ kvs, H d = some (.frz o (.dK kvs)) ∧ kvs.length ≤ i⟩
theorem pyIter_itemiter {prog : Program} {w : World} {A : Around} {E : Value → Shared → Prop} {s : Shared} {it d : Addr} {i n ep : Nat} {ok ov : Value} {Q : Value → Shared → Prop} (hit : IsItemIter s.heap it d i n ep ok ov) (h : Q (.ref it) s) : wpAny (model prog w) A (pyIter (.ref it)) Q E s := by
  have hT : s.TypeIs (.ref it) "dict_itemiterator" := ⟨_, hit, rfl⟩
  refine wpAny_pyIter_slot hT PySem.F.slot_dict_itemiterator_iter (wpAny_call_entry PySem.F.slot_dict_itemiterator_iter hT (entryFor_alias (id' := "dict_keyiterator.__iter__") (by kernel_rfl) rfl (by decide +kernel) (by kernel_rfl) : entryFor table "dict_itemiterator.__iter__" = some Builtin.«dict_keyiterator.__iter__») ?_ (PySem.F.args_dict_itemiterator_iter_1 _))
  show wpAny _ _ (ret (.ref it)) _ _ s
  exact wpAny_pure ⟨_, rfl, "dict_itemiterator", _, hT, PySem.F.slot_dict_itemiterator_next.lookup, h⟩
theorem turn_items {P : Program} {w : World} {K : PySem.W.Frag} {tes : List Expr} {x1 : Nat} {tpos : Pos} (d it : Addr) (o : Obj) {es : Array DictEntry} {ep : Nat} (hd : o.data = .dict es ep) :
    Turn P w K (.Tuple tes x1 tpos) (Itm d o) [it] it (fun i h => ∃ ok ov, IsItemIter h it d i es.size ep ok ov) where
  mem := by simp
  obj := fun i h st b hb => by
    obtain ⟨ok, ov, h1⟩ := st
    have z : b = it := by simpa using hb
    subst z
    exact ⟨_, h1, fun v q => by cases (show Data.fields _ = Data.cell v from q)⟩
  keep := fun i h h' st k => by
    obtain ⟨ok, ov, h1⟩ := st
    exact ⟨ok, ov, k it (by simp) _ h1⟩
  item := by
    intro X hP hw hK hc i pins s σ H E I hf st hg
    subst hP hw hK
    obtain ⟨ok, ov, hit⟩ := st
    obtain ⟨kvs, k, v, hz, hx⟩ := hg
    obtain ⟨ho, hsys, hl, vs, es', ep', rel, hd', hsz, ex, hm⟩ := frz_at I hz
    rw [hd] at hd'
    cases hd'
    obtain ⟨u, hu, ru⟩ := rel.getV hx
    have hn : es.size = vs.length := by rw [hsz, rel.length]
    have fi := hf it (by simp)
    have lti : it < s.heap.objs.size := Heap.lt_size hit
    have hfresh : H s.heap.objs.size = none := I.hok.fresh (Nat.le_refl _)
    rw [hn] at hit
    refine wpAny_pyNext_items_item hit hm hu fun key h' hkey hout htup hsz' hk => ?_
    refine ⟨_, rfl, wpAny_letOwnedTupleGo_items hout fun h3 hen hsb => ?_⟩
    replace hsb : Heap.SameBut it h' h3 := hsb
    have kk : ∀ b ob, b ∉ [it] → s.heap.get? b = some ob → h3.get? b = some ob := fun b ob n z => by
      have n1 : b ≠ it := by simpa using n
      exact (hsb.2 b n1).trans (hk b ob n1 z)
    have ht3 : h3.get? s.heap.objs.size = some { cls := .type "tuple", data := .seq #[key, u] } := (hsb.2 _ (Nat.ne_of_gt lti)).trans htup
    have ntr : ∀ c ob, H c = some ob → c ∉ [it] := fun c ob e hm => by rw [(hf c hm).1] at e; cases e
    have nsz : ∀ b ob, H b = some ob → b ≠ s.heap.objs.size := fun b ob z => ne_of_none z hfresh
    refine ⟨.ref s.heap.objs.size, upd H s.heap.objs.size (.tup [kV k, v]), ?_, rfl, ⟨s.heap.objs.size, k, v, hfresh, rfl, rfl, fun kvs' q => by rw [hz] at q; cases q; exact hx⟩, ⟨_, _, by rw [hn]; exact hen⟩, fun b hb => ?_⟩
    · refine Inv.step (s := s) (h' := h3) (t' := s.toks) (H' := upd H s.heap.objs.size (.tup [kV k, v])) I (g' := s.gens) (d' := s.drawn) (ch := [it]) (fun b hb => ?_) (fun b ob _ _ hb z _ => kk b ob hb z) (fun b ob _ _ hb z _ => ⟨ob.slots, kk b ob hb z⟩) (fun b ob hb z n => ?_) (fun b ob hb z => ⟨ob, kk b ob hb z⟩)
        (fun b ys z => by rw [upd_ne (nsz b _ z)]; exact z) (fun b ob w' z => by rw [upd_ne (nsz b _ z)]; exact z) (fun b ps z => ⟨#[], by rw [upd_ne (nsz b _ z), z]; simp⟩) (fun m hm => ?_) (fun b w' z => ?_) I.bare
      · have f := hf b hb
        exact ⟨f.2.2.2.1, f.2.1, f.2.2.2.2.1, f.2.2.2.2.2⟩
      · rw [upd_ne (Nat.ne_of_lt (Heap.lt_size z))]
        exact n
      · obtain ⟨ob, es', ep', hob, r⟩ := hm
        exact ⟨ob, es', ep', kk _ ob (fun q => (hf _ q).2.1 rfl) hob, r⟩
      · by_cases hb : b = s.heap.objs.size
        · subst hb
          rw [upd_same] at z
          cases z
          exact ⟨(by show (2 : Nat) ≤ sizeLine; decide), [key, u], .cons (is_kV hkey) (.cons ru .nil), ⟨_, ht3, rfl, rfl, _, rfl⟩⟩
        · rw [upd_ne hb] at z
          refine (I.hok b w' z).stay (fun c y hc' q => ?_) (fun c q => by rw [upd_ne (nsz c _ q)]; exact q) fun c ys q => by rw [upd_ne (nsz c _ q)]; exact q
          rcases hc' with rfl | hc'
          · exact kk _ _ (ntr _ _ z) q
          · exact kk _ _ (ntr _ _ hc') q
    · have z : b = it := by simpa using hb
      subst z
      rw [upd_ne (Nat.ne_of_lt lti)]
      exact (hf b hb).1
  done := by
    intro X hP hw hK hc i pins s σ H E I hf st hg
    subst hP hw hK
    obtain ⟨ok, ov, hit⟩ := st
    obtain ⟨kvs, hz, hx⟩ := hg
    obtain ⟨ho, hsys, hl, vs, es', ep', rel, hd', hsz, ex, hm⟩ := frz_at I hz
    rw [hd] at hd'
    cases hd'
    have hn : es.size = vs.length := by rw [hsz, rel.length]
    have hl2 := rel.length
    rw [hn] at hit
    exact wpAny_pyNext_items_end (I.ok.hd hc) hit hm (by simp; omega) fun h' eb => ⟨rfl, I.turnedN (t' := s.toks) (fp := [it]) (fun b ob hb z => eb b ob (by simpa using hb) z) hf⟩
  self := fun _ _ _ _ _ st h => by
    obtain ⟨ok, ov, hit⟩ := st
    exact pyIter_itemiter hit h
noncomputable def iItems (td : TE) : TI := fun σ H R => td σ H fun x H1 => ∃ d o kvs, x = .ref d ∧ H1 d = some (.frz o (.dK kvs)) ∧ R (Itm d o) H1
theorem pi_items {X : Cx} {tes : List Expr} {x1 : Nat} {tpos apos cpos : Pos} {e : Expr} {td : TE} (he : PE X e td)
    (hbase : attributeBase e "items" X.env (eval e X.env) = eval e X.env := by rfl) (hline : (apos.endLine == cpos.line) = true := by rfl) : PI X (.Tuple tes x1 tpos) (.Call (.Attribute e "items" apos) [] [] cpos) (iItems td) := by
  intro pins s σ H R I h
  refine wpAny_Call_method0_late hbase hline (thn (he pins s σ H _ I h) fun v s1 hm1_ => ?_)
  obtain ⟨x, H1, I1, r1, d, o, kvs, ex, hz, q⟩ := hm1_
  subst ex
  obtain rfl : v = Value.ref d := r1
  obtain ⟨ho, hsys, hl, vs, es, ep, rel, hd, hsz, exd, hm⟩ := frz_at I1 hz
  refine ⟨"dict", "dict.items", PySem.F.plainAttrs_dict, PySem.F.slot_dict_items, PySem.F.type_dict_items, ⟨o, ho, exd.1⟩, fun b e => by cases e; exact ⟨o, ho, exd.2.1⟩, Calls.callWith_builtin rfl (PySem.evalArgs_none ?_)⟩
  refine call_meetsIn PySem.F.slot_dict_items hm.dictOf.typeIs PySem.F.entry_dict_items (PySem.F.args_dict_items_1 _) (meets_dict_items (mixKind X.prog X.w) d hsys) ⟨⟨vs, hm.dictOf⟩, ?_⟩
  have I2 : Inv X pins σ H1 { s1 with heap := s1.heap.push { cls := .type "dict_items", data := .fields #[.ref d] } } := I1.kept (t' := s1.toks) fun b ob z => Heap.get?_push_of_some _ z
  have hm2 := hm.push { cls := .type "dict_items", data := .fields #[.ref d] }
  refine wpAny_pyIter_items (s := { s1 with heap := s1.heap.push { cls := .type "dict_items", data := .fields #[.ref d] } }) (v := s1.heap.objs.size) (d := d) ⟨_, Heap.get?_push_size _ rfl, rfl, rfl⟩ hm2 ?_
  have hsz2 : (s1.heap.push { cls := .type "dict_items", data := .fields #[.ref d] }).objs.size = s1.heap.objs.size + 1 := Heap.size_push ..
  refine ⟨_, [_], _, Itm d o, H1, rfl, I2.kept (t' := s1.toks) fun b ob z => Heap.get?_push_of_some _ z, turn_items d _ o hd, ⟨.none, .none, ?_⟩, fun b hb => ?_, q⟩
  · rw [hsz, rel.length]
    exact Heap.get?_push_size _ rfl
  · have z : b = (s1.heap.push { cls := .type "dict_items", data := .fields #[.ref d] }).objs.size := by simpa using hb
    subst z
    exact I2.fpOk (Nat.le_refl _) (I2.hok.fresh (Nat.le_refl _))


noncomputable def Itk (d : Addr) (o : Obj) : It :=
  ⟨fun i H => ∃ kvs k v, H d = some (.frz o (.dK kvs)) ∧ kvs[i]? = some (k, v),
   fun i H x H' => H' = H ∧ ∃ k v, x = kV k ∧ ∀ kvs, H d = some (.frz o (.dK kvs)) → kvs[i]? = some (k, v),
   fun i H => ∃ kvs, H d = some (.frz o (.dK kvs)) ∧ kvs.length ≤ i⟩
theorem turn_keys {P : Program} {w : World} {K : PySem.W.Frag} {tg : Expr} (d it : Addr) (o : Obj) {es : Array DictEntry} {ep : Nat} (hd : o.data = .dict es ep) :
    Turn P w K tg (Itk d o) [it] it (fun i h => h.IsKeyIter it d i es.size ep) where
  mem := by simp
  obj := fun i h st b hb => by
    obtain ⟨oi, h1, c1, d1⟩ := st
    have z : b = it := by simpa using hb
    subst z
    exact ⟨oi, h1, fun v q => by rw [d1] at q; cases q⟩
  keep := fun i h h' st k => st.at fun ob z => k it (by simp) ob z
  item := by
    intro X hP hw hK hc i pins s σ H E I hf st hg
    subst hP hw hK
    obtain ⟨kvs, k, v, hz, hx⟩ := hg
    obtain ⟨ho, hsys, hl, vs, es', ep', rel, hd', hsz, ex, hm⟩ := frz_at I hz
    rw [hd] at hd'
    cases hd'
    obtain ⟨u, hu, ru⟩ := rel.getV hx
    have hn : es.size = vs.length := by rw [hsz, rel.length]
    rw [hn] at st
    refine wpAny_pyNext_dict_item st hm hu fun key h' hkey hit' hs' => ?_
    refine ⟨_, rfl, ?_⟩
    obtain ⟨oi, h1, c1, d1⟩ := id hit'
    refine go_of h1 c1 d1 (by decide) ⟨kV k, H, ?_, is_kV hkey, ⟨rfl, k, v, rfl, fun kvs' q => by rw [hz] at q; cases q; exact hx⟩, by rw [hn]; exact hit', fun b hb => (hf b hb).1⟩
    exact I.turnedN (t' := s.toks) (fp := [it]) (fun b ob hb z => (hs'.2 b (by simpa using hb)).trans z) hf
  done := by
    intro X hP hw hK hc i pins s σ H E I hf st hg
    subst hP hw hK
    obtain ⟨kvs, hz, hx⟩ := hg
    obtain ⟨ho, hsys, hl, vs, es', ep', rel, hd', hsz, ex, hm⟩ := frz_at I hz
    rw [hd] at hd'
    cases hd'
    have hn : es.size = vs.length := by rw [hsz, rel.length]
    have hl2 := rel.length
    rw [hn] at st
    exact wpAny_pyNext_dict_end (I.ok.hd hc) st hm (by simp; omega) fun h' eb => ⟨rfl, I.turnedN (t' := s.toks) (fp := [it]) (fun b ob hb z => eb b ob (by simpa using hb) z) hf⟩
  self := fun _ _ _ _ _ st h => wpAny_pyIter_keyiter st h
noncomputable def iKeys (td : TE) : TI := fun σ H R => td σ H fun x H1 => ∃ d o kvs, x = .ref d ∧ H1 d = some (.frz o (.dK kvs)) ∧ R (Itk d o) H1
theorem pi_keys {X : Cx} {tg e : Expr} {td : TE} (he : PE X e td) : PI X tg e (iKeys td) := by
  intro pins s σ H R I h
  refine thn (he pins s σ H _ I h) fun v s1 hm1_ => ?_
  obtain ⟨x, H1, I1, r1, d, o, kvs, ex, hz, q⟩ := hm1_
  subst ex
  obtain rfl : v = Value.ref d := r1
  obtain ⟨ho, hsys, hl, vs, es, ep, rel, hd, hsz, exd, hm⟩ := frz_at I1 hz
  refine wpAny_pyIter_dict hsys hm ?_
  refine ⟨_, [_], _, Itk d o, H1, rfl, I1.kept (t' := s1.toks) fun b ob z => Heap.get?_push_of_some _ z, turn_keys d _ o hd, ?_, fun b hb => ?_, q⟩
  · rw [hsz, rel.length]
    exact ⟨_, Heap.get?_push_size _ rfl, rfl, rfl⟩
  · have z : b = s1.heap.objs.size := by simpa using hb
    subst z
    exact I1.fpOk (Nat.le_refl _) (I1.hok.fresh (Nat.le_refl _))
section
variable {g : TG} {tc : TT} {te : TE} {D : Addr} {Q : Hp → Prop} {τ : St} {H : Hp}
theorem comp_items {d : Addr} {o : Obj} {kvs : List (Key × V)} (Pv : Nat → List V → St → Hp → Prop) (h0 : Pv 0 [] τ H) (hl : ∀ i zs τ H, i ≤ kvs.length → Pv i zs τ H → H d = some (.frz o (.dK kvs)))
    (hs : ∀ i k v zs τ H p, kvs[i]? = some (k, v) → Pv i zs τ H → H p = none → g (.ref p) τ (upd H p (.tup [kV k, v])) fun τ2 H2 => tc τ2 H2 fun b H3 => if b = true then te τ2 H3 fun y H4 => H4 D = some (.lst zs) ∧ zs.length < sizeLine ∧ Pv (i + 1) (zs ++ [y]) τ2 (upd H4 D (.lst (zs ++ [y]))) else Pv (i + 1) zs τ2 H3)
    (hd : ∀ zs τ H, Pv kvs.length zs τ H → Q H) : RunC (Itm d o) g tc te D Q τ H := by
  refine ⟨fun i m zs τ H => m = kvs.length - i ∧ i ≤ kvs.length ∧ Pv i zs τ H, ⟨kvs.length, by simp, Nat.zero_le _, h0⟩, ?_⟩
  rintro i m zs τ H ⟨rfl, hi, pp⟩
  have q := hl i zs τ H hi pp
  by_cases hlt : i < kvs.length
  · refine .inr ⟨⟨kvs, kvs[i].1, kvs[i].2, q, by simp [hlt]⟩, Pv (i + 1), fun ys' τ' H' p' => ⟨kvs.length - (i + 1), by omega, rfl, hlt, p'⟩, fun x H' y => ?_⟩
    obtain ⟨p, k, v, hp, rfl, rfl, y⟩ := y
    exact hs i k v zs τ _ p (y kvs q) pp hp
  · have e : i = kvs.length := by omega
    subst e
    exact .inl ⟨⟨kvs, q, Nat.le_refl _⟩, hd zs τ H pp⟩
theorem for_items {d : Addr} {o : Obj} {kvs : List (Key × V)} {g : TG} {tb : TS} {D : Ends} {σ : St} {H : Hp} (Pv : Nat → St → Hp → Prop) (h0 : Pv 0 σ H) (hl : ∀ i σ H, i ≤ kvs.length → Pv i σ H → H d = some (.frz o (.dK kvs)))
    (hs : ∀ i k v σ H p, kvs[i]? = some (k, v) → Pv i σ H → H p = none → g (.ref p) σ (upd H p (.tup [kV k, v])) fun σ2 H2 => tb { D with nx := Pv (i + 1), ct := Pv (i + 1), bk := D.nx } σ2 H2) (hd : ∀ σ H, Pv kvs.length σ H → D.nx σ H) :
    ∃ W : Nat → Nat → St → Hp → Prop, (∃ m, W 0 m σ H) ∧ ∀ i m σ H, W i m σ H →
      ((Itm d o).stop i H ∧ D.nx σ H) ∨ ((Itm d o).go i H ∧ ∃ N : St → Hp → Prop, (∀ σ' H', N σ' H' → ∃ m', m' < m ∧ W (i + 1) m' σ' H') ∧ ∀ x H', (Itm d o).yld i H x H' → g x σ H' fun σ2 H2 => tb { D with nx := N, ct := N, bk := D.nx } σ2 H2) := by
  refine ⟨fun i m σ H => m = kvs.length - i ∧ i ≤ kvs.length ∧ Pv i σ H, ⟨kvs.length, by simp, Nat.zero_le _, h0⟩, ?_⟩
  rintro i m σ H ⟨rfl, hi, pp⟩
  have q := hl i σ H hi pp
  by_cases hlt : i < kvs.length
  · refine .inr ⟨⟨kvs, kvs[i].1, kvs[i].2, q, by simp [hlt]⟩, Pv (i + 1), fun σ' H' p' => ⟨kvs.length - (i + 1), by omega, rfl, hlt, p'⟩, fun x H' y => ?_⟩
    obtain ⟨p, k, v, hp, rfl, rfl, y⟩ := y
    exact hs i k v σ _ p (y kvs q) pp hp
  · have e : i = kvs.length := by omega
    subst e
    exact .inl ⟨⟨kvs, q, Nat.le_refl _⟩, hd σ H pp⟩
theorem for_keys {d : Addr} {o : Obj} {kvs : List (Key × V)} {g : TG} {tb : TS} {D : Ends} {σ : St} {H : Hp} (Pv : Nat → St → Hp → Prop) (h0 : Pv 0 σ H) (hl : ∀ i σ H, i ≤ kvs.length → Pv i σ H → H d = some (.frz o (.dK kvs)))
    (hs : ∀ i k v σ H, kvs[i]? = some (k, v) → Pv i σ H → g (kV k) σ H fun σ2 H2 => tb { D with nx := Pv (i + 1), ct := Pv (i + 1), bk := D.nx } σ2 H2) (hd : ∀ σ H, Pv kvs.length σ H → D.nx σ H) :
    ∃ W : Nat → Nat → St → Hp → Prop, (∃ m, W 0 m σ H) ∧ ∀ i m σ H, W i m σ H →
      ((Itk d o).stop i H ∧ D.nx σ H) ∨ ((Itk d o).go i H ∧ ∃ N : St → Hp → Prop, (∀ σ' H', N σ' H' → ∃ m', m' < m ∧ W (i + 1) m' σ' H') ∧ ∀ x H', (Itk d o).yld i H x H' → g x σ H' fun σ2 H2 => tb { D with nx := N, ct := N, bk := D.nx } σ2 H2) := by
  refine ⟨fun i m σ H => m = kvs.length - i ∧ i ≤ kvs.length ∧ Pv i σ H, ⟨kvs.length, by simp, Nat.zero_le _, h0⟩, ?_⟩
  rintro i m σ H ⟨rfl, hi, pp⟩
  have q := hl i σ H hi pp
  by_cases hlt : i < kvs.length
  · refine .inr ⟨⟨kvs, kvs[i].1, kvs[i].2, q, by simp [hlt]⟩, Pv (i + 1), fun σ' H' p' => ⟨kvs.length - (i + 1), by omega, rfl, hlt, p'⟩, fun x H' y => ?_⟩
    obtain ⟨rfl, k, v, rfl, y⟩ := y
    exact hs i k v σ _ (y kvs q) pp
  · have e : i = kvs.length := by omega
    subst e
    exact .inl ⟨⟨kvs, q, Nat.le_refl _⟩, hd σ H pp⟩
end
end L2

set_option Elab.async false
set_option linter.all false
set_option maxRecDepth 100000
set_option maxHeartbeats 4000000

namespace L2
open PySem PySem.Spec PyProof.Rows PySem.SeqAt
theorem ients_of {P : Program} {w : World} {es : List DictEntry} {vs : List (Key × Value)} (hp : Pairs (mixKind P w) es vs) : ∀ {ms : List (Int × Int)}, (∀ e ∈ es, ∃ k, (mixKind P w).is k e.key = true ∧ e.hash = (mixKind P w).hash k) → KV (cK ms) vs → IEnts es ms := by
  induction hp with
  | nil =>
    intro ms _ r
    cases ms with
    | nil => exact .nil
    | cons p ms => cases r
  | @cons e kv es kvs h1 h2 _ ih =>
    intro ms hk r
    cases ms with
    | nil => cases r
    | cons p ms =>
      cases r with
      | cons r0 r1 =>
        obtain ⟨k, v⟩ := kv
        obtain ⟨e1, t', e2⟩ := r0
        have e1' : Sum.inl p.1 = k := e1
        subst e1'
        obtain ⟨t, ek⟩ := (show ∃ t, e.key = Value.int p.1 t from is_kV h1)
        obtain ⟨k', hk1, hk2⟩ := hk e (List.mem_cons_self ..)
        have ek' : k' = Sum.inl p.1 := by
          rw [ek] at hk1
          rcases keyIs_shape hk1 with ⟨i, t2, z1, z2⟩ | ⟨x, t2, z1, z2⟩
          · cases z2; exact z1
          · cases z2
        subst ek'
        obtain ⟨p1, p2⟩ := p
        exact .cons ek hk2 (h2.trans e2) (ih (fun e' he => hk e' (List.mem_cons_of_mem _ he)) r1)
theorem nodup_cK {ms : List (Int × Int)} : ((cK ms).map (·.1)).Nodup ↔ (ms.map (·.1)).Nodup := by
  unfold cK List.Nodup
  rw [List.map_map, List.pairwise_map, List.pairwise_map]
  constructor
  · intro h; exact h.imp fun {a b} n z => n (by simp [z])
  · intro h; exact h.imp fun {a b} n z => n (by simpa using z)
section
variable {X : Cx} {pins : List (Addr × Obj)} {σ : St} {H : Hp} {s : Shared} {a : Addr} {ms : List (Int × Int)}
theorem Inv.nodupC (I : Inv X pins σ H s) (e : Rd H a (.dK (cK ms))) : (ms.map (·.1)).Nodup := nodup_cK.mp (I.nodupK e)
theorem Inv.idict (I : Inv X pins σ H s) (e : Rd H a (.dK (cK ms))) : IDict s.heap a ms := by
  obtain ⟨z, hd, vs, rel, o, es, ep, ho, ex, hda, hk, hp, hn⟩ := dk_rd I.hok e
  exact ⟨⟨o, es, ep, ho, ex, hda, ients_of hp (fun e he => hk e (by simpa using he)) rel⟩, hd, I.nodupC e⟩
end
noncomputable def sameC (ms ns : List (Int × Int)) : Bool := ms.length == ns.length && ms.all fun p => decide (lookI ns p.1 = some p.2)
section
variable {X : Cx} {n : Nat} {K : PySem.W.Frag}
end
end L2
namespace L2
open PySem PySem.Spec PyProof.Rows
theorem call_dictC {X : Cx} : CallR X (.type "dict") (fun xs H Q => ∃ a kvs, xs = [.ref a] ∧ Rd H a (.dK kvs) ∧ ∀ p, H p = none → Q (.ref p) (upd H p (.dK kvs))) := by
  intro pins s σ H xs us Q I r h
  obtain ⟨a, kvs, rfl, e, q⟩ := h
  obtain ⟨u, rfl, rx⟩ := vals1 r
  cases rx
  exact d_copyOf I e fun p s' hp I' => ⟨.ref p, _, I', rfl, q p hp⟩
theorem u1 {n c : Nat} (h : n + 8 < c) : n + 1 < c := by omega

noncomputable def getI (ms : List (Int × Int)) (k : Int) : Int := (lookI ms k).getD 0
noncomputable def putI (ms : List (Int × Int)) (k v : Int) : List (Int × Int) := if (ms.any fun p => decide (p.1 = k)) = true then ms.map (fun p => if p.1 = k then (p.1, v) else p) else ms ++ [(k, v)]
noncomputable def dropI (ms : List (Int × Int)) (k : Int) : List (Int × Int) := ms.filter fun p => decide (p.1 ≠ k)
theorem cK_put (ms : List (Int × Int)) (k v : Int) : putK (cK ms) (Sum.inl k) (V.int v) = cK (putI ms k v) := by
  unfold putK putI cK
  have e : ((ms.map fun p => ((Sum.inl p.1 : Key), V.int p.2)).any fun kv => decide (kv.1 = Sum.inl k)) = (ms.any fun p => decide (p.1 = k)) := by
    rw [List.any_map]
    congr 1
    funext p
    simp
  rw [e]
  split
  · rw [List.map_map, List.map_map]
    congr 1
    funext p
    simp only [Function.comp]
    by_cases q : p.1 = k
    · simp [q]
    · have q' : ¬ (Sum.inl p.1 : Key) = Sum.inl k := fun z => q (by simpa using z)
      simp [q]
  · simp
theorem cK_drop (ms : List (Int × Int)) (k : Int) : dropK (cK ms) (Sum.inl k) = cK (dropI ms k) := by
  unfold dropK dropI cK
  rw [List.filter_map]
  congr 1
  congr 1
  funext p
  simp
theorem cK_val (ms : List (Int × Int)) (k : Int) : valV (cK ms) (Sum.inl k) = (lookI ms k).map V.int := by
  unfold lookI cK valV
  rw [List.find?_map, Option.map_map, Option.map_map]
  have e : ((fun p : Key × V => decide (p.1 = Sum.inl k)) ∘ fun p : Int × Int => ((Sum.inl p.1 : Key), V.int p.2)) = fun p : Int × Int => decide (p.1 = k) := by
    funext p
    simp
  rw [e]
  rfl
theorem cK_getD (ms : List (Int × Int)) (k : Int) : ((lookI ms k).map V.int).getD (V.int 0) = V.int (getI ms k) := by
  unfold getI
  cases lookI ms k <;> rfl
theorem lookI_cons (p : Int × Int) (ms : List (Int × Int)) (k : Int) : lookI (p :: ms) k = if p.1 = k then some p.2 else lookI ms k := by
  unfold lookI
  by_cases q : p.1 = k
  · rw [List.find?_cons_of_pos (by simpa using q), if_pos q]; rfl
  · rw [List.find?_cons_of_neg (by simpa using q), if_neg q]
theorem lookI_put (ms : List (Int × Int)) (k v j : Int) : lookI (putI ms k v) j = if j = k then some v else lookI ms j := by
  have hs : ∀ (ns : List (Int × Int)), lookI (ns.map (fun p => if p.1 = k then (p.1, v) else p)) j = if j = k then (lookI ns j).map (fun _ => v) else lookI ns j := by
    intro ns
    induction ns with
    | nil => simp [lookI]
    | cons p ns ih =>
      rw [List.map_cons, lookI_cons, lookI_cons, ih]
      by_cases e1 : p.1 = k
      · by_cases e2 : j = k
        · simp [e1, e2]
        · have e3 : ¬ k = j := fun z => e2 z.symm
          simp [e1, e2, e3]
      · by_cases e2 : j = k
        · simp [e1, e2]
        · simp [e1, e2]
  have hn : ∀ (ns : List (Int × Int)), (ns.any fun p => decide (p.1 = k)) = (lookI ns k).isSome := by
    intro ns
    induction ns with
    | nil => rfl
    | cons p ns ih =>
      rw [List.any_cons, lookI_cons, ih]
      by_cases e1 : p.1 = k <;> simp [e1]
  have ha : ∀ (ns : List (Int × Int)), lookI (ns ++ [(k, v)]) j = (lookI ns j).or (if k = j then some v else none) := by
    intro ns
    induction ns with
    | nil => simp [lookI_cons, lookI]
    | cons p ns ih =>
      rw [List.cons_append, lookI_cons, lookI_cons, ih]
      by_cases e1 : p.1 = j <;> simp [e1]
  unfold putI
  rw [hn]
  cases q : lookI ms k with
  | some z =>
    simp only [Option.isSome_some, if_true]
    rw [hs]
    by_cases e : j = k
    · subst e; simp [q]
    · simp [e]
  | none =>
    simp only [Option.isSome_none, Bool.false_eq_true, if_false]
    rw [ha]
    by_cases e : j = k
    · subst e; simp [q]
    · have e' : ¬ k = j := fun z => e z.symm
      simp [e, e']
theorem lookI_drop (ms : List (Int × Int)) (k j : Int) : lookI (dropI ms k) j = if j = k then none else lookI ms j := by
  unfold dropI
  induction ms with
  | nil => simp [lookI]
  | cons p ms ih =>
    rw [List.filter_cons, lookI_cons]
    by_cases e1 : p.1 = k
    · rw [if_neg (by simpa using e1), ih]
      by_cases e2 : j = k
      · simp [e2]
      · have e3 : ¬ p.1 = j := fun z => e2 (by rw [← z, e1])
        simp [e2, e3]
    · rw [if_pos (by simpa using e1), lookI_cons, ih]
      by_cases e2 : j = k
      · subst e2; simp [e1]
      · simp [e2]
end L2

set_option Elab.async false
set_option linter.all false
set_option maxRecDepth 100000
set_option maxHeartbeats 4000000

namespace L2
open PySem PySem.Spec PyProof.Rows


noncomputable def thash : Int := reduceHash (Builtin.Tuple.tupleHashOf [hashInt 0])
noncomputable def hsh : V → Int
  | .int i => hashInt i
  | .bl b => if b then 1 else 0
  | .non => 0xFCA86420
  | .ref _ => thash
  | _ => 0
theorem hashInt_small {i : Int} (h0 : 0 ≤ i) (h1 : i < 1000) : hashInt i = i := by
  have e : ((i.natAbs : Int) % ((2 ^ 61 - 1 : Nat) : Int)) = i := by
    rw [Int.natAbs_of_nonneg h0]
    exact Int.emod_eq_of_lt h0 (Int.lt_trans h1 (by decide))
  have n1 : ¬ (i == -1) = true := fun z => absurd (eq_of_beq z ▸ h0) (by decide)
  have r : rawHash i = i := by
    show (if ((if i < 0 then -((i.natAbs : Int) % ((2 ^ 61 - 1 : Nat) : Int)) else ((i.natAbs : Int) % ((2 ^ 61 - 1 : Nat) : Int))) == -1) = true then (-2 : Int) else (if i < 0 then -((i.natAbs : Int) % ((2 ^ 61 - 1 : Nat) : Int)) else ((i.natAbs : Int) % ((2 ^ 61 - 1 : Nat) : Int)))) = i
    rw [e, if_neg (Int.not_lt.mpr h0), if_neg n1]
  unfold hashInt
  rw [r, if_neg n1]
theorem thash_big : ¬ (0 ≤ thash ∧ thash < 1000) := by
  decide +kernel


noncomputable abbrev Ent : List (V × V) → List DictEntry → Prop := Paired fun p e => RelV p.1 e.key ∧ RelV p.2 e.val ∧ e.hash = hsh p.1
noncomputable def OddObj (o : Obj) (kvs : List (V × V)) : Prop := o.ExactDict ∧ ∃ es ep, o.data = .dict es ep ∧ Ent kvs es.toList

inductive KeyV : Value → Prop
  | non : KeyV .none
  | bl (b : Bool) : KeyV (.bool b)
  | int (i : Int) (t : Tok) : KeyV (.int i t)
  | ref (a : Addr) : KeyV (.ref a)

theorem range_filter_one (j : Nat) (p : Nat → Bool) : ∀ n, (∀ i, i < n → (p i = true ↔ i = j)) → (List.range n).filter p = if j < n then [j] else []
  | 0, _ => rfl
  | n + 1, h => by
    rw [List.range_succ, List.filter_append, range_filter_one j p n (fun i hi => h i (by omega))]
    have hn := h n (by omega)
    by_cases e : n = j
    · subst e
      have e1 : p n = true := hn.mpr rfl
      simp [e1]
    · have e1 : p n = false := by
        cases q : p n with
        | false => rfl
        | true => exact absurd (hn.mp q) e
      by_cases l : j < n
      · rw [if_pos l, if_pos (by omega)]
        simp [e1]
      · rw [if_neg l, if_neg (by omega)]
        simp [e1]

section
variable {prog : Program} {w : World} {A : Around} {E : Value → Shared → Prop} {s : Shared}
theorem find_absent {d : Addr} {o : Obj} {es : Array DictEntry} {ep : Nat} {key : Value} {h : Int} {Q : Option Nat → Shared → Prop} (hv : KeyV key) (ho : s.heap.get? d = some o) (hd : o.data = .dict es ep)
    (hh : ∀ e ∈ es, e.hash ≠ h) (hk : ∀ e ∈ es, e.key ≠ key) (q : Q none s) : wpAny (model prog w) A (dictFind d key h) Q E s := by
  have hp : placesWithHash es.size (fun i => es[i]?.map (·.hash)) h = [] := by
    unfold placesWithHash
    rw [List.filter_eq_nil_iff]
    intro i hi
    have hl : i < es.size := List.mem_range.mp hi
    show ¬ ((es[i]?.map (·.hash)) == some h) = true
    rw [Array.getElem?_eq_getElem hl, Option.map_some]
    have := hh es[i] (Array.getElem_mem hl)
    simpa using this
  unfold dictFind
  try with_reducible refine wpAny_holding ?_
  refine wpAny_bind (wpAny_dictEntries ho hd ?_)
  cases hv with
  | ref a =>
    rw [hp]
    try dsimp only
    have hany : ¬ (es.any fun e => e.key == Value.ref a && e.hash != h) = true := by
      rw [← Array.any_toList, List.any_eq_true]
      rintro ⟨e, hin, hc⟩
      have := hk e (Array.mem_toList_iff.mp hin)
      simp only [Bool.and_eq_true, beq_iff_eq] at hc
      exact this hc.1
    rw [if_neg (by simp [carriedByValue]), if_neg hany]
    exact wpAny_bind (wpAny_pure (wpAny_pure q))
  | _ => rw [hp]; exact wpAny_pure q
theorem find_there {d : Addr} {o : Obj} {es : Array DictEntry} {ep : Nat} {key : Value} {h : Int} {j : Nat} {Q : Option Nat → Shared → Prop} (hv : KeyV key) (ho : s.heap.get? d = some o) (hd : o.data = .dict es ep)
    (hj : j < es.size) (hkey : es[j].key = key) (hh : ∀ i (hi : i < es.size), es[i].hash = h ↔ i = j) (hk : ∀ i (hi : i < es.size), es[i].key = key → i = j) (q : Q (some j) s) : wpAny (model prog w) A (dictFind d key h) Q E s := by
  have hp : placesWithHash es.size (fun i => es[i]?.map (·.hash)) h = [j] := by
    unfold placesWithHash
    rw [range_filter_one j _ es.size (fun i hi => ?_), if_pos hj]
    show ((es[i]?.map (·.hash)) == some h) = true ↔ i = j
    rw [Array.getElem?_eq_getElem hi, Option.map_some, beq_iff_eq, Option.some.injEq]
    exact hh i hi
  have hej : es[j]? = some es[j] := Array.getElem?_eq_getElem hj
  have hhj : (es[j].hash == h) = true := by rw [(hh j hj).mpr rfl]; simp
  have hst : (([j] : List Nat).filterMap fun i => es[i]?.map (·.key)) = [key] := by simp [hej, hkey]
  unfold dictFind
  try with_reducible refine wpAny_holding ?_
  refine wpAny_bind (wpAny_dictEntries ho hd ?_)
  have one : wpAny (model prog w) A (dictWalkPlain d key h es [j]) Q E s := by
    unfold dictWalkPlain
    refine wpAny_bind ?_
    rw [List.forIn_cons]
    refine wpAny_bind ?_
    rw [hej]
    dsimp only
    rw [if_pos hhj]
    refine wpAny_bind (wpAny_dictEpoch ho hd (wpAny_bind ?_))
    rw [hkey]
    refine SeqAt.EqAt.same key _ _ _ _ (wpAny_bind (wpAny_dictEpoch ho hd ?_))
    show wpAny _ _ (if (ep != ep) = true then _ else _) _ E _
    rw [if_neg (by simp)]
    exact wpAny_bind (wpAny_rule (wpAny_pure (wpAny_pure (wpAny_pure q))))
  cases hv with
  | ref a =>
    rw [hp]
    try dsimp only
    rw [hst]
    have hany : ¬ (es.any fun e => e.key == Value.ref a && e.hash != h) = true := by
      rw [Array.any_eq_true]
      rintro ⟨i, hi, hc⟩
      simp only [Bool.and_eq_true, beq_iff_eq, bne_iff_ne, ne_eq] at hc
      exact hc.2 ((hh i hi).mpr (hk i hi hc.1))
    rw [if_neg (by simp [carriedByValue]), if_neg hany, if_pos (by simp)]
    refine wpAny_bind (wpAny_pure ?_)
    rw [if_neg (by simp)]
    refine wpAny_bind ?_
    rw [List.forIn_cons]
    refine wpAny_bind ?_
    rw [hej]
    dsimp only
    rw [if_pos hhj]
    refine wpAny_bind (wpAny_dictEpoch ho hd (wpAny_bind ?_))
    rw [hkey]
    refine SeqAt.EqAt.same (Value.ref a) _ _ _ _ (wpAny_bind (wpAny_dictEpoch ho hd ?_))
    show wpAny _ _ (if (ep != ep) = true then _ else _) _ E _
    rw [if_neg (by simp)]
    exact wpAny_bind (wpAny_rule (wpAny_pure (wpAny_pure (wpAny_pure q))))
  | _ =>
    rw [hp]
    try dsimp only
    rw [hst]
    exact one
end
end L2

set_option Elab.async false
set_option linter.all false
set_option maxRecDepth 100000
set_option maxHeartbeats 4000000

namespace L2
open PySem PySem.Spec PyProof.Rows
inductive DA where
  | d (d : D) | dic
noncomputable def RepA (K : PySem.W.Frag) (H : Hp) (v : V) : DA → Prop
  | .d d => Rep K H v d
  | .dic => ∃ a kvs, v = .ref a ∧ Rd H a (.dK kvs)
noncomputable def isA (n : String) : DA → Bool
  | .d d => isD n d
  | .dic => n == "dict"
theorem call_isiA {X : Cx} {K : PySem.W.Frag} (hK : X.K = K := by rfl) : CallR X (.builtin "isinstance") (fun xs H Q => ∃ x n d, xs = [x, .ty n] ∧ (n = "int" ∨ n = "bool" ∨ n = "str" ∨ n = "tuple" ∨ n = "list" ∨ n = "dict") ∧ RepA K H x d ∧ Q (.bl (isA n d)) H) := by
  subst hK
  intro pins s σ H xs us Q I r h
  obtain ⟨x, n, d, e, hn, hx, q⟩ := h
  cases d with
  | d d => exact call_isinst pins s σ H xs us Q I r ⟨x, n, d, e, hn, hx, q⟩
  | dic =>
    subst e
    obtain ⟨a, kvs, rfl, hr⟩ := hx
    obtain ⟨u, v, rfl, rx, rt⟩ := vals2 r
    cases rt
    cases rx
    obtain ⟨z, hd, vs, rel, o, es, ep, ho, ex, _⟩ := dk_rd I.hok hr
    rcases hn with rfl | rfl | rfl | rfl | rfl | rfl
    · exact PySem.IsiPair.dict_int ho ex.1 ⟨.bl false, H, I.tok _, rfl, q⟩
    · exact PySem.IsiPair.dict_bool ho ex.1 ⟨.bl false, H, I.tok _, rfl, q⟩
    · exact PySem.IsiPair.dict_str ho ex.1 ⟨.bl false, H, I.tok _, rfl, q⟩
    · exact PySem.IsiPair.dict_tuple ho ex.1 ⟨.bl false, H, I.tok _, rfl, q⟩
    · exact PySem.IsiPair.dict_list ho ex.1 ⟨.bl false, H, I.tok _, rfl, q⟩
    · exact PySem.IsiPair.dict_dict ho ex.1 ⟨.bl true, H, I, rfl, q⟩
end L2

set_option Elab.async false
set_option linter.all false
set_option maxRecDepth 100000
set_option maxHeartbeats 4000000
namespace L2
open PySem PySem.Spec PyProof.Rows


noncomputable def XO (a : Addr) (o : Obj) : HO := .ext fun h => h.get? a = some o
noncomputable def OddAt (H : Hp) (a : Addr) (kvs : List (V × V)) : Prop := (a == sysModules) = false ∧ ∃ o, H a = some (XO a o) ∧ OddObj o kvs

noncomputable def IsKey (H : Hp) (y : V) : Prop := (∃ i, y = .int i) ∨ (∃ b, y = .bl b) ∨ y = .non ∨ ∃ t, y = .ref t ∧ H t = some (.tup [.int 0])
theorem xo_ok {P : Program} {w : World} {H : Hp} {h : Heap} {a : Addr} {o : Obj} (e : h.get? a = some o) : ObjOk P w H h a (XO a o) := ⟨e, ⟨o, e⟩, fun h1 h2 q k => k o q⟩
theorem IsKey.val {H : Hp} {y : V} {u : Value} (k : IsKey H y) (r : RelV y u) : KeyV u := by
  rcases k with ⟨i, rfl⟩ | ⟨b, rfl⟩ | rfl | ⟨t, rfl, _⟩
  · obtain ⟨t, rfl⟩ := r; exact .int i t
  · cases r; exact .bl b
  · cases r; exact .non
  · cases r; exact .ref t
section
variable {X : Cx} {pins : List (Addr × Obj)} {σ : St} {H : Hp} {s : Shared} {a : Addr} {y v : V} {u r : Value} {A : Around} {E : Value → Shared → Prop} {o : Obj} {kvs : List (V × V)}
theorem odd_obj (I : Inv X pins σ H s) (e : H a = some (XO a o)) : s.heap.get? a = some o := (show ObjOk X.prog X.w H s.heap a (XO a o) from I.hok a _ e).1
theorem hash_of {Q : Int → Shared → Prop} (hu : A.units < cLine) (I : Inv X pins σ H s) (k : IsKey H y) (ry : RelV y u) (h : ∀ tk, Q (hsh y) { s with toks := tk }) : wpAny (model X.prog X.w) A (pyHash u) Q E s := by
  rcases k with ⟨i, rfl⟩ | ⟨b, rfl⟩ | rfl | ⟨t, rfl, ht⟩
  · obtain ⟨t, rfl⟩ := ry
    exact wpAny_pyHash_int (h _)
  · cases ry
    refine PySem.W.pyHash_slot (T := "bool") rfl F.slot_bool_hash entry_int_hash (args_int_hash _) (beq_builtin_none _) (.inr hu) ?_
    cases b
    · exact (show wpAny _ _ (do ret (← mkInt 0)) _ _ s from wpAny_bind (wpAny_mkInt (wpAny_pure ⟨_, _, rfl, h _⟩)))
    · exact (show wpAny _ _ (do ret (← mkInt 1)) _ _ s from wpAny_bind (wpAny_mkInt (wpAny_pure ⟨_, _, rfl, h _⟩)))
  · cases ry
    exact PySem.W.pyHash_slot (T := "NoneType") rfl F.slot_NoneType_hash F.entry_NoneType_hash (F.args_NoneType_hash_1 _) (beq_builtin_none _) (.inr hu) (wpAny_bind (wpAny_pure (wpAny_bind (wpAny_mkInt (wpAny_pure ⟨_, _, rfl, h _⟩)))))
  · cases ry
    have hk : IsTupleKey (mixKind X.prog X.w) s.heap [Sum.inl 0] t := key_of (ks := [Sum.inl 0]) I.hok (by simpa [kV] using ht)
    exact wpAny_pyHash_tuple hu hk (h _)
theorem Ent.mem {kvs : List (V × V)} {es : List DictEntry} (r : Ent kvs es) : ∀ e ∈ es, ∃ p ∈ kvs, RelV p.1 e.key ∧ e.hash = hsh p.1 := by
  induction r with
  | nil => intro e he; exact nomatch he
  | @cons p q ps qs h t ih =>
    intro e he
    rcases List.mem_cons.mp he with rfl | he
    · exact ⟨p, List.mem_cons_self, h.1, h.2.2⟩
    · obtain ⟨p', h1, h2⟩ := ih e he
      exact ⟨p', List.mem_cons_of_mem _ h1, h2⟩

theorem odd_set {Q : Unit → Shared → Prop} (hu : A.units + 1 < cLine) (I : Inv X pins σ H s) (mu : Mut (H a)) (ho : s.heap.get? a = some o) (hO : OddObj o kvs) (k : IsKey H y) (ry : RelV y u) (rv : RelV v r) (hne : ∀ p ∈ kvs, hsh p.1 ≠ hsh y) (hl : kvs.length < sizeLine)
    (h : ∀ o' s', OddObj o' (kvs ++ [(y, v)]) → Inv X pins σ (upd H a (XO a o')) s' → Q () s') : wpAny (model X.prog X.w) A (setItem (.ref a) u r) Q E s := by
  obtain ⟨hx, es, ep, hd, hE⟩ := hO
  have hT : s.TypeIs (.ref a) "dict" := ⟨o, ho, hx.1⟩
  have kv := k.val ry
  unfold setItem
  try with_reducible refine wpAny_holding ?_
  refine wpAny_bind (wpAny_sequenceKey hT (by decide) ?_)
  refine wpAny_bind (wpAny_callSpecial?_slot (name := Str.ofString "__setitem__") hT slot_dict_setitem
    (wpAny_call_entry slot_dict_setitem hT entry_dict_setitem ?_ (args_dict_setitem _ _ _)))
  show wpAny _ _ (Builtin.Dict.notOrdered "__setitem__" ⟨[.ref a, u, r], []⟩ >>= _) _ _ s
  refine wpAny_bind (wpAny_notOrdered_dict hT ?_)
  show wpAny _ _ (dictSet a u r >>= _) _ _ s
  refine wpAny_bind ?_
  unfold dictSet
  try with_reducible refine wpAny_holding ?_
  refine wpAny_bind (hash_of (by simpa using hu) I k ry fun tk => ?_)
  unfold dictSetHashed
  try with_reducible refine wpAny_holding ?_
  have hmem := hE.mem
  refine wpAny_bind (find_absent (s := { s with toks := tk }) kv ho hd (fun e he q => ?_) (fun e he q => ?_) ?_)
  · obtain ⟨p, hp, _, h2⟩ := hmem e (Array.mem_toList_iff.mpr he)
    exact hne p hp (h2.symm.trans q)
  · obtain ⟨p, hp, h1, h2⟩ := hmem e (Array.mem_toList_iff.mpr he)
    rw [q] at h1
    exact hne p hp (by rw [RelV.inj h1 ry])
  · have hsz : es.size = kvs.length := by
      have := Paired.length hE
      simpa using this.symm
    refine wpAny_bind (wpAny_rule (wpAny_updateDictKeys (hz := by omega) (s := { s with toks := tk }) ho hd (wpAny_pure ⟨.none, rfl, wpAny_pure ?_⟩)))
    refine h (o.mapDictKeys fun es => es.push ⟨hsh y, u, r⟩) _ ⟨hx.mapDictKeys _, _, ep + 1, Obj.data_mapDictKeys hd _, ?_⟩ ?_
    · rw [Array.toList_push]
      exact Paired.snoc hE ⟨ry, rv, rfl⟩
    · have hg := Heap.get?_update_self (h := s.heap) (a := a) (fun o => o.mapDictKeys fun es => es.push ⟨hsh y, u, r⟩) ho (Obj.isFreed_of_dict (Obj.data_mapDictKeys hd _))
      exact d_write (I.tok tk) mu (Heap.SameBut.update ..) ⟨_, hg⟩ (xo_ok hg)


theorem odd_notIn {Q : Value → Shared → Prop} (hu : A.units + 1 < cLine) (I : Inv X pins σ H s) (hs : (a == sysModules) = false) (ho : s.heap.get? a = some o) (hO : OddObj o kvs) (k : IsKey H y) (ry : RelV y u) (hne : ∀ p ∈ kvs, hsh p.1 ≠ hsh y)
    (h : ∀ tk, Q (.bool true) { s with toks := tk }) : wpAny (model X.prog X.w) A (compareOp .NotIn u (.ref a)) Q E s := by
  obtain ⟨hx, es, ep, hd, hE⟩ := hO
  have hT : s.TypeIs (.ref a) "dict" := ⟨o, ho, hx.1⟩
  have kv := k.val ry
  have hmem := hE.mem
  show wpAny _ _ (do return .bool (!(← contains (.ref a) u))) Q E s
  refine wpAny_bind ?_
  unfold contains
  try with_reducible refine wpAny_holding ?_
  refine wpAny_bind (wpAny_specialOf hT slot_dict_contains.lookup ?_)
  show wpAny _ _ (if (some (Value.builtin "dict.__contains__") == some Value.none) = true then _ else _) _ E s
  rw [if_neg (by rw [beq_builtin_none]; exact Bool.false_ne_true)]
  refine wpAny_bind (wpAny_callSpecialUnlessNone?_slot (name := Str.ofString "__contains__") hT slot_dict_contains
    (wpAny_call_entry slot_dict_contains hT entry_dict_contains ?_ (args_dict_contains _ _)))
  show wpAny _ _ (dictGet a u >>= _) _ _ s
  refine wpAny_bind ?_
  unfold dictGet
  try with_reducible refine wpAny_holding ?_
  refine wpAny_bind (hash_of (by simpa using hu) I k ry fun tk => wpAny_bind (find_absent (s := { s with toks := tk }) kv ho hd (fun e he q => ?_) (fun e he q => ?_) (wpAny_pure ?_)))
  · obtain ⟨p, hp, _, h2⟩ := hmem e (Array.mem_toList_iff.mpr he)
    exact hne p hp (h2.symm.trans q)
  · obtain ⟨p, hp, h1, h2⟩ := hmem e (Array.mem_toList_iff.mpr he)
    rw [q] at h1
    exact hne p hp (by rw [RelV.inj h1 ry])
  · show wpAny _ _ (Builtin.Dict.pendingKey? a u >>= _) _ _ _
    exact wpAny_bind (wpAny_pendingKey_other hs (wpAny_pure ⟨_, rfl, wpAny_truthy_bool (wpAny_pure (h _))⟩))
theorem Ent.get {kvs : List (V × V)} {es : List DictEntry} (r : Ent kvs es) : ∀ {i : Nat} {p : V × V}, kvs[i]? = some p → ∃ e, es[i]? = some e ∧ RelV p.1 e.key ∧ RelV p.2 e.val ∧ e.hash = hsh p.1 := by
  induction r with
  | nil => intro i p e; simp at e
  | @cons p' q ps qs h t ih =>
    intro i p e
    cases i with
    | zero =>
      have e' : p' = p := by simpa using e
      subst e'
      exact ⟨q, by simp, h⟩
    | succ i =>
      obtain ⟨x, h1, h2⟩ := ih (i := i) (p := p) (by simpa using e)
      exact ⟨x, by simpa using h1, h2⟩

theorem odd_there {Q : Value → Shared → Prop} (hu : A.units + 1 < cLine) (I : Inv X pins σ H s) (hs : (a == sysModules) = false) (ho : s.heap.get? a = some o) (hO : OddObj o kvs) (k : IsKey H y) (hni : ∀ i, y ≠ .int i) (ry : RelV y u) {j : Nat} {z : V} (hj : kvs[j]? = some (y, z))
    (hone : ∀ i p, kvs[i]? = some p → hsh p.1 = hsh y → i = j) (h : ∀ tk, Q (.bool false) { s with toks := tk }) : wpAny (model X.prog X.w) A (compareOp .NotIn u (.ref a)) Q E s := by
  obtain ⟨hx, es, ep, hd, hE⟩ := hO
  have hT : s.TypeIs (.ref a) "dict" := ⟨o, ho, hx.1⟩
  have kv := k.val ry
  have hl : kvs.length = es.size := by simpa using Paired.length hE
  have hjl : j < kvs.length := (List.getElem?_eq_some_iff.mp hj).1
  have at_ : ∀ (i : Nat) (hi : i < es.size), ∃ p, kvs[i]? = some p ∧ RelV p.1 es[i].key ∧ RelV p.2 es[i].val ∧ es[i].hash = hsh p.1 := fun i hi => by
    have hi2 : i < kvs.length := by omega
    obtain ⟨e, h1, h2⟩ := hE.get (i := i) (p := kvs[i]) (List.getElem?_eq_getElem hi2)
    have h3 : es[i] = e := by
      rw [List.getElem?_eq_getElem (by simpa using hi)] at h1
      simpa using h1
    exact ⟨kvs[i], List.getElem?_eq_getElem hi2, by rw [h3]; exact h2⟩
  have hjs : j < es.size := by omega
  obtain ⟨pj, e1, rk, rz, hhj⟩ := at_ j hjs
  rw [hj] at e1
  cases e1
  have hkey : es[j].key = u := by
    rcases k with ⟨i, rfl⟩ | ⟨b, rfl⟩ | rfl | ⟨t, rfl, ht⟩
    · exact absurd rfl (hni i)
    · exact (show es[j].key = Value.bool b from rk).trans (show u = Value.bool b from ry).symm
    · exact (show es[j].key = Value.none from rk).trans (show u = Value.none from ry).symm
    · exact (show es[j].key = Value.ref t from rk).trans (show u = Value.ref t from ry).symm
  show wpAny _ _ (do return .bool (!(← contains (.ref a) u))) Q E s
  refine wpAny_bind ?_
  unfold contains
  try with_reducible refine wpAny_holding ?_
  refine wpAny_bind (wpAny_specialOf hT slot_dict_contains.lookup ?_)
  show wpAny _ _ (if (some (Value.builtin "dict.__contains__") == some Value.none) = true then _ else _) _ E s
  rw [if_neg (by rw [beq_builtin_none]; exact Bool.false_ne_true)]
  refine wpAny_bind (wpAny_callSpecialUnlessNone?_slot (name := Str.ofString "__contains__") hT slot_dict_contains
    (wpAny_call_entry slot_dict_contains hT entry_dict_contains ?_ (args_dict_contains _ _)))
  show wpAny _ _ (dictGet a u >>= _) _ _ s
  refine wpAny_bind ?_
  unfold dictGet
  try with_reducible refine wpAny_holding ?_
  refine wpAny_bind (hash_of (by simpa using hu) I k ry fun tk => wpAny_bind (find_there (s := { s with toks := tk }) kv ho hd hjs hkey (fun i hi => ⟨fun q => ?_, fun q => ?_⟩) (fun i hi q => ?_) ?_))
  · obtain ⟨p, e1, _, _, e4⟩ := at_ i hi
    exact hone i p e1 (e4.symm.trans q)
  · subst q
    exact hhj
  · obtain ⟨p, e1, e2, _, _⟩ := at_ i hi
    rw [q] at e2
    exact hone i p e1 (by rw [RelV.inj e2 ry])
  · refine wpAny_bind (wpAny_dictEntries (s := { s with toks := tk }) ho hd ?_)
    rw [Array.getElem?_eq_getElem hjs]
    refine wpAny_pure ?_
    show wpAny _ _ (ret (.bool true)) _ _ _
    exact wpAny_pure ⟨_, rfl, wpAny_truthy_bool (wpAny_pure (h _))⟩

theorem odd_len {Q : Value → Shared → Prop} (I : Inv X pins σ H s) (hs : (a == sysModules) = false) (ho : s.heap.get? a = some o) (hO : OddObj o kvs) (hl : kvs.length ≤ sizeLine) (h : ∀ t tk, Q (.int kvs.length t) { s with toks := tk }) :
    wpAny (model X.prog X.w) A (call (.builtin "len") [.ref a]) Q E s := by
  obtain ⟨hx, es, ep, hd, hE⟩ := hO
  have hT : s.TypeIs (.ref a) "dict" := ⟨o, ho, hx.1⟩
  have hsz : es.size = kvs.length := by
    have := Paired.length hE
    simpa using this.symm
  refine Calls.call_function_entry kind_len plain_len entry_len (args_len1 _) ?_
  unfold Builtin.«len»
  refine wpAny_bind (m := oneArg "len" _) (wpAny_pure ?_)
  refine wpAny_bind (m := callSpecial? (.ref a) (Str.ofString "__len__")) (wpAny_callSpecial?_slot (name := Str.ofString "__len__") hT F.slot_dict_len
    (wpAny_call_entry F.slot_dict_len hT F.entry_dict_len ?_ (F.args_dict_len_1 _)))
  show wpAny _ _ (dictSize a >>= _) _ _ s
  unfold dictSize
  refine wpAny_bind (wpAny_bind (wpAny_dictEntries ho hd (wpAny_pure ?_)))
  show wpAny _ _ (Builtin.Dict.pendingCount a >>= _) _ _ s
  refine wpAny_bind (wpAny_pendingCount_other hs ?_)
  refine wpAny_ret_mkInt ?_
  rw [Nat.add_zero, hsz]
  rw [sizeLine_eq] at hl
  show wpAny _ _ _ _ _ { s with toks := s.toks + 1 }
  refine wpAny_bind (wpAny_holding (wpAny_pure ?_))
  refine wpAny_bind (wpAny_letGo ?_)
  show wpAny _ _ (if ((kvs.length : Nat) : Int) < 0 then _ else _) _ _ _
  rw [if_neg (by omega)]
  show wpAny _ _ (if ((kvs.length : Nat) : Int) ≥ 2 ^ 63 then _ else _) _ _ _
  rw [if_neg (by omega)]
  exact wpAny_bind (wpAny_mkInt (wpAny_pure ⟨_, rfl, h _ _⟩))

theorem dk_odd {ms : List (Key × V)} (I : Inv X pins σ H s) (e : H a = some (.dK ms)) (hi : ∀ p ∈ ms, ∃ i, p.1 = Sum.inl i) : (a == sysModules) = false ∧ ms.length ≤ sizeLine ∧ ∃ o, s.heap.get? a = some o ∧ OddObj o (ms.map fun p => (kV p.1, p.2)) := by
  obtain ⟨z, hs, vs, rel, o, es, ep, ho, hx, hd, hk, hp, hn⟩ := dk_of I.hok e
  refine ⟨hs, z, o, ho, hx, es, ep, hd, ?_⟩
  have hk' : ∀ e ∈ es.toList, ∃ k, (mixKind X.prog X.w).is k e.key = true ∧ e.hash = (mixKind X.prog X.w).hash k := fun e he => hk e (Array.mem_toList_iff.mp he)
  clear hk hn hd e z
  generalize es.toList = el at hk' hp
  induction hp generalizing ms with
  | nil => cases rel; exact .nil
  | @cons x kv el' vs' h1 h2 h3 ih =>
    cases rel with
    | @cons p _ ps _ hpq ht =>
      refine .cons ?_ (ih (fun q hq => hi q (List.mem_cons_of_mem _ hq)) ht (fun e he => hk' e (List.mem_cons_of_mem _ he)))
      obtain ⟨i, hpi⟩ := hi p List.mem_cons_self
      obtain ⟨k', g1, g2⟩ := hk' x List.mem_cons_self
      have ek : kv.1 = k' := (mixKind X.prog X.w).inj _ _ _ h1 g1
      have ep : p.1 = kv.1 := hpq.1
      refine ⟨(show RelV (kV p.1) x.key by rw [ep]; exact is_kV h1), (show RelV p.2 x.val by rw [h2]; exact hpq.2), (show x.hash = hsh (kV p.1) from ?_)⟩
      rw [g2, ← ek, ← ep, hpi]
      rfl
end

section
variable {prog : Program} {w : World} {A : Around} {E : Value → Shared → Prop} {s : Shared}

theorem raw_items {d : Addr} {o : Obj} {es : Array DictEntry} {ep : Nat} {Q : Value → Shared → Prop} (hs : (d == sysModules) = false) (ho : s.heap.get? d = some o) (hx : o.ExactDict) (hd : o.data = .dict es ep)
    (h : Q (.ref s.heap.objs.size) { s with heap := s.heap.push { cls := .type "dict_items", data := .fields #[.ref d] } }) : wpAny (model prog w) A (call (.builtin "dict.items") [.ref d]) Q E s := by
  have hT : s.TypeIs (.ref d) "dict" := ⟨o, ho, hx.1⟩
  refine wpAny_call_entry PySem.F.slot_dict_items hT PySem.F.entry_dict_items ?_ (PySem.F.args_dict_items_1 _)
  unfold Builtin.«dict.items»
  refine wpAny_bind ?_
  unfold Builtin.Dict.noArgs
  refine wpAny_bind (wpAny_notOrdered_dict hT (show wpAny _ _ (pure d) _ _ s from wpAny_pure ?_))
  show wpAny _ _ (Builtin.Dict.showsAll d >>= _) _ _ s
  unfold Builtin.Dict.showsAll
  rw [if_neg (by rw [hs]; decide)]
  exact wpAny_bind (wpAny_pure (wpAny_bind (wpAny_newObj_type (wpAny_pure ⟨_, rfl, h⟩))))
theorem raw_iter {v d : Addr} {o : Obj} {es : Array DictEntry} {ep : Nat} {Q : Value → Shared → Prop} (hv : s.heap.IsItemsView v d) (ho : s.heap.get? d = some o) (hd : o.data = .dict es ep)
    (h : Q (.ref s.heap.objs.size) { s with heap := s.heap.push { cls := .type "dict_itemiterator", data := .fields #[.none, .bool false, .ref d, .int 0 0, .int es.size 0, .int ep 0, .none, .none] } }) :
    wpAny (model prog w) A (pyIter (.ref v)) Q E s := by
  have hT := hv.typeIs
  obtain ⟨ov, hov, hcv, hdv⟩ := hv
  refine wpAny_pyIter_slot hT F.slot_dict_items_iter (wpAny_call_entry F.slot_dict_items_iter hT F.entry_dict_items_iter ?_ (F.args_dict_items_iter_1 _))
  unfold Builtin.«dict_items.__iter__»
  refine wpAny_bind (wpAny_pure (wpAny_bind ?_))
  unfold Builtin.Dict_items.dictOf
  refine wpAny_bind (wpAny_field hov hdv (x := .ref d) rfl (wpAny_pure (wpAny_bind ?_)))
  unfold Builtin.Dict_items.newIterator
  refine wpAny_bind (wpAny_dictEntries ho hd (wpAny_bind (wpAny_dictEpoch ho hd ?_)))
  simp only [show Builtin.Dict_items.ownsTuple "dict_itemiterator" = true by decide, if_true]
  refine wpAny_newObj_type (wpAny_pure ⟨_, rfl, "dict_itemiterator", _, ⟨_, Heap.get?_push_size _ rfl, rfl⟩, F.slot_dict_itemiterator_next.lookup, ?_⟩)
    (by simp only [sizeOk, Builtin.Dict_items.ownedTupleFields, List.size_toArray, List.length_append, List.length_cons, List.length_nil, sizeLine_eq]; omega)
  simpa [rawInt, Builtin.Dict_items.ownedTupleFields] using h
theorem raw_next {it d : Addr} {i ep : Nat} {o : Obj} {es : Array DictEntry} {ok ov : Value} {Q : Option Value → Shared → Prop} (hit : IsItemIter s.heap it d i es.size ep ok ov) (ho : s.heap.get? d = some o) (hd : o.data = .dict es ep) (hi : i < es.size)
    (h : ∀ h', IsItemIterOut h' it d (i + 1) es.size ep es[i].key es[i].val s.heap.objs.size → h'.get? s.heap.objs.size = some { cls := .type "tuple", data := .seq #[es[i].key, es[i].val] } → h'.objs.size = s.heap.objs.size + 1 →
      (∀ b o, b ≠ it → s.heap.get? b = some o → h'.get? b = some o) → Q (some (.ref s.heap.objs.size)) { s with heap := h' }) : wpAny (model prog w) A (pyNext (.ref it)) Q E s := by
  obtain ⟨hp, g, dr, tk, os⟩ := s
  have hT : Shared.TypeIs ⟨hp, g, dr, tk, os⟩ (.ref it) "dict_itemiterator" := ⟨_, hit, rfl⟩
  unfold pyNext
  refine wpAny_bind (wpAny_attempt (wpAny_callSpecial?_slot (name := Str.ofString "__next__") hT F.slot_dict_itemiterator_next (wpAny_call_entry F.slot_dict_itemiterator_next hT F.entry_dict_itemiterator_next ?_ (F.args_dict_itemiterator_next_1 _))))
  refine wpAny_bind (wpAny_pure (wpAny_bind (wpAny_bind ?_)))
  first | refine wpAny_bind (wpAny_typeNameOfWhole_itemiter hT (wpAny_pure (wpAny_bind (wpAny_fieldsOf hit rfl ?_)))) | refine wpAny_bind (wpAny_typeNameOf_itemiter hT (wpAny_pure (wpAny_bind (wpAny_fieldsOf hit rfl ?_))))
  simp only [show Builtin.Dict_items.ownsTuple "dict_itemiterator" = true by decide, if_true]
  show wpAny _ _ (if (Value.ref d == Value.none) = true then _ else _) _ _ _
  have nz : ¬ (Value.ref d == Value.none) = true := Bool.false_ne_true
  rw [if_neg nz]
  refine wpAny_bind (wpAny_pure (wpAny_bind (wpAny_dictEntries ho hd ?_)))
  rw [if_neg (by simp)]
  refine wpAny_bind (wpAny_pure (wpAny_bind (wpAny_dictEpoch ho hd ?_)))
  rw [if_neg (by simp)]
  refine wpAny_pure ?_
  simp only [show ¬ ((i : Int) < 0) from by omega, if_false, Int.toNat_natCast, Array.getElem?_eq_getElem hi]
  refine wpAny_bind ?_
  first | refine wpAny_bind (wpAny_typeNameOfWhole_itemiter hT (wpAny_pure (wpAny_bind (wpAny_isOneOf_itemiter hT ?_)))) | refine wpAny_bind (wpAny_typeNameOf_itemiter hT (wpAny_pure (wpAny_bind (wpAny_isOneOf_itemiter hT ?_))))
  show wpAny _ _ (setField (.ref it) 3 (rawInt ((i : Int) + 1)) >>= _) _ _ ⟨hp, g, dr, tk, os⟩
  refine wpAny_bind (wpAny_setField_rec hit (by simp) fun g1 q1 k1 => ?_)
  replace k1 : Heap.SameBut it hp g1 := k1
  replace q1 : IsItemIter g1 it d (i + 1) es.size ep ok ov := by
    have e : ((i + 1 : Nat) : Int) = (i : Int) + 1 := by omega
    unfold IsItemIter
    rw [e]
    simpa [rawInt] using q1
  have hT1 : Shared.TypeIs ⟨g1, g, dr, tk, os⟩ (.ref it) "dict_itemiterator" := ⟨_, q1, rfl⟩
  refine wpAny_bind (wpAny_holding (wpAny_bind (wpAny_isOneOf_itemiter hT1 (wpAny_bind (wpAny_isOneOf_itemiter hT1 ?_)))))
  show wpAny _ _ (Builtin.Dict_items.pairFromOwner (.ref it) 6 es[i].key es[i].val) _ _ ⟨g1, g, dr, tk, os⟩
  unfold Builtin.Dict_items.pairFromOwner
  refine wpAny_bind (wpAny_newTuple ?_)
  have q2 : IsItemIter (g1.push { cls := .type "tuple", data := .seq #[es[i].key, es[i].val] }) it d (i + 1) es.size ep ok ov := Heap.get?_push_of_some _ q1
  have z1 : g1.objs.size = hp.objs.size := k1.1
  have il : it < hp.objs.size := Heap.lt_size hit
  have t2 : (g1.push { cls := .type "tuple", data := .seq #[es[i].key, es[i].val] }).get? hp.objs.size = some { cls := .type "tuple", data := .seq #[es[i].key, es[i].val] } := by rw [← z1]; exact Heap.get?_push_size _ rfl
  have z2 : (g1.push { cls := .type "tuple", data := .seq #[es[i].key, es[i].val] }).objs.size = hp.objs.size + 1 := by rw [Heap.size_push, z1]
  have k2 : ∀ b o, b ≠ it → hp.get? b = some o → (g1.push { cls := .type "tuple", data := .seq #[es[i].key, es[i].val] }).get? b = some o := fun b o hb e => Heap.get?_push_of_some _ (k1.extBut b o hb e)
  generalize g1.push { cls := .type "tuple", data := .seq #[es[i].key, es[i].val] } = g2 at q2 t2 z2 k2
  show wpAny _ _ (Builtin.Dict_items.ownedTupleIsFree (.ref it) >>= _) _ _ ⟨g2, g, dr, tk, os⟩
  rw [z1]
  refine wpAny_bind ?_
  unfold Builtin.Dict_items.ownedTupleIsFree
  refine wpAny_bind (wpAny_field q2 rfl (x := .none) rfl (wpAny_pure ?_))
  simp only [if_true]
  refine wpAny_bind (wpAny_field q2 rfl (x := ok) rfl (wpAny_bind (wpAny_field q2 rfl (x := ov) rfl ?_)))
  refine wpAny_bind (wpAny_setField_rec q2 (by simp) fun g3 q3 k3 => ?_)
  replace k3 : Heap.SameBut it g2 g3 := k3
  replace q3 : IsItemIter g3 it d (i + 1) es.size ep es[i].key ov := q3
  refine wpAny_bind (wpAny_setField_rec q3 (by simp) fun g4 q4 k4 => ?_)
  replace k4 : Heap.SameBut it g3 g4 := k4
  replace q4 : IsItemIter g4 it d (i + 1) es.size ep es[i].key es[i].val := q4
  refine wpAny_bind (wpAny_setField_rec q4 (by simp) fun g5 q5 k5 => ?_)
  replace k5 : Heap.SameBut it g4 g5 := k5
  replace q5 : IsItemIterOut g5 it d (i + 1) es.size ep es[i].key es[i].val hp.objs.size := q5
  refine wpAny_bind (wpAny_setField_rec q5 (by simp) fun g6 q6 k6 => ?_)
  replace k6 : Heap.SameBut it g5 g6 := k6
  replace q6 : IsItemIterOut g6 it d (i + 1) es.size ep es[i].key es[i].val hp.objs.size := q6
  have up : ∀ b o, b ≠ it → g2.get? b = some o → g6.get? b = some o := fun b o n e => k6.extBut b o n (k5.extBut b o n (k4.extBut b o n (k3.extBut b o n e)))
  refine wpAny_bind (wpAny_letGo (wpAny_pure (wpAny_pure ⟨_, rfl, wpAny_pure (h g6 q6 (up _ _ (Nat.ne_of_gt il) t2) ?_ fun b o n e => up b o n (k2 b o n e))⟩)))
  show g6.objs.size = hp.objs.size + 1
  rw [k6.1, k5.1, k4.1, k3.1, z2]
theorem raw_end {it d : Addr} {i ep : Nat} {o : Obj} {es : Array DictEntry} {ok ov : Value} {Q : Option Value → Shared → Prop} (hh : A.handled = none) (hit : IsItemIter s.heap it d i es.size ep ok ov) (ho : s.heap.get? d = some o) (hd : o.data = .dict es ep) (hi : es.size ≤ i)
    (h : ∀ h', Heap.ExtBut it s.heap h' → Q none { s with heap := h' }) : wpAny (model prog w) A (pyNext (.ref it)) Q E s := by
  have hT : s.TypeIs (.ref it) "dict_itemiterator" := ⟨_, hit, rfl⟩
  unfold pyNext
  refine wpAny_bind (wpAny_attempt (wpAny_callSpecial?_slot (name := Str.ofString "__next__") hT F.slot_dict_itemiterator_next (wpAny_call_entry F.slot_dict_itemiterator_next hT F.entry_dict_itemiterator_next ?_ (F.args_dict_itemiterator_next_1 _))))
  refine wpAny_bind (wpAny_pure (wpAny_bind (wpAny_bind ?_)))
  first | refine wpAny_bind (wpAny_typeNameOfWhole_itemiter hT (wpAny_pure (wpAny_bind (wpAny_fieldsOf hit rfl ?_)))) | refine wpAny_bind (wpAny_typeNameOf_itemiter hT (wpAny_pure (wpAny_bind (wpAny_fieldsOf hit rfl ?_))))
  simp only [show Builtin.Dict_items.ownsTuple "dict_itemiterator" = true by decide, if_true]
  show wpAny _ _ (if (Value.ref d == Value.none) = true then _ else _) _ _ s
  have nz : ¬ (Value.ref d == Value.none) = true := Bool.false_ne_true
  rw [if_neg nz]
  refine wpAny_bind (wpAny_pure (wpAny_bind (wpAny_dictEntries ho hd ?_)))
  rw [if_neg (by simp)]
  refine wpAny_bind (wpAny_pure (wpAny_bind (wpAny_dictEpoch ho hd ?_)))
  rw [if_neg (by simp)]
  refine wpAny_pure ?_
  simp only [show ¬ ((i : Int) < 0) from by omega, if_false, Int.toNat_natCast, Array.getElem?_eq_none hi]
  refine wpAny_bind ?_
  first | refine wpAny_bind (wpAny_typeNameOfWhole_itemiter hT (wpAny_pure ?_)) | refine wpAny_bind (wpAny_typeNameOf_itemiter hT (wpAny_pure ?_))
  show wpAny _ _ (setField (.ref it) 2 .none >>= _) _ _ s
  refine wpAny_bind (wpAny_setField hit rfl (by simp) ?_)
  show wpAny _ _ (newExc (.type "StopIteration") [] >>= _) _ _ _
  refine wpAny_bind ?_
  simp only [newExc, newTuple]
  refine wpAny_bind (wpAny_newObj_type (wpAny_bind (m := firstArgMember _ _) (wpAny_of_eq (a := Value.none) (by first | rfl | (simp only [firstArgMember]; rfl)) (wpAny_newObj_type ?_ (by size_fits)))) (by size_fits))
  simp only [raiseNew]
  refine wpAny_bind (wpAny_handled ?_)
  rw [show A.in1.handled = none from hh]
  refine wpAny_bind (wpAny_pure (wpAny_throw ?_))
  refine wpAny_bind (wpAny_isInstance (T := "StopIteration") (b := true) ⟨_, Heap.get?_push_size _ rfl, rfl⟩ isSubtype_stop (wpAny_pure ?_))
  exact (h _ (((Heap.SameBut.update ..).extBut.push _).push _))
end


noncomputable def ItmX (d : Addr) (o : Obj) (kvs : List (V × V)) : It :=
  ⟨fun i H => H d = some (XO d o) ∧ i < kvs.length,
   fun i H x H' => ∃ p k v, H p = none ∧ x = .ref p ∧ H' = upd H p (.tup [k, v]) ∧ kvs[i]? = some (k, v),
   fun i H => H d = some (XO d o) ∧ kvs.length ≤ i⟩
theorem turn_odd {P : Program} {w : World} {K : PySem.W.Frag} {tes : List Expr} {x1 : Nat} {tpos : Pos} (d it : Addr) (o : Obj) {es : Array DictEntry} {ep : Nat} {kvs : List (V × V)} (hd : o.data = .dict es ep) (hE : Ent kvs es.toList) :
    Turn P w K (.Tuple tes x1 tpos) (ItmX d o kvs) [it] it (fun i h => ∃ ok ov, IsItemIter h it d i es.size ep ok ov) where
  mem := by simp
  obj := fun i h st b hb => by
    obtain ⟨ok, ov, h1⟩ := st
    have z : b = it := by simpa using hb
    subst z
    exact ⟨_, h1, fun v q => by cases (show Data.fields _ = Data.cell v from q)⟩
  keep := fun i h h' st k => by
    obtain ⟨ok, ov, h1⟩ := st
    exact ⟨ok, ov, k it (by simp) _ h1⟩
  item := by
    intro X hP hw hK hc i pins s σ H E I hf st hg
    subst hP hw hK
    obtain ⟨ok, ov, hit⟩ := st
    obtain ⟨hz, hi⟩ := hg
    have ho := odd_obj I hz
    have hl : kvs.length = es.size := by simpa using Paired.length hE
    have hie : i < es.size := by omega
    obtain ⟨e, he1, rk, rv, _⟩ := hE.get (i := i) (p := kvs[i]) (List.getElem?_eq_getElem hi)
    have he2 : es[i] = e := by
      rw [List.getElem?_eq_getElem (by simpa using hie)] at he1
      simpa using he1
    subst he2
    have lti : it < s.heap.objs.size := Heap.lt_size hit
    have hfresh : H s.heap.objs.size = none := I.hok.fresh (Nat.le_refl _)
    refine raw_next hit ho hd hie fun h' hout htup hsz' hk => ?_
    refine ⟨_, rfl, wpAny_letOwnedTupleGo_items hout fun h3 hen hsb => ?_⟩
    replace hsb : Heap.SameBut it h' h3 := hsb
    have kk : ∀ b ob, b ∉ [it] → s.heap.get? b = some ob → h3.get? b = some ob := fun b ob n z => by
      have n1 : b ≠ it := by simpa using n
      exact (hsb.2 b n1).trans (hk b ob n1 z)
    have ht3 : h3.get? s.heap.objs.size = some { cls := .type "tuple", data := .seq #[es[i].key, es[i].val] } := (hsb.2 _ (Nat.ne_of_gt lti)).trans htup
    have ntr : ∀ c ob, H c = some ob → c ∉ [it] := fun c ob e hm => by rw [(hf c hm).1] at e; cases e
    have nsz : ∀ b ob, H b = some ob → b ≠ s.heap.objs.size := fun b ob z => ne_of_none z hfresh
    refine ⟨.ref s.heap.objs.size, upd H s.heap.objs.size (.tup [kvs[i].1, kvs[i].2]), ?_, rfl, ⟨s.heap.objs.size, _, _, hfresh, rfl, rfl, List.getElem?_eq_getElem hi⟩, ⟨_, _, hen⟩, fun b hb => ?_⟩
    · refine Inv.step (s := s) (h' := h3) (t' := s.toks) (H' := upd H s.heap.objs.size (.tup [kvs[i].1, kvs[i].2])) I (g' := s.gens) (d' := s.drawn) (ch := [it]) (fun b hb => ?_) (fun b ob _ _ hb z _ => kk b ob hb z) (fun b ob _ _ hb z _ => ⟨ob.slots, kk b ob hb z⟩) (fun b ob hb z n => ?_) (fun b ob hb z => ⟨ob, kk b ob hb z⟩)
        (fun b ys z => by rw [upd_ne (nsz b _ z)]; exact z) (fun b ob w' z => by rw [upd_ne (nsz b _ z)]; exact z) (fun b ps z => ⟨#[], by rw [upd_ne (nsz b _ z), z]; simp⟩) (fun m hm => ?_) (fun b w' z => ?_) I.bare
      · have f := hf b hb
        exact ⟨f.2.2.2.1, f.2.1, f.2.2.2.2.1, f.2.2.2.2.2⟩
      · rw [upd_ne (Nat.ne_of_lt (Heap.lt_size z))]
        exact n
      · obtain ⟨ob, es', ep', hob, r⟩ := hm
        exact ⟨ob, es', ep', kk _ ob (fun q => (hf _ q).2.1 rfl) hob, r⟩
      · by_cases hb : b = s.heap.objs.size
        · subst hb
          rw [upd_same] at z
          cases z
          exact ⟨(by show (2 : Nat) ≤ sizeLine; decide), [es[i].key, es[i].val], .cons rk (.cons rv .nil), ⟨_, ht3, rfl, rfl, _, rfl⟩⟩
        · rw [upd_ne hb] at z
          refine (I.hok b w' z).stay (fun c y hc' q => ?_) (fun c q => by rw [upd_ne (nsz c _ q)]; exact q) fun c ys q => by rw [upd_ne (nsz c _ q)]; exact q
          rcases hc' with rfl | hc'
          · exact kk _ _ (ntr _ _ z) q
          · exact kk _ _ (ntr _ _ hc') q
    · have z : b = it := by simpa using hb
      subst z
      rw [upd_ne (Nat.ne_of_lt lti)]
      exact (hf b hb).1
  done := by
    intro X hP hw hK hc i pins s σ H E I hf st hg
    subst hP hw hK
    obtain ⟨ok, ov, hit⟩ := st
    obtain ⟨hz, hx⟩ := hg
    have ho := odd_obj I hz
    have hl : kvs.length = es.size := by simpa using Paired.length hE
    exact raw_end (I.ok.hd hc) hit ho hd (by omega) fun h' eb => ⟨rfl, I.turnedN (t' := s.toks) (fp := [it]) (fun b ob hb z => eb b ob (by simpa using hb) z) hf⟩
  self := fun _ _ _ _ _ st h => by
    obtain ⟨ok, ov, hit⟩ := st
    exact pyIter_itemiter hit h

noncomputable def iItemsX (td : TE) : TI := fun σ H R => td σ H fun x H1 => (∃ d o kvs, x = .ref d ∧ H1 d = some (.frz o (.dK kvs)) ∧ R (Itm d o) H1) ∨
  ∃ d o kvs, x = .ref d ∧ (d == sysModules) = false ∧ H1 d = some (XO d o) ∧ OddObj o kvs ∧ R (ItmX d o kvs) H1
theorem pi_itemsX {X : Cx} {tes : List Expr} {x1 : Nat} {tpos apos cpos : Pos} {e : Expr} {td : TE} (he : PE X e td)
    (hbase : attributeBase e "items" X.env (eval e X.env) = eval e X.env := by rfl) (hline : (apos.endLine == cpos.line) = true := by rfl) : PI X (.Tuple tes x1 tpos) (.Call (.Attribute e "items" apos) [] [] cpos) (iItemsX td) := by
  intro pins s σ H R I h
  refine wpAny_Call_method0_late hbase hline (thn (he pins s σ H _ I h) fun v s1 hm1_ => ?_)
  obtain ⟨x, H1, I1, r1, hq⟩ := hm1_
  rcases hq with ⟨d, o, kvs, ex, hz, q⟩ | ⟨d, o, kvs, ex, hsys, hz, hO, q⟩
  · subst ex
    obtain rfl : v = Value.ref d := r1
    obtain ⟨ho, hsys, hl, vs, es, ep, rel, hd, hsz, exd, hm⟩ := frz_at I1 hz
    refine ⟨"dict", "dict.items", PySem.F.plainAttrs_dict, PySem.F.slot_dict_items, PySem.F.type_dict_items, ⟨o, ho, exd.1⟩, fun b e => by cases e; exact ⟨o, ho, exd.2.1⟩, Calls.callWith_builtin rfl (PySem.evalArgs_none ?_)⟩
    refine raw_items hsys ho exd hd ?_
    have I2 : Inv X pins σ H1 { s1 with heap := s1.heap.push { cls := .type "dict_items", data := .fields #[.ref d] } } := I1.kept (t' := s1.toks) fun b ob z => Heap.get?_push_of_some _ z
    refine raw_iter (s := { s1 with heap := s1.heap.push { cls := .type "dict_items", data := .fields #[.ref d] } }) (v := s1.heap.objs.size) (d := d) ⟨_, Heap.get?_push_size _ rfl, rfl, rfl⟩ (Heap.get?_push_of_some _ ho) hd ?_
    refine ⟨_, [_], _, Itm d o, H1, rfl, I2.kept (t' := s1.toks) fun b ob z => Heap.get?_push_of_some _ z, turn_items d _ o hd, ⟨.none, .none, Heap.get?_push_size _ rfl⟩, fun b hb => ?_, q⟩
    have z : b = (s1.heap.push { cls := .type "dict_items", data := .fields #[.ref d] }).objs.size := by simpa using hb
    subst z
    exact I2.fpOk (Nat.le_refl _) (I2.hok.fresh (Nat.le_refl _))
  · subst ex
    obtain rfl : v = Value.ref d := r1
    obtain ⟨exd, es, ep, hd, hE⟩ := hO
    have ho := odd_obj I1 hz
    refine ⟨"dict", "dict.items", PySem.F.plainAttrs_dict, PySem.F.slot_dict_items, PySem.F.type_dict_items, ⟨o, ho, exd.1⟩, fun b e => by cases e; exact ⟨o, ho, exd.2.1⟩, Calls.callWith_builtin rfl (PySem.evalArgs_none ?_)⟩
    refine raw_items hsys ho exd hd ?_
    have I2 : Inv X pins σ H1 { s1 with heap := s1.heap.push { cls := .type "dict_items", data := .fields #[.ref d] } } := I1.kept (t' := s1.toks) fun b ob z => Heap.get?_push_of_some _ z
    refine raw_iter (s := { s1 with heap := s1.heap.push { cls := .type "dict_items", data := .fields #[.ref d] } }) (v := s1.heap.objs.size) (d := d) ⟨_, Heap.get?_push_size _ rfl, rfl, rfl⟩ (Heap.get?_push_of_some _ ho) hd ?_
    refine ⟨_, [_], _, ItmX d o kvs, H1, rfl, I2.kept (t' := s1.toks) fun b ob z => Heap.get?_push_of_some _ z, turn_odd d _ o hd hE, ⟨.none, .none, Heap.get?_push_size _ rfl⟩, fun b hb => ?_, q⟩
    have z : b = (s1.heap.push { cls := .type "dict_items", data := .fields #[.ref d] }).objs.size := by simpa using hb
    subst z
    exact I2.fpOk (Nat.le_refl _) (I2.hok.fresh (Nat.le_refl _))



noncomputable def OddOf (H : Hp) (a : Addr) (kvs : List (V × V)) : Prop := OddAt H a kvs ∨ ∃ ms : List (Key × V), H a = some (.dK ms) ∧ (∀ p ∈ ms, ∃ i, p.1 = Sum.inl i) ∧ kvs = ms.map fun p => (kV p.1, p.2)
theorem OddOf.raw {X : Cx} {pins : List (Addr × Obj)} {σ : St} {H : Hp} {s : Shared} {a : Addr} {kvs : List (V × V)} (I : Inv X pins σ H s) (h : OddOf H a kvs) : Mut (H a) ∧ (a == sysModules) = false ∧ ∃ o, s.heap.get? a = some o ∧ OddObj o kvs := by
  rcases h with ⟨hs, o, e, hO⟩ | ⟨ms, e, hi, rfl⟩
  · exact ⟨by rw [e]; exact True.intro, hs, o, odd_obj I e, hO⟩
  · obtain ⟨hs, _, o, ho, hO⟩ := dk_odd I e hi
    exact ⟨by rw [e]; exact True.intro, hs, o, ho, hO⟩

noncomputable def sDPutX (td ty tv : TE) : TS := fun D σ H => tv σ H fun v H1 => td σ H1 fun x H2 => ty σ H2 fun y H3 => ∃ a, x = .ref a ∧ ((∃ H4, DPut H3 a y v H4 ∧ D.nx σ H4) ∨
  ∃ kvs, OddOf H3 a kvs ∧ IsKey H3 y ∧ (∀ p ∈ kvs, hsh p.1 ≠ hsh y) ∧ kvs.length < sizeLine ∧ ∀ o', OddAt (upd H3 a (XO a o')) a (kvs ++ [(y, v)]) → D.nx σ (upd H3 a (XO a o')))
noncomputable def rNotInX : R2 := fun x y H Q => ∃ a, y = .ref a ∧ ((∃ kvs k, H a = some (.dK kvs) ∧ x = kV k ∧ Q (.bl (!(valV kvs k).isSome)) H) ∨
  (∃ kvs, OddOf H a kvs ∧ IsKey H x ∧ (∀ p ∈ kvs, hsh p.1 ≠ hsh x) ∧ Q (.bl true) H) ∨
  ∃ (kvs : List (V × V)) (j : Nat) (z : V), OddOf H a kvs ∧ IsKey H x ∧ (∀ i, x ≠ .int i) ∧ kvs[j]? = some (x, z) ∧ (∀ (i : Nat) (p : V × V), kvs[i]? = some p → hsh p.1 = hsh x → i = j) ∧ Q (.bl false) H)
section
variable {X : Cx} {o i e value : Expr} {pos pos' tpos : Pos} {td ty tv : TE}
theorem ps_dputX (hu : X.A.units + 1 < cLine) (ho : PE X o td) (hi : PE X i ty) (hv : PE X value tv) (hs : swapsWith value (some (.Subscript o i pos')) pos.line X.env = pure false) :
    PS X (.Assign [.Subscript o i pos'] value pos) (sDPutX td ty tv) := by
  intro pins s σ H D I h
  refine wpAny_Assign_Subscript (thn (hv pins s σ H _ I h) fun r s1 hm1_ => ?_) hs
  obtain ⟨v, H1, I1, rv, q1⟩ := hm1_
  refine thn (ho pins s1 σ H1 _ I1 q1) fun u s2 hm2_ => ?_
  obtain ⟨x, H2, I2, rx, q2⟩ := hm2_
  refine thn (hi pins s2 σ H2 _ I2 q2) fun iv s3 hm3_ => ?_
  obtain ⟨y, H3, I3, ry, a, ex, g⟩ := hm3_
  subst ex
  obtain rfl : u = Value.ref a := rx
  rcases g with ⟨H4, g, q3⟩ | ⟨kvs, hO, hk, hne, hl, q3⟩
  · exact d_setItem hu I3 g ry rv fun s4 I4 => ⟨σ, H4, I4, q3⟩
  · obtain ⟨mu, hsys, ob, hob, hOb⟩ := hO.raw I3
    exact odd_set hu I3 mu hob hOb hk ry rv hne hl fun o' s4 hO' I4 => ⟨σ, _, I4, q3 o' ⟨hsys, o', upd_same, hO'⟩⟩
theorem op_notInX (hu : X.A.units + 1 < cLine) : OpR X (compareOp .NotIn) rNotInX := by
  intro pins s σ H x y v u Q I rx ry h
  obtain ⟨a, rfl, h⟩ := h
  obtain rfl : u = Value.ref a := ry
  rcases h with ⟨kvs, k, ha, rfl, q⟩ | ⟨kvs, hO, hk, hne, q⟩ | ⟨kvs, j, z, hO, hk, hni, hj, hone, q⟩
  · exact d_notIn hu I (.k ha) rx fun s3 I3 => ⟨.bl (!(valV kvs k).isSome), H, I3, rfl, q⟩
  · obtain ⟨mu, hsys, ob, hob, hOb⟩ := hO.raw I
    exact odd_notIn hu I hsys hob hOb hk rx hne fun tk => ⟨.bl true, H, I.tok tk, rfl, q⟩
  · obtain ⟨mu, hsys, ob, hob, hOb⟩ := hO.raw I
    exact odd_there hu I hsys hob hOb hk hni rx hj hone fun tk => ⟨.bl false, H, I.tok tk, rfl, q⟩
theorem call_lenX : CallR X (.builtin "len") (fun xs H Q => ∃ a, xs = [V.ref a] ∧ ((∃ kvs, Rd H a (.dK kvs) ∧ Q (.int kvs.length) H) ∨ ∃ kvs, OddOf H a kvs ∧ kvs.length ≤ sizeLine ∧ Q (.int kvs.length) H)) := by
  intro pins s σ H xs us Q I r h
  obtain ⟨a, rfl, h⟩ := h
  obtain ⟨u, rfl, ru⟩ := vals1 r
  cases ru
  rcases h with ⟨kvs, ha, q⟩ | ⟨kvs, hO, hl, q⟩
  · exact d_len I ha fun t s' I' => ⟨.int kvs.length, H, I', ⟨t, rfl⟩, q⟩
  · obtain ⟨mu, hsys, ob, hob, hOb⟩ := hO.raw I
    exact odd_len I hsys hob hOb hl fun t tk => ⟨.int kvs.length, H, I.tok tk, ⟨t, rfl⟩, q⟩

theorem call_isiO {K : PySem.W.Frag} (hK : X.K = K := by rfl) : CallR X (.builtin "isinstance") (fun xs H Q => ∃ x n, xs = [x, .ty n] ∧ (n = "int" ∨ n = "bool" ∨ n = "str" ∨ n = "tuple" ∨ n = "list" ∨ n = "dict") ∧
    ((∃ d, RepA K H x d ∧ Q (.bl (isA n d)) H) ∨ (∃ a kvs, x = .ref a ∧ OddAt H a kvs ∧ Q (.bl (n == "dict")) H) ∨ ∃ a us, x = .ref a ∧ H a = some (.lst us) ∧ Q (.bl (n == "list")) H)) := by
  intro pins s σ H xs us Q I r h
  obtain ⟨x, n, e, hn, h⟩ := h
  rcases h with ⟨d, hx, q⟩ | ⟨a, kvs, rfl, ⟨hs, ob, ha, hO⟩, q⟩ | ⟨a, vs, rfl, ha, q⟩
  · exact call_isiA hK pins s σ H xs us Q I r ⟨x, n, d, e, hn, hx, q⟩
  · subst e
    obtain ⟨u, v, rfl, rx, rt⟩ := vals2 r
    cases rt
    cases rx
    have ho := odd_obj I ha
    have ex := hO.1
    rcases hn with rfl | rfl | rfl | rfl | rfl | rfl
    · exact PySem.IsiPair.dict_int ho ex.1 ⟨.bl false, H, I.tok _, rfl, q⟩
    · exact PySem.IsiPair.dict_bool ho ex.1 ⟨.bl false, H, I.tok _, rfl, q⟩
    · exact PySem.IsiPair.dict_str ho ex.1 ⟨.bl false, H, I.tok _, rfl, q⟩
    · exact PySem.IsiPair.dict_tuple ho ex.1 ⟨.bl false, H, I.tok _, rfl, q⟩
    · exact PySem.IsiPair.dict_list ho ex.1 ⟨.bl false, H, I.tok _, rfl, q⟩
    · exact PySem.IsiPair.dict_dict ho ex.1 ⟨.bl true, H, I, rfl, q⟩
  · subst e
    obtain ⟨u, v, rfl, rx, rt⟩ := vals2 r
    cases rt
    cases rx
    obtain ⟨_, its, m, _, ho⟩ := (show ObjOk X.prog X.w H s.heap a (.lst vs) from I.hok a _ ha)
    rcases hn with rfl | rfl | rfl | rfl | rfl | rfl
    · exact PySem.IsiPair.list_int ho rfl ⟨.bl false, H, I.tok _, rfl, q⟩
    · exact PySem.IsiPair.list_bool ho rfl ⟨.bl false, H, I.tok _, rfl, q⟩
    · exact PySem.IsiPair.list_str ho rfl ⟨.bl false, H, I.tok _, rfl, q⟩
    · exact PySem.IsiPair.list_tuple ho rfl ⟨.bl false, H, I.tok _, rfl, q⟩
    · exact PySem.IsiPair.list_list ho rfl ⟨.bl true, H, I, rfl, q⟩
    · exact PySem.IsiPair.list_dict ho rfl ⟨.bl false, H, I.tok _, rfl, q⟩

theorem comp_itemsX {g : TG} {tc : TT} {te : TE} {D : Addr} {Q : Hp → Prop} {τ : St} {H : Hp} {d : Addr} {o : Obj} {kvs : List (V × V)} (Pv : Nat → List V → St → Hp → Prop) (h0 : Pv 0 [] τ H) (hl : ∀ i zs τ H, i ≤ kvs.length → Pv i zs τ H → H d = some (XO d o))
    (hs : ∀ i k v zs τ H p, kvs[i]? = some (k, v) → Pv i zs τ H → H p = none → g (.ref p) τ (upd H p (.tup [k, v])) fun τ2 H2 => tc τ2 H2 fun b H3 => if b = true then te τ2 H3 fun y H4 => H4 D = some (.lst zs) ∧ zs.length < sizeLine ∧ Pv (i + 1) (zs ++ [y]) τ2 (upd H4 D (.lst (zs ++ [y]))) else Pv (i + 1) zs τ2 H3)
    (hd : ∀ zs τ H, Pv kvs.length zs τ H → Q H) : RunC (ItmX d o kvs) g tc te D Q τ H := by
  refine ⟨fun i m zs τ H => m = kvs.length - i ∧ i ≤ kvs.length ∧ Pv i zs τ H, ⟨kvs.length, by simp, Nat.zero_le _, h0⟩, ?_⟩
  rintro i m zs τ H ⟨rfl, hi, pp⟩
  have q := hl i zs τ H hi pp
  by_cases hlt : i < kvs.length
  · refine .inr ⟨⟨q, hlt⟩, Pv (i + 1), fun ys' τ' H' p' => ⟨kvs.length - (i + 1), by omega, rfl, hlt, p'⟩, fun x H' y => ?_⟩
    obtain ⟨p, k, v, hp, rfl, rfl, y⟩ := y
    exact hs i k v zs τ _ p y pp hp
  · have e : i = kvs.length := by omega
    subst e
    exact .inl ⟨⟨q, Nat.le_refl _⟩, hd zs τ H pp⟩
end
end L2

set_option Elab.async false
set_option linter.all false
set_option maxRecDepth 100000
set_option maxHeartbeats 4000000

namespace L2
open PySem PySem.Spec PyProof.Rows
noncomputable def VwO (p d : Addr) : HO := .ext fun h => h.get? p = some { cls := .type "dict_items", data := .fields #[.ref d] }
noncomputable def tItems (td : TE) : TE := fun σ H Q => td σ H fun x H1 => ∃ a kvs, x = .ref a ∧ H1 a = some (.dK kvs) ∧ ∀ p, H1 p = none → Q (.ref p) (upd H1 p (VwO p a))
theorem pe_itemsV {X : Cx} {apos cpos : Pos} {e : Expr} {td : TE} (he : PE X e td)
    (hbase : attributeBase e "items" X.env (eval e X.env) = eval e X.env := by rfl) (hline : (apos.endLine == cpos.line) = true := by rfl) : PE X (.Call (.Attribute e "items" apos) [] [] cpos) (tItems td) := by
  intro pins s σ H Q I h
  refine wpAny_Call_method0_late hbase hline (thn (he pins s σ H _ I h) fun v s1 hm1_ => ?_)
  obtain ⟨x, H1, I1, r1, a, kvs, ex, hz, q⟩ := hm1_
  subst ex
  obtain rfl : v = Value.ref a := r1
  obtain ⟨z, hs, vs, rel, o, es, ep, ho, hx, hd, _⟩ := dk_of I1.hok hz
  refine ⟨"dict", "dict.items", PySem.F.plainAttrs_dict, PySem.F.slot_dict_items, PySem.F.type_dict_items, ⟨o, ho, hx.1⟩, fun b e => by cases e; exact ⟨o, ho, hx.2.1⟩, Calls.callWith_builtin rfl (PySem.evalArgs_none ?_)⟩
  refine raw_items hs ho hx hd ⟨.ref s1.heap.objs.size, _, ?_, rfl, q _ (I1.hok.fresh (Nat.le_refl _))⟩
  have hg : (s1.heap.push { cls := .type "dict_items", data := .fields #[.ref a] }).get? s1.heap.objs.size = some { cls := .type "dict_items", data := .fields #[.ref a] } := Heap.get?_push_size _ rfl
  exact I1.laid (a := s1.heap.objs.size) (t' := s1.toks) (fun _ _ q => Heap.get?_push_of_some _ q) (Nat.le_refl _) ⟨hg, ⟨_, hg⟩, fun h1 h2 q k => k _ q⟩
theorem call_listV {X : Cx} (hc : X.calm = true) : CallR X (.type "list") (fun xs H Q => ∃ p d kvs, xs = [.ref p] ∧ H p = some (VwO p d) ∧ H d = some (.dK kvs) ∧ ∀ q us, H q = none → us.length = kvs.length → Q (.ref q) (upd H q (.lst us))) := by
  intro pins s σ H xs us Q I r h
  obtain ⟨p, d, kvs, rfl, hp, hd, q⟩ := h
  obtain ⟨u, rfl, ru⟩ := vals1 r
  cases ru
  have hh : X.A.handled = none := I.ok.hd hc
  obtain ⟨z, hs, vs, rel, o, es, ep, ho, c⟩ := dk_of I.hok hd
  have hm : s.heap.DictAt (mixKind X.prog X.w) d vs ep := ⟨o, es, ho, c⟩
  have hv : s.heap.get? p = some { cls := .type "dict_items", data := .fields #[.ref d] } := (show ObjOk X.prog X.w H s.heap p (VwO p d) from I.hok p _ hp).1
  have hl := rel.length
  refine PySem.W.kdx_call (knd := mixKind X.prog X.w) hh ⟨_, hv, rfl, rfl⟩ hm (by omega) fun h' tk acc c as hk hS hlen hG hacc => ?_
  refine ⟨.ref s.heap.objs.size, _, I.laid (a := s.heap.objs.size) (o := .lst (as.map V.ref)) (t' := tk) hk (Nat.le_refl _) ⟨by rw [List.length_map]; omega, as.map Value.ref, c, ?_, ?_⟩, rfl, q _ _ (I.hok.fresh (Nat.le_refl _)) (by rw [List.length_map]; omega)⟩
  · clear hlen hG hacc
    induction as with
    | nil => exact .nil
    | cons x xs ih => exact .cons rfl ih
  · rw [← hacc]
    simpa using hS

noncomputable def KAlt (H : Hp) (y : V) (d : D) : Prop := (∃ i, y = .int i ∧ d = .int i) ∨ (∃ b, y = .bl b ∧ d = .bl b) ∨ (y = .non ∧ d = .non) ∨ (∃ z, y = .str z ∧ d = .str z) ∨ ∃ t, y = .ref t ∧ H t = some (.tup [.int 0]) ∧ d = .tup [.int 0]
noncomputable def rNeK : R2 := fun x y H Q => ∃ (p : Int) (d : D), x = .int p ∧ KAlt H y d ∧ Q (.bl (!eqD (.int p) d)) H
open PySem.SeqAt in
theorem op_neK {X : Cx} (hu : X.A.units + 8 < cLine) : OpR X (compareOp .NotEq) rNeK := by
  intro pins s σ H x y v u Q I rx ry h
  obtain ⟨p, d, rfl, hy, q⟩ := h
  obtain ⟨t, rfl⟩ := rx
  have go : ∀ {k : Bool}, RcNeAt X.A s (.int p t) u k → k = (!eqD (.int p) d) → wpAny (model X.prog X.w) X.A (compareOp .NotEq (.int p t) u) (EP X pins σ Q) X.xe s := fun h1 h2 => by
    subst h2
    exact h1 X.prog X.w X.xe _ ⟨.bl (!eqD (.int p) d), H, I, rfl, q⟩
  rcases hy with ⟨i, rfl, rfl⟩ | ⟨b, rfl, rfl⟩ | ⟨rfl, rfl⟩ | ⟨z, rfl, rfl⟩ | ⟨a, rfl, ha, rfl⟩
  · obtain ⟨t2, rfl⟩ := ry
    exact go (.int_int p t i t2) rfl
  · cases ry
    exact go (.int_bool p t b) rfl
  · cases ry
    exact go (.int_none p t) rfl
  · obtain ⟨t2, rfl⟩ := ry
    exact go (.int_str p t z t2) rfl
  · cases ry
    obtain ⟨_, its, _, o, h1, h2, _, n, h3⟩ := (show ObjOk X.prog X.w H s.heap a (.tup [.int 0]) from I.hok a _ ha)
    exact go (.int_tuple p t ⟨o, h1, h2, n, h3⟩ (Nat.lt_of_le_of_lt (Nat.le_add_right _ _) hu)) rfl
end L2

set_option linter.all false

namespace Hb
noncomputable def sumN (f : Nat → Int) : Nat → Int
  | 0 => 0
  | n + 1 => sumN f n + f n
noncomputable def lsI (n : Nat) (f : Nat → Int) : List Int := (List.range n).map f
end Hb

set_option Elab.async false
set_option linter.all false
set_option maxRecDepth 100000
set_option maxHeartbeats 4000000

namespace Hb
open PySem L2
noncomputable abbrev Ms := List (Int × Int)
noncomputable def nd (ms : Ms) : Prop := (ms.map (·.1)).Nodup
noncomputable def nz (ms : Ms) : Prop := ∀ p ∈ ms, p.2 ≠ 0
noncomputable def addI (ms : Ms) (k n : Int) : Ms := if getI ms k + n = 0 then dropI ms k else putI ms k (getI ms k + n)
theorem lookI_mem {ms : Ms} {k v : Int} (h : lookI ms k = some v) : (k, v) ∈ ms := by
  induction ms with
  | nil => simp [lookI] at h
  | cons p ms ih =>
    rw [lookI_cons] at h
    by_cases e : p.1 = k
    · rw [if_pos e] at h
      have : p = (k, v) := by cases p; simp_all
      rw [this]; exact List.mem_cons_self ..
    · rw [if_neg e] at h
      exact List.mem_cons_of_mem _ (ih h)
theorem lookI_in {ms : Ms} (h : nd ms) {p : Int × Int} (hp : p ∈ ms) : lookI ms p.1 = some p.2 := by
  induction ms with
  | nil => cases hp
  | cons q ms ih =>
    rw [lookI_cons]
    unfold nd at h
    rw [List.map_cons, List.nodup_cons] at h
    rcases List.mem_cons.mp hp with rfl | hp
    · rw [if_pos rfl]
    · have : ¬ q.1 = p.1 := fun z => h.1 (by rw [z]; exact List.mem_map_of_mem (f := (·.1)) hp)
      rw [if_neg this]
      exact ih h.2 hp
theorem len_le : ∀ (l1 l2 : List Int), l1.Nodup → (∀ x ∈ l1, x ∈ l2) → l1.length ≤ l2.length
  | [], l2, _, _ => Nat.zero_le _
  | x :: l1, l2, h, hs => by
    rw [List.nodup_cons] at h
    have hx := hs x (List.mem_cons_self ..)
    have := len_le l1 (l2.erase x) h.2 fun y hy => by
      have ne : y ≠ x := fun z => h.1 (z ▸ hy)
      exact (List.mem_erase_of_ne ne).mpr (hs y (List.mem_cons_of_mem _ hy))
    have e := List.length_erase_of_mem hx
    have : 0 < l2.length := List.length_pos_of_mem hx
    rw [List.length_cons]
    omega
theorem sameC_of {ms ns : Ms} (h1 : nd ms) (h2 : nd ns) (h : ∀ k, lookI ms k = lookI ns k) : sameC ms ns = true := by
  have sub : ∀ {as bs : Ms}, nd as → (∀ k, lookI as k = lookI bs k) → ∀ x ∈ as.map (·.1), x ∈ bs.map (·.1) := fun {as bs} ha hh x hx => by
    obtain ⟨p, hp, rfl⟩ := List.mem_map.mp hx
    have e := lookI_in ha hp
    rw [hh] at e
    exact List.mem_map_of_mem (f := (·.1)) (lookI_mem e)
  have l1 := len_le _ _ h1 (sub h1 h)
  have l2 := len_le _ _ h2 (sub h2 fun k => (h k).symm)
  rw [List.length_map, List.length_map] at l1 l2
  unfold sameC
  rw [Bool.and_eq_true]
  refine ⟨by simp; omega, List.all_eq_true.mpr fun p hp => decide_eq_true ?_⟩
  rw [← h]
  exact lookI_in h1 hp
theorem sameC_refl {ms : Ms} (h : nd ms) : sameC ms ms = true := sameC_of h h fun _ => rfl
theorem any_key {ms : Ms} {k : Int} : (ms.any fun p => decide (p.1 = k)) = true ↔ k ∈ ms.map (·.1) := by
  rw [List.any_eq_true, List.mem_map]
  constructor
  · rintro ⟨p, hp, e⟩; exact ⟨p, hp, by simpa using e⟩
  · rintro ⟨p, hp, e⟩; exact ⟨p, hp, by simpa using e⟩
theorem nd_put {ms : Ms} (h : nd ms) (k v : Int) : nd (putI ms k v) := by
  unfold nd putI at *
  split
  · rw [List.map_map]
    have e : ((fun p : Int × Int => p.1) ∘ fun p : Int × Int => if p.1 = k then (p.1, v) else p) = (·.1) := by
      funext p
      simp only [Function.comp]
      split <;> rfl
    rw [e]; exact h
  · rename_i hn
    rw [any_key] at hn
    rw [List.map_append, List.nodup_append]
    refine ⟨h, by simp, fun a ha b hb e => ?_⟩
    have : b = k := by simpa using hb
    exact hn (by rw [← this, ← e]; exact ha)
theorem mem_put {ms : Ms} {k v : Int} {p : Int × Int} (hp : p ∈ putI ms k v) : p ∈ ms ∨ p = (k, v) := by
  unfold putI at hp
  split at hp
  · obtain ⟨q, hq, e⟩ := List.mem_map.mp hp
    by_cases z : q.1 = k
    · rw [if_pos z] at e; right; rw [← e, z]
    · rw [if_neg z] at e; left; rw [← e]; exact hq
  · rcases List.mem_append.mp hp with h | h
    · exact .inl h
    · exact .inr (by simpa using h)
theorem len_put (ms : Ms) (k v : Int) : (putI ms k v).length ≤ ms.length + 1 := by
  unfold putI
  split
  · rw [List.length_map]; omega
  · rw [List.length_append]; simp
theorem len_drop (ms : Ms) (k : Int) : (dropI ms k).length ≤ ms.length := List.length_filter_le ..
theorem nz_put {ms : Ms} (h : nz ms) {k v : Int} (hv : v ≠ 0) : nz (putI ms k v) := fun p hp => by
  rcases mem_put hp with q | q
  · exact h p q
  · rw [q]; exact hv
theorem len_add (ms : Ms) (k n : Int) : (addI ms k n).length ≤ ms.length + 1 := by
  unfold addI
  split
  · have := len_drop ms k; omega
  · exact len_put ..
theorem get_add (ms : Ms) (k n j : Int) : getI (addI ms k n) j = if j = k then getI ms j + n else getI ms j := by
  unfold addI
  split
  · rename_i q
    unfold getI at *
    rw [lookI_drop]
    by_cases e : j = k
    · subst e; simp; omega
    · simp [e]
  · unfold getI at *
    rw [lookI_put]
    by_cases e : j = k
    · subst e; simp
    · simp [e]
noncomputable def rangeI (f : Int → Int) (n : Nat) : Ms := (List.range n).map fun (i : Nat) => ((i : Int), f (i : Int))
end Hb
namespace Hb
open PySem L2
theorem range_succ (f : Int → Int) (n : Nat) : rangeI f (n + 1) = rangeI f n ++ [((n : Int), f n)] := by
  unfold rangeI
  rw [List.range_succ, List.map_append]
  rfl
end Hb

set_option linter.all false

namespace Hb

noncomputable def facesBy (w : List Int) (fam : Int) : List (List Int) :=
  if fam = 0 then (if w.length < 2 then [] else (List.range w.length).map fun i => w.take i ++ w.drop (i + 1))
  else if w.length = 0 then []
  else if fam < 0 then (if w.length = 1 then [[], []] else w.map fun l => [l])
  else w.drop 1 :: ((List.range (w.length - 1)).map fun i => w.take i ++ [(w.getD i 0 + w.getD (i + 1) 0) % fam] ++ w.drop (i + 2)) ++ [w.take (w.length - 1)]


noncomputable def Word (fam : Int) (w : List Int) : Prop :=
  (fam = 0 ∧ 1 ≤ w.length ∧ w.length ≤ 4) ∨ (fam < 0 ∧ (w.length = 0 ∨ w.length = 1 ∨ w.length = 3)) ∨ (0 < fam ∧ w.length ≤ 3)
noncomputable def lv (fam : Int) (w : List Int) : Nat := if fam = 0 then w.length - 1 else if fam < 0 then (if w.length = 3 then 2 else w.length) else w.length


theorem word_cases {fam : Int} {w : List Int} (h : Word fam w) :
    (fam = 0 ∧ ((∃ a, w = [a]) ∨ (∃ a b, w = [a, b]) ∨ (∃ a b c, w = [a, b, c]) ∨ ∃ a b c d, w = [a, b, c, d])) ∨
    (fam < 0 ∧ (w = [] ∨ (∃ a, w = [a]) ∨ ∃ a b c, w = [a, b, c])) ∨
    (0 < fam ∧ (w = [] ∨ (∃ a, w = [a]) ∨ (∃ a b, w = [a, b]) ∨ ∃ a b c, w = [a, b, c])) := by
  rcases h with ⟨h0, h1, h2⟩ | ⟨h0, h1⟩ | ⟨h0, h1⟩
  · left
    refine ⟨h0, ?_⟩
    match w, h1, h2 with
    | [a], _, _ => exact .inl ⟨a, rfl⟩
    | [a, b], _, _ => exact .inr (.inl ⟨a, b, rfl⟩)
    | [a, b, c], _, _ => exact .inr (.inr (.inl ⟨a, b, c, rfl⟩))
    | [a, b, c, d], _, _ => exact .inr (.inr (.inr ⟨a, b, c, d, rfl⟩))
    | _ :: _ :: _ :: _ :: _ :: _, _, h => simp at h
  · right; left
    refine ⟨h0, ?_⟩
    match w, h1 with
    | [], _ => exact .inl rfl
    | [a], _ => exact .inr (.inl ⟨a, rfl⟩)
    | [a, b], h => simp at h
    | [a, b, c], _ => exact .inr (.inr ⟨a, b, c, rfl⟩)
    | _ :: _ :: _ :: _ :: _, h => simp at h
  · right; right
    refine ⟨h0, ?_⟩
    match w, h1 with
    | [], _ => exact .inl rfl
    | [a], _ => exact .inr (.inl ⟨a, rfl⟩)
    | [a, b], _ => exact .inr (.inr (.inl ⟨a, b, rfl⟩))
    | [a, b, c], _ => exact .inr (.inr (.inr ⟨a, b, c, rfl⟩))
    | _ :: _ :: _ :: _ :: _, h => simp at h

theorem f0_1 (a : Int) : facesBy [a] 0 = [] := rfl
theorem f0_2 (a b : Int) : facesBy [a, b] 0 = [[b], [a]] := rfl
theorem f0_3 (a b c : Int) : facesBy [a, b, c] 0 = [[b, c], [a, c], [a, b]] := rfl
theorem f0_4 (a b c d : Int) : facesBy [a, b, c, d] 0 = [[b, c, d], [a, c, d], [a, b, d], [a, b, c]] := rfl
section
variable {fam : Int}
theorem fn_0 (h : fam < 0) : facesBy [] fam = [] := by unfold facesBy; rw [if_neg (by omega), if_pos (by simp)]
theorem fn_1 (h : fam < 0) (a : Int) : facesBy [a] fam = [[], []] := by unfold facesBy; rw [if_neg (by omega), if_neg (by simp), if_pos h, if_pos (by simp)]
theorem fn_3 (h : fam < 0) (a b c : Int) : facesBy [a, b, c] fam = [[a], [b], [c]] := by unfold facesBy; rw [if_neg (by omega), if_neg (by simp), if_pos h, if_neg (by simp)]; rfl
theorem fp_0 (h : 0 < fam) : facesBy [] fam = [] := by unfold facesBy; rw [if_neg (by omega), if_pos (by simp)]
theorem fp_1 (h : 0 < fam) (a : Int) : facesBy [a] fam = [[], []] := by unfold facesBy; rw [if_neg (by omega), if_neg (by simp), if_neg (by omega)]; rfl
theorem fp_2 (h : 0 < fam) (a b : Int) : facesBy [a, b] fam = [[b], [(a + b) % fam], [a]] := by unfold facesBy; rw [if_neg (by omega), if_neg (by simp), if_neg (by omega)]; rfl
theorem fp_3 (h : 0 < fam) (a b c : Int) : facesBy [a, b, c] fam = [[b, c], [(a + b) % fam, c], [a, (b + c) % fam], [a, b]] := by unfold facesBy; rw [if_neg (by omega), if_neg (by simp), if_neg (by omega)]; rfl

theorem faces_word {w f : List Int} (h : Word fam w) (hf : f ∈ facesBy w fam) : Word fam f ∧ lv fam f + 1 = lv fam w := by
  rcases word_cases h with ⟨h0, ⟨a, rfl⟩ | ⟨a, b, rfl⟩ | ⟨a, b, c, rfl⟩ | ⟨a, b, c, d, rfl⟩⟩ | ⟨h0, rfl | ⟨a, rfl⟩ | ⟨a, b, c, rfl⟩⟩ | ⟨h0, rfl | ⟨a, rfl⟩ | ⟨a, b, rfl⟩ | ⟨a, b, c, rfl⟩⟩
  · subst h0; rw [f0_1] at hf; exact nomatch hf
  · subst h0; rw [f0_2] at hf
    simp only [List.mem_cons, List.not_mem_nil, or_false] at hf
    rcases hf with rfl | rfl <;> simp [Word, lv]
  · subst h0; rw [f0_3] at hf
    simp only [List.mem_cons, List.not_mem_nil, or_false] at hf
    rcases hf with rfl | rfl | rfl <;> simp [Word, lv]
  · subst h0; rw [f0_4] at hf
    simp only [List.mem_cons, List.not_mem_nil, or_false] at hf
    rcases hf with rfl | rfl | rfl | rfl <;> simp [Word, lv]
  · rw [fn_0 h0] at hf; exact nomatch hf
  · rw [fn_1 h0] at hf
    simp only [List.mem_cons, List.not_mem_nil, or_false, or_self] at hf
    subst hf
    have e : ¬ fam = 0 := by omega
    simp [Word, lv, h0, e]
  · rw [fn_3 h0] at hf
    have e : ¬ fam = 0 := by omega
    simp only [List.mem_cons, List.not_mem_nil, or_false] at hf
    rcases hf with rfl | rfl | rfl <;> simp [Word, lv, h0, e]
  · rw [fp_0 h0] at hf; exact nomatch hf
  · rw [fp_1 h0] at hf
    have e : ¬ fam = 0 := by omega
    have e' : ¬ fam < 0 := by omega
    simp only [List.mem_cons, List.not_mem_nil, or_false, or_self] at hf
    subst hf
    simp [Word, lv, h0, e, e']
  · rw [fp_2 h0] at hf
    have e : ¬ fam = 0 := by omega
    have e' : ¬ fam < 0 := by omega
    simp only [List.mem_cons, List.not_mem_nil, or_false] at hf
    rcases hf with rfl | rfl | rfl <;> simp [Word, lv, h0, e, e']
  · rw [fp_3 h0] at hf
    have e : ¬ fam = 0 := by omega
    have e' : ¬ fam < 0 := by omega
    simp only [List.mem_cons, List.not_mem_nil, or_false] at hf
    rcases hf with rfl | rfl | rfl | rfl <;> simp [Word, lv, h0, e, e']

theorem faces_len {w : List Int} (h : Word fam w) : (facesBy w fam).length = (if lv fam w = 0 then 0 else lv fam w + 1) ∧ lv fam w ≤ 3 := by
  rcases word_cases h with ⟨h0, ⟨a, rfl⟩ | ⟨a, b, rfl⟩ | ⟨a, b, c, rfl⟩ | ⟨a, b, c, d, rfl⟩⟩ | ⟨h0, rfl | ⟨a, rfl⟩ | ⟨a, b, c, rfl⟩⟩ | ⟨h0, rfl | ⟨a, rfl⟩ | ⟨a, b, rfl⟩ | ⟨a, b, c, rfl⟩⟩
  · subst h0; simp [f0_1, lv]
  · subst h0; simp [f0_2, lv]
  · subst h0; simp [f0_3, lv]
  · subst h0; simp [f0_4, lv]
  all_goals have e : ¬ fam = 0 := by omega
  · simp [fn_0 h0, lv, e, h0]
  · simp [fn_1 h0, lv, e, h0]
  · simp [fn_3 h0, lv, e, h0]
  all_goals have e' : ¬ fam < 0 := by omega
  · simp [fp_0 h0, lv, e, e']
  · simp [fp_1 h0, lv, e, e']
  · simp [fp_2 h0, lv, e, e']
  · simp [fp_3 h0, lv, e, e']


end


noncomputable def Ord (fam : Int) (ws : List (List Int)) : Prop := ∀ (k : Nat) (w : List Int), ws[k]? = some w → Word fam w ∧ ∀ f ∈ facesBy w fam, f ∈ ws.take k
theorem Ord.nil {fam : Int} : Ord fam [] := fun k w h => by simp at h
theorem Ord.snoc {fam : Int} {ws : List (List Int)} {w : List Int} (h : Ord fam ws) (hw : Word fam w) (hf : ∀ f ∈ facesBy w fam, f ∈ ws) : Ord fam (ws ++ [w]) := by
  intro k v hk
  by_cases hlt : k < ws.length
  · rw [List.getElem?_append_left hlt] at hk
    rw [List.take_append_of_le_length (by omega)]
    exact h k v hk
  · have hk' : k < (ws ++ [w]).length := (List.getElem?_eq_some_iff.mp hk).1
    have e : k = ws.length := by simp at hk'; omega
    subst e
    simp at hk
    subst hk
    rw [List.take_append_of_le_length (Nat.le_refl _), List.take_length]
    exact ⟨hw, hf⟩
theorem Ord.mem {fam : Int} {ws : List (List Int)} (h : Ord fam ws) {w : List Int} (hw : w ∈ ws) : Word fam w ∧ ∀ f ∈ facesBy w fam, f ∈ ws := by
  obtain ⟨k, hk⟩ := List.getElem?_of_mem hw
  obtain ⟨h1, h2⟩ := h k w hk
  exact ⟨h1, fun f hf => List.mem_of_mem_take (h2 f hf)⟩

noncomputable def addAll (ws : List (List Int)) : List (List Int) → List (List Int)
  | [] => ws
  | w :: r => addAll (if w ∈ ws then ws else ws ++ [w]) r
theorem addAll_len : ∀ (rows ws : List (List Int)), (addAll ws rows).length ≤ ws.length + rows.length
  | [], ws => by simp [addAll]
  | w :: r, ws => by
    have h1 := addAll_len r (if w ∈ ws then ws else ws ++ [w])
    have h2 : (if w ∈ ws then ws else ws ++ [w]).length ≤ ws.length + 1 := by
      split
      · omega
      · simp
    simp only [addAll, List.length_cons]
    omega
theorem addAll_ord {fam : Int} : ∀ (rows ws : List (List Int)), Ord fam ws → (∀ (k : Nat) (w : List Int), rows[k]? = some w → Word fam w ∧ ∀ f ∈ facesBy w fam, f ∈ ws ∨ f ∈ rows.take k) → Ord fam (addAll ws rows)
  | [], ws, h, _ => h
  | w :: r, ws, h, hr => by
    have h0 := hr 0 w rfl
    have hw : ∀ f ∈ facesBy w fam, f ∈ ws := fun f hf => (h0.2 f hf).resolve_right (by simp)
    simp only [addAll]
    refine addAll_ord r _ ?_ fun k v hk => ?_
    · split
      · exact h
      · exact h.snoc h0.1 hw
    · obtain ⟨h1, h2⟩ := hr (k + 1) v (by simpa using hk)
      refine ⟨h1, fun f hf => ?_⟩
      rcases h2 f hf with z | z
      · left
        split
        · exact z
        · exact List.mem_append_left _ z
      · rw [List.take_succ_cons] at z
        rcases List.mem_cons.mp z with z | z
        · left
          subst z
          split
          · assumption
          · simp
        · exact .inr z

noncomputable def addNew (ws : List (List Int)) : List (List Int) → List (List Int) → List (List Int)
  | acc, [] => acc
  | acc, f :: r => addNew ws (if f ∉ ws ∧ f ∉ acc then acc ++ [f] else acc) r
theorem addNew_sub {ws : List (List Int)} {x : List Int} : ∀ (fs acc : List (List Int)), x ∈ addNew ws acc fs → x ∈ acc ∨ x ∈ fs
  | [], acc, h => .inl h
  | f :: r, acc, h => by
    rcases addNew_sub r _ h with z | z
    · split at z
      · rcases List.mem_append.mp z with z | z
        · exact .inl z
        · exact .inr (by simp at z; simp [z])
      · exact .inl z
    · exact .inr (List.mem_cons_of_mem _ z)
theorem addNew_mono {ws : List (List Int)} {x : List Int} : ∀ (fs acc : List (List Int)), x ∈ acc → x ∈ addNew ws acc fs
  | [], acc, h => h
  | f :: r, acc, h => addNew_mono r _ (by split; exact List.mem_append_left _ h; exact h)
theorem addNew_has {ws : List (List Int)} {x : List Int} : ∀ (fs acc : List (List Int)), x ∈ fs → x ∈ ws ∨ x ∈ addNew ws acc fs
  | f :: r, acc, h => by
    rcases List.mem_cons.mp h with e | e
    · subst e
      by_cases h1 : x ∈ ws
      · exact .inl h1
      · right
        refine addNew_mono r _ ?_
        by_cases h2 : x ∈ acc
        · rw [if_neg (by simp [h2])]; exact h2
        · rw [if_pos ⟨h1, h2⟩]; simp
    · exact addNew_has r _ e
theorem addNew_len {ws : List (List Int)} : ∀ (fs acc : List (List Int)), (addNew ws acc fs).length ≤ acc.length + fs.length
  | [], acc => by simp [addNew]
  | f :: r, acc => by
    have h1 := addNew_len (ws := ws) r (if f ∉ ws ∧ f ∉ acc then acc ++ [f] else acc)
    have h2 : (if f ∉ ws ∧ f ∉ acc then acc ++ [f] else acc).length ≤ acc.length + 1 := by
      split
      · simp
      · omega
    simp only [addNew, List.length_cons]
    omega

noncomputable def below (ws : List (List Int)) (fam : Int) : List (List Int) → List (List Int) → List (List Int)
  | acc, [] => acc
  | acc, w :: r => below ws fam (addNew ws acc (facesBy w fam)) r
theorem below_sub {ws : List (List Int)} {fam : Int} {x : List Int} : ∀ (l acc : List (List Int)), x ∈ below ws fam acc l → x ∈ acc ∨ ∃ w ∈ l, x ∈ facesBy w fam
  | [], acc, h => .inl h
  | w :: r, acc, h => by
    rcases below_sub r _ h with z | ⟨v, hv, z⟩
    · rcases addNew_sub _ _ z with z | z
      · exact .inl z
      · exact .inr ⟨w, List.mem_cons_self, z⟩
    · exact .inr ⟨v, List.mem_cons_of_mem _ hv, z⟩
theorem below_mono {ws : List (List Int)} {fam : Int} {x : List Int} : ∀ (l acc : List (List Int)), x ∈ acc → x ∈ below ws fam acc l
  | [], acc, h => h
  | w :: r, acc, h => below_mono r _ (addNew_mono _ _ h)
theorem below_has {ws : List (List Int)} {fam : Int} {x w : List Int} : ∀ (l acc : List (List Int)), w ∈ l → x ∈ facesBy w fam → x ∈ ws ∨ x ∈ below ws fam acc l
  | v :: r, acc, h, hx => by
    rcases List.mem_cons.mp h with e | e
    · subst e
      rcases addNew_has (ws := ws) _ acc hx with z | z
      · exact .inl z
      · exact .inr (below_mono r _ z)
    · exact below_has r _ e hx
theorem below_len {ws : List (List Int)} {fam : Int} : ∀ (l acc : List (List Int)), (∀ w ∈ l, Word fam w) → (below ws fam acc l).length ≤ acc.length + 4 * l.length
  | [], acc, _ => by simp [below]
  | w :: r, acc, h => by
    have h1 := below_len (ws := ws) r (addNew ws acc (facesBy w fam)) fun v hv => h v (List.mem_cons_of_mem _ hv)
    have h2 := addNew_len (ws := ws) (facesBy w fam) acc
    have h3 := faces_len (h w List.mem_cons_self)
    simp only [below, List.length_cons]
    split at h3 <;> omega
theorem addNew_snoc (ws : List (List Int)) (f : List Int) : ∀ (fs acc : List (List Int)), addNew ws acc (fs ++ [f]) = (if f ∉ ws ∧ f ∉ addNew ws acc fs then addNew ws acc fs ++ [f] else addNew ws acc fs)
  | [], acc => rfl
  | g :: fs, acc => addNew_snoc ws f fs _
theorem below_snoc (ws : List (List Int)) (fam : Int) (w : List Int) : ∀ (l acc : List (List Int)), below ws fam acc (l ++ [w]) = addNew ws (below ws fam acc l) (facesBy w fam)
  | [], acc => rfl
  | v :: l, acc => below_snoc ws fam w l _
theorem addAll_snoc (w : List Int) : ∀ (rows ws : List (List Int)), addAll ws (rows ++ [w]) = (if w ∈ addAll ws rows then addAll ws rows else addAll ws rows ++ [w])
  | [], ws => rfl
  | v :: rows, ws => addAll_snoc w rows _

noncomputable def layers (ws : List (List Int)) (fam : Int) : Nat → List (List Int) → List (List Int) → List (List Int)
  | 0, layer, rows => rows
  | n + 1, layer, rows => layers ws fam n (below ws fam [] layer) (layer ++ rows)
theorem layers_ok {ws : List (List Int)} {fam : Int} : ∀ (n : Nat) (layer rows : List (List Int)), (∀ w ∈ layer, Word fam w ∧ lv fam w < n) →
    (∀ (k : Nat) (w : List Int), rows[k]? = some w → Word fam w ∧ ∀ f ∈ facesBy w fam, f ∈ ws ∨ f ∈ layer ∨ f ∈ rows.take k) →
    ∀ (k : Nat) (w : List Int), (layers ws fam n layer rows)[k]? = some w → Word fam w ∧ ∀ f ∈ facesBy w fam, f ∈ ws ∨ f ∈ (layers ws fam n layer rows).take k
  | 0, layer, rows, hl, hr, k, w, hk => by
    obtain ⟨h1, h2⟩ := hr k w hk
    refine ⟨h1, fun f hf => ?_⟩
    rcases h2 f hf with z | z | z
    · exact .inl z
    · exact absurd (hl f z).2 (by omega)
    · exact .inr z
  | n + 1, layer, rows, hl, hr, k, w, hk => by
    refine layers_ok n _ _ ?_ ?_ k w hk
    · intro v hv
      rcases below_sub _ _ hv with z | ⟨u, hu, z⟩
      · exact nomatch z
      · obtain ⟨q1, q2⟩ := hl u hu
        obtain ⟨q3, q4⟩ := faces_word q1 z
        exact ⟨q3, by omega⟩
    · intro m v hm
      by_cases hlt : m < layer.length
      · rw [List.getElem?_append_left hlt] at hm
        have hv : v ∈ layer := List.mem_of_getElem? hm
        refine ⟨(hl v hv).1, fun f hf => ?_⟩
        rcases below_has (ws := ws) layer [] hv hf with z | z
        · exact .inl z
        · exact .inr (.inl z)
      · rw [List.getElem?_append_right (by omega)] at hm
        obtain ⟨h1, h2⟩ := hr _ v hm
        refine ⟨h1, fun f hf => ?_⟩
        rcases h2 f hf with z | z | z
        · exact .inl z
        · right; right
          rw [List.take_append]
          refine List.mem_append_left _ ?_
          rw [List.take_of_length_le (by omega)]
          exact z
        · right; right
          rw [List.take_append]
          exact List.mem_append_right _ z

noncomputable def wordsWith (ws : List (List Int)) (w : List Int) (fam : Int) : List (List Int) := addAll ws (layers ws fam 4 [w] [])
theorem wordsWith_ord {ws : List (List Int)} {w : List Int} {fam : Int} (h : Ord fam ws) (hw : Word fam w) : Ord fam (wordsWith ws w fam) := by
  refine addAll_ord _ _ h (layers_ok 4 [w] [] ?_ ?_)
  · intro v hv
    have e : v = w := by simpa using hv
    subst e
    exact ⟨hw, by have := (faces_len hw).2; omega⟩
  · intro k v hk
    simp at hk

noncomputable def idx (ws : List (List Int)) (f : List Int) : Nat := ws.findIdx (· == f)
noncomputable def shapeOf (ws : List (List Int)) (fam : Int) : List (List Int) := ws.map fun w => (facesBy w fam).map fun f => (idx ws f : Int)
theorem layers_len {ws : List (List Int)} {fam : Int} {w : List Int} (hw : Word fam w) : (layers ws fam 4 [w] []).length ≤ 85 := by
  have step : ∀ l : List (List Int), (∀ v ∈ l, Word fam v) → (below ws fam [] l).length ≤ 4 * l.length ∧ ∀ v ∈ below ws fam [] l, Word fam v := fun l hl => by
    refine ⟨by have := below_len (ws := ws) l [] hl; simpa using this, fun v hv => ?_⟩
    rcases below_sub _ _ hv with z | ⟨u, hu, z⟩
    · exact nomatch z
    · exact (faces_word (hl u hu) z).1
  have s0 : ∀ v ∈ [w], Word fam v := fun v hv => by have e : v = w := by simpa using hv
                                                    subst e; exact hw
  obtain ⟨a1, b1⟩ := step _ s0
  obtain ⟨a2, b2⟩ := step _ b1
  obtain ⟨a3, b3⟩ := step _ b2
  simp only [layers, List.length_append, List.length_nil, List.length_cons] at a1 a2 a3 ⊢
  omega
end Hb

set_option linter.all false
namespace Hb

noncomputable def pc (xs : List (List Int)) (p : Int) : List Int := xs.getD p.toNat []
section
variable {xs : List (List Int)}
end
end Hb

set_option Elab.async false
set_option linter.all false
set_option maxRecDepth 100000
set_option maxHeartbeats 4000000

namespace Hb
open PySem L2

noncomputable def cellAt (ns : List Int) (k : Int) : Int := ns.getD k.toNat 0

noncomputable abbrev LT (K : PySem.W.Frag) (H : Hp) (v : V) (xs : List (List Int)) : Prop := Rep K H v (.lst (xs.map tI))
noncomputable abbrev TI (K : PySem.W.Frag) (H : Hp) (v : V) (ns : List Int) : Prop := Rep K H v (tI ns)

section
variable {K : PySem.W.Frag} {H H' : Hp}
theorem TI.sq {v : V} {ns : List Int} (h : TI K H v ns) : ∃ a, v = .ref a ∧ SqT K H a (ns.map V.int) := by
  obtain ⟨a, vs, e, q, r⟩ := h
  rw [reps_nums.mp r] at q
  exact ⟨a, e, q⟩
theorem TI.mk {a : Addr} {ns : List Int} (h : SqT K H a (ns.map V.int)) : TI K H (.ref a) ns := ⟨a, _, rfl, h, reps_nums.mpr rfl⟩
theorem TI.same {v : V} {ns : List Int} (s : Same H H') (h : TI K H v ns) : TI K H' v ns := Rep.same s h
theorem TI.t {v : V} {ns : List Int} (s : TSame H H') (h : TI K H v ns) : TI K H' v ns := Rep.t s (imm_tI ns) h
theorem cut_take (xs : List V) (k : Nat) : cutV xs none (some (k : Int)) = xs.take k := by
  unfold cutV
  rw [HT.sIx_none, HT.sIx_nat, Nat.sub_zero, List.drop_zero, List.take_eq_take_iff]
  omega
theorem cut_drop (xs : List V) (k : Nat) : cutV xs (some (k : Int)) none = xs.drop k := by
  unfold cutV
  rw [HT.sIx_none, HT.sIx_nat]
  by_cases h : k ≤ xs.length
  · rw [Nat.min_eq_left h, List.take_of_length_le (by rw [List.length_drop]; omega)]
  · rw [Nat.min_eq_right (by omega), List.drop_length, List.drop_of_length_le (by omega)]
    simp
theorem push_reps {D : Addr} {ys : List V} {v : V} {d : L2.D} {ds : List L2.D} (hD : H D = some (.lst ys)) (r : Reps K H ys ds) (rv : Rep K H v d) (hi : imms (ds ++ [d]) = true) : Reps K (upd H D (.lst (ys ++ [v]))) (ys ++ [v]) (ds ++ [d]) :=
  (r.snoc rv).t (TSame.lst hD) hi
theorem push_TI {D : Addr} {ys : List V} {v : V} {xs : List (List Int)} {x : List Int} (hD : H D = some (.lst ys)) (r : Reps K H ys (xs.map tI)) (rv : TI K H v x) : Reps K (upd H D (.lst (ys ++ [v]))) (ys ++ [v]) ((xs ++ [x]).map tI) := by
  have e : (xs ++ [x]).map tI = xs.map tI ++ [tI x] := by simp
  have h := imms_tIs (xs ++ [x])
  rw [e] at h ⊢
  exact push_reps hD r rv h

noncomputable def SameX (B : Addr) (H H' : Hp) : Prop := ∀ b o, b ≠ B → H b = some o → H' b = some o
theorem SameX.refl (B : Addr) (H : Hp) : SameX B H H := fun _ _ _ h => h
theorem SameX.upd {B : Addr} {H H1 : Hp} {o : HO} (a : SameX B H H1) : SameX B H (upd H1 B o) := fun c u n h => by rw [upd_ne n]; exact a c u n h
theorem SameX.t {B : Addr} {H H1 : Hp} {us : List V} (a : SameX B H H1) (h : H B = some (.lst us)) : TSame H H1 :=
  ⟨fun b xs e => a b _ (ne_of e h (by intro z; cases z)) e, fun b o u e => a b _ (ne_of e h (by intro z; cases z)) e⟩
theorem SameX.same {B : Addr} {H0 H H1 : Hp} (a : SameX B H H1) (s : Same H0 H) (h : H0 B = none) : Same H0 H1 := fun b o e => a b o (ne_of_none e h) (s b o e)
theorem deps_nums : ∀ ns : List Int, deps (nums ns) = 0
  | [] => rfl
  | n :: ns => by show max (dep (.int n)) (deps (nums ns)) = 0; rw [deps_nums ns]; rfl
theorem deps_tIs : ∀ xs : List (List Int), deps (xs.map tI) ≤ 1
  | [] => Nat.zero_le _
  | x :: xs => by
    have h1 := deps_tIs xs
    have h2 : dep (tI x) = 1 := by show deps (nums x) + 1 = 1; rw [deps_nums]
    show max (dep (tI x)) (deps (xs.map tI)) ≤ 1
    omega
theorem any_tI (f : List Int) : ∀ xs : List (List Int), (xs.map tI).any (fun e => eqD e (tI f)) = decide (f ∈ xs)
  | [] => rfl
  | x :: xs => by
    rw [List.map_cons, List.any_cons, any_tI f xs, eqD_tI]
    by_cases h : x = f
    · subst h; simp
    · have h' : ¬ f = x := fun z => h z.symm
      simp [h, h']
theorem ifP {c A B : Prop} [Decidable c] (hc : c) (h : A) : if c then A else B := by rw [if_pos hc]; exact h
theorem ifN {c A B : Prop} [Decidable c] (hc : ¬ c) (h : B) : if c then A else B := by rw [if_neg hc]; exact h
theorem neI {a b : Int} (h : ¬ a = b) : (!decide (V.int a = V.int b)) = true := by simp [h]
theorem eqI {a b : Int} (h : a = b) : ¬ (!decide (V.int a = V.int b)) = true := by simp [h]
theorem comp_list0 {g : TG} {te : TE} {D : Addr} {Q : Hp → Prop} {τ : St} {H : Hp} {K : PySem.W.Frag} {a : Addr} {xs : List V} (Pv : Nat → List V → St → Hp → Prop) (h0 : Pv 0 [] τ H) (hl : ∀ i ys τ H, i ≤ xs.length → Pv i ys τ H → SqL K H a xs)
    (hs : ∀ i x ys τ H, xs[i]? = some x → Pv i ys τ H → g x τ H fun τ2 H2 => te τ2 H2 fun y H4 => H4 D = some (.lst ys) ∧ ys.length < sizeLine ∧ Pv (i + 1) (ys ++ [y]) τ2 (upd H4 D (.lst (ys ++ [y]))))
    (hd : ∀ ys τ H, Pv xs.length ys τ H → Q H) : RunC (Itl K a) g tYes te D Q τ H := comp_list Pv h0 hl (fun i x ys τ H e p => hs i x ys τ H e p) hd
theorem comp_tup0 {g : TG} {te : TE} {D : Addr} {Q : Hp → Prop} {τ : St} {H : Hp} {K : PySem.W.Frag} {a : Addr} {xs : List V} (Pv : Nat → List V → St → Hp → Prop) (h0 : Pv 0 [] τ H) (hl : ∀ i ys τ H, i ≤ xs.length → Pv i ys τ H → SqT K H a xs)
    (hs : ∀ i x ys τ H, xs[i]? = some x → Pv i ys τ H → g x τ H fun τ2 H2 => te τ2 H2 fun y H4 => H4 D = some (.lst ys) ∧ ys.length < sizeLine ∧ Pv (i + 1) (ys ++ [y]) τ2 (upd H4 D (.lst (ys ++ [y]))))
    (hd : ∀ ys τ H, Pv xs.length ys τ H → Q H) : RunC (Itt K a) g tYes te D Q τ H := comp_tup Pv h0 hl (fun i x ys τ H e p => hs i x ys τ H e p) hd
theorem comp_range0 {g : TG} {te : TE} {D : Addr} {Q : Hp → Prop} {τ : St} {H : Hp} {lo : Int} {n : Nat} (Pv : Nat → List V → St → Hp → Prop) (h0 : Pv 0 [] τ H)
    (hs : ∀ i ys τ H, i < n → Pv i ys τ H → g (.int (lo + i)) τ H fun τ2 H2 => te τ2 H2 fun y H4 => H4 D = some (.lst ys) ∧ ys.length < sizeLine ∧ Pv (i + 1) (ys ++ [y]) τ2 (upd H4 D (.lst (ys ++ [y]))))
    (hd : ∀ ys τ H, Pv n ys τ H → Q H) : RunC (Itr lo n) g tYes te D Q τ H := comp_range Pv h0 (fun i ys τ H e p => hs i ys τ H e p) hd
theorem tSeq_cut {t u : TS} {D : Ends} {σ : St} {H : Hp} (P : St → Hp → Prop) (hu : ∀ σ' H', P σ' H' → u D σ' H') (h : (∀ σ' H', P σ' H' → u D σ' H') → tSeq t u D σ H) : tSeq t u D σ H := h hu
theorem findIdx_tI {f : List Int} : ∀ {ws : List (List Int)}, f ∈ ws → (ws.map tI).findIdx? (fun e => eqD e (tI f)) = some (idx ws f) := fun {ws} h => by
  have e : (ws.map tI).findIdx? (fun e => eqD e (tI f)) = ws.findIdx? (fun w => w == f) := by
    rw [List.findIdx?_map]
    congr 1
    funext w
    show eqD (tI w) (tI f) = (w == f)
    rw [eqD_tI]
    by_cases z : w = f
    · subst z; simp
    · simp [z]
  rw [e, List.findIdx?_eq_some_of_exists (xs := ws) (p := fun w => w == f) ⟨f, h, by simp⟩]
  rfl
theorem small {n : Nat} (h : n ≤ 1000000) : n < sizeLine := Nat.lt_of_le_of_lt h (by decide)
theorem smallE {n : Nat} (h : n ≤ 1000000) : n ≤ sizeLine := Nat.le_of_lt (small h)
end
section
variable (K : PySem.W.Frag)
noncomputable def sp_cell_at : Sp := fun vs H Q _ => ∃ (a : Addr) (ns : List Int) (k : Int), vs = [.ref a, .int k] ∧ SqL K H a (ns.map V.int) ∧ 0 ≤ k ∧ ns.length ≤ 63 ∧ Q (.int (cellAt ns k)) H

noncomputable def sp_faces_by : Sp := fun vs H Q _ => ∃ (v : V) (w : List Int) (fam : Int), vs = [v, .int fam] ∧ TI K H v w ∧ Word fam w ∧
  ∀ (p : Addr) (us : List V) (H' : Hp), H p = none → Same H H' → H' p = some (.lst us) → Reps K H' us ((facesBy w fam).map tI) → Q (.ref p) H'
noncomputable def sp_word_by : Sp := fun vs H Q _ => ∃ (c fam letters : Int), vs = [.int c, .int fam, .int letters] ∧ 0 < letters ∧ letters < 100 ∧ fam < 100 ∧
  ∀ (v : V) (H' : Hp) (w : List Int), Same H H' → TI K H' v w → Word fam w → Q v H'
noncomputable def sp_words_with : Sp := fun vs H Q _ => ∃ (l : Addr) (us : List V) (v : V) (ws : List (List Int)) (w : List Int) (fam : Int), vs = [.ref l, v, .int fam] ∧ H l = some (.lst us) ∧ Reps K H us (ws.map tI) ∧ TI K H v w ∧ Word fam w ∧ ws.length ≤ 100 ∧
  ∀ (p : Addr) (us' : List V) (H' : Hp), H p = none → Same H H' → H' p = some (.lst us') → Reps K H' us' ((wordsWith ws w fam).map tI) → Q (.ref p) H'

noncomputable def sp_law : Sp := fun vs H Q _ => ∃ (a : Addr) (ns : List Int), vs = [.ref a] ∧ SqL K H a (ns.map V.int) ∧ ns.length ≤ 63 ∧ ∀ H', Q (.bl true) H'
end
end Hb

set_option Elab.async false
set_option linter.all false
set_option maxRecDepth 100000
set_option maxHeartbeats 4000000
namespace Hb
open PySem L2
noncomputable def wholeD (d : L2.D) : Bool := isD "int" d && !isD "bool" d
noncomputable def belowD (d : L2.D) (b : Int) : Bool := match d with
  | .int i => decide (0 ≤ i) && decide (i < b)
  | _ => false
noncomputable def levI (n : Nat) : Int := if (0 : Int) > (n : Int) - 1 then 0 else (n : Int) - 1
noncomputable def placeLev (xs : List (List Int)) (d : L2.D) (l : Int) : Bool := match d with
  | .int i => decide (0 ≤ i) && decide (i < (xs.length : Int)) && decide (levI (xs.getD i.toNat []).length = l)
  | _ => false
section
variable (K : PySem.W.Frag)
noncomputable def sp_is_whole : Sp := fun vs H Q _ => ∃ (x : V) (d : L2.D), vs = [x] ∧ Rep K H x d ∧ Q (.bl (wholeD d)) H
noncomputable def sp_is_whole_below : Sp := fun vs H Q _ => ∃ (x : V) (d : L2.D) (b : Int), vs = [x, .int b] ∧ Rep K H x d ∧ Q (.bl (belowD d b)) H
noncomputable def sp_level_of : Sp := fun vs H Q _ => ∃ (x : V) (ds : List L2.D), vs = [x] ∧ SeqD K H x ds ∧ Q (.int (levI ds.length)) H
noncomputable def sp_is_place_of_level : Sp := fun vs H Q _ => ∃ (a : Addr) (x : V) (d : L2.D) (l : Int) (xs : List (List Int)), vs = [.ref a, x, .int l] ∧ LT K H (.ref a) xs ∧ Rep K H x d ∧ Q (.bl (placeLev xs d l)) H
noncomputable abbrev sp_L_cell_at : Sp := sp_cell_at K
noncomputable abbrev sp_L_faces_by : Sp := sp_faces_by K
noncomputable abbrev sp_L_word_by : Sp := sp_word_by K
noncomputable abbrev sp_L_words_with : Sp := sp_words_with K
end
section
variable {K : PySem.W.Frag} {H : Hp}
theorem wholeD_int {d : L2.D} (h : wholeD d = true) : ∃ i, d = .int i := by
  cases d <;> simp [wholeD, isD] at h
  exact ⟨_, rfl⟩

theorem LT.get {a : Addr} {xs : List (List Int)} {i : Int} (h : LT K H (.ref a) xs) (h0 : 0 ≤ i) (h1 : i < (xs.length : Int)) : ∃ us v, SqL K H a us ∧ atI us i = some v ∧ TI K H v (xs.getD i.toNat []) := by
  obtain ⟨a', us, e, hq, r⟩ := h
  cases e
  obtain ⟨j, rfl⟩ := Int.eq_ofNat_of_zero_le h0
  have hj : j < xs.length := by omega
  have e : (xs.map tI)[j]? = some (tI xs[j]) := by rw [List.getElem?_map, List.getElem?_eq_getElem hj]; rfl
  obtain ⟨v, hv, tv⟩ := r.get e
  refine ⟨us, v, hq, atI_nat hv, ?_⟩
  rw [Int.toNat_natCast, List.getD_eq_getElem?_getD, List.getElem?_eq_getElem hj]
  exact tv
theorem LT.len {a : Addr} {xs : List (List Int)} (h : LT K H (.ref a) xs) : ∃ us, SqL K H a us ∧ us.length = xs.length := by
  obtain ⟨a', us, e, hq, r⟩ := h
  cases e
  exact ⟨us, hq, by have := r.length; simpa using this⟩
end
end Hb

set_option Elab.async false
set_option linter.all false
set_option maxRecDepth 100000
set_option maxHeartbeats 4000000

namespace L2
open PySem PySem.Spec PyProof.Rows

section
variable {X : Cx} {sc : Scope} {N' : List Str} {cap : List (Option Nat)} {xc : Str} {pins : List (Addr × Obj)} {σ : St} {H : Hp} {s : Shared} {C c : Addr} {fp : List Addr}
end
section
variable {X : Cx} {sc : Scope} {N' : List Str} {cap : List (Option Nat)} {xc : Str} {tg elt iter : Expr} {ifs : List Expr} {pos : Pos} {g : TG} {tc : TT} {te : TE}
end
end L2

set_option Elab.async false
set_option linter.all false
set_option maxRecDepth 100000
set_option maxHeartbeats 4000000

namespace Hb
open PySem L2
section
variable {H H1 : Hp} {a : Addr} {ms : Ms} {k v : Int}
theorem dget_ok (rd : Rd H a (.dK (cK ms))) : DGet H a (.int k) ((lookI ms k).map V.int) := .inl ⟨cK ms, .inl k, rd, rfl, (cK_val ms k).symm⟩
theorem dget_at (rd : Rd H a (.dK (cK ms))) (h : lookI ms k = some v) : DGet H a (.int k) (some (.int v)) := .inl ⟨cK ms, .inl k, rd, rfl, by rw [cK_val, h]; rfl⟩
theorem dput_ok (h : H a = some (.dK (cK ms))) (hl : ms.length ≤ 1000000) : DPut H a (.int k) (.int v) (upd H a (.dK (cK (putI ms k v)))) := by
  rw [← cK_put]
  exact .inl ⟨cK ms, .inl k, h, rfl, by unfold cK; rw [List.length_map]; exact small hl, rfl⟩
theorem cK_get {i : Nat} {kk : Key} {x : V} (h : (cK ms)[i]? = some (kk, x)) : ∃ p : Int × Int, ms[i]? = some p ∧ kk = .inl p.1 ∧ x = .int p.2 := by
  unfold cK at h
  rw [List.getElem?_map] at h
  cases e : ms[i]? with
  | none => rw [e] at h; cases h
  | some p =>
    rw [e] at h
    have := Option.some.inj h
    simp only [Prod.mk.injEq] at this
    exact ⟨p, rfl, this.1.symm, this.2.symm⟩
theorem cK_len : (cK ms).length = ms.length := by unfold cK; rw [List.length_map]
theorem upd_id {o : HO} (h : H a = some o) : upd H a o = H := by
  funext b
  by_cases e : b = a
  · rw [e, upd_same, h]
  · rw [upd_ne e]
theorem frz_free {x : HO} {D : Addr} (h : (upd H a x) D = none) : H D = none ∧ D ≠ a := by
  have n : D ≠ a := fun z => by rw [z, upd_same] at h; cases h
  rw [upd_ne n] at h
  exact ⟨h, n⟩
theorem rd_same {o : HO} {b : Addr} (s : Same H H1) (h : Rd H b o) : Rd H1 b o := by
  rcases h with h | ⟨q, h⟩
  · exact .inl (s _ _ h)
  · exact .inr ⟨q, s _ _ h⟩
end
section
variable (K : PySem.W.Frag)
noncomputable def sp_add_at (_K : PySem.W.Frag) : Sp := fun vs H Q _ => ∃ (a : Addr) (ms : Ms) (k n : Int), vs = [.ref a, .int k, .int n] ∧ H a = some (.dK (cK ms)) ∧ ms.length ≤ 1000000 ∧ Q .non (upd H a (.dK (cK (addI ms k n))))
noncomputable def sp_L_number_by (_K : PySem.W.Frag) : Sp := fun vs H Q _ => ∃ c : Int, vs = [.int c] ∧ ∀ v : Int, v.natAbs < 2 ^ 70 → Q (.int v) H
end
end Hb

set_option Elab.async false
set_option linter.all false
set_option maxRecDepth 100000
set_option maxHeartbeats 4000000

namespace L2
open PySem PySem.Spec PyProof.Rows
structure RoomN (k : Nat) (A : Around) : Prop where
  dp : A.depth + 3 * k + 5 < recursionLimit
  un : A.units + 16 * k + 200 < cLine
theorem RoomN.mono {j k : Nat} {A : Around} (r : RoomN k A) (h : j ≤ k) : RoomN j A := ⟨by have := r.dp; omega, by have := r.un; omega⟩
theorem RoomN.deeper {k : Nat} {A : Around} (r : RoomN (k + 1) A) (env : Env) : RoomN k (A.deeper env) :=
  ⟨by have := r.dp; show A.depth + 1 + 3 * k + 5 < _; omega, by have := r.un; show A.units + 3 + 16 * k + 200 < _; omega⟩
theorem RoomN.depth {k : Nat} {A : Around} (r : RoomN k A) : A.depth < recursionLimit := by have := r.dp; omega
theorem Room.n {k : Nat} {A : Around} {v : Option Value} (r : Room k A) : RoomN k (A.mark v) := ⟨r.dp, r.un⟩
structure FnOkN (P : Program) (w : World) (K : PySem.W.Frag) (mg : Str → Option Value) (base : Heap) (k : Nat) (f : Addr) (fd : FuncData) (ps : List Str) (sp : Sp) : Prop where
  len : ∀ vs H Q E, sp vs H Q E → vs.length = ps.length
  run : ∀ (A : Around) (outer : List Env) (s : Shared) (H : Hp) (args : Args) (us : List Value) (vs : List V) (Q : VK) (E : XK), RoomN k A → Env0 P w K mg base A outer s H → BindsTo s fd args (ps.zip us) → Vals vs us → sp vs H Q E →
    codeAny (model P w) A (.call (.ref f) args) (CR CX0 outer P w H s Q E) s
noncomputable abbrev cxN (P : Program) (w : World) (K : PySem.W.Frag) (mg : Str → Option Value) (base : Heap) (N : List Str) (qual : Str) (scope : Scope) (f : Addr) (cd : Value) (A : Around) (outer : List Env) (s : Shared) (H : Hp) (E : XK) : Cx :=
  { cxOf CX0 P w K mg base N qual scope f cd A outer s H E with calm := false, xe := fun _ _ => False }
section
variable {P : Program} {w : World} {K : PySem.W.Frag} {mg : Str → Option Value} {base : Heap}
theorem inv_startN {N ps : List Str} {qual : Str} {scope : Scope} {f : Addr} {cd : Value} {A : Around} {outer : List Env} {s s1 : Shared} {H : Hp} {E : XK} {us : List Value} {vs : List V}
    (S : FnScope N ps scope) (e0 : Env0 P w K mg base A outer s H) (hl : vs.length = ps.length) (r : Vals vs us)
    (x : InCallC s s.heap.objs.size (bindL (envOfC qual scope s.heap.objs.size f cd).kindOf (ps.zip us) fun _ => none) (cellsFrom (s.heap.objs.size + 1) scope.names []) (bindC (envOfC qual scope s.heap.objs.size f cd).kindOf (ps.zip us) fun _ => none) s1) :
    Inv (cxN P w K mg base N qual scope f cd A outer s H E) [] (start N vs) H s1 := by
  have e1 : Env0 P w K mg base ({ A with handled := none }) outer s H := ⟨e0.frames, e0.mod, e0.bs, e0.bsz, e0.funs, e0.frf, e0.hok, e0.bare⟩
  have I := inv_start (CX := CX0) (E := E) (A := { A with handled := none }) (cd := cd) (f := f) (qual := qual) S rfl e1 hl r x
  exact ⟨⟨I.ok.mod, I.ok.kind, I.ok.glob, I.ok.blt, I.ok.above, I.ok.inj, I.ok.has, I.ok.cab, fun z => Bool.noConfusion z, Around.frames_deeper e0.frames, I.ok.stk, I.ok.exf, I.ok.bs, I.ok.bsz, I.ok.noex, I.ok.exfs, I.ok.funs, I.ok.frf⟩, I.os, I.bare, I.base, I.loc, I.cell, I.free, I.freeC, I.pin, I.hok, I.len⟩
theorem Fun.okN {x qual : Str} {st : Stmt} {f : Addr} {fd : FuncData} {N ps : List Str} {k : Nat} {sp : Sp} (F : Fun K x qual st f fd) (S : FnScope N ps (defScope st)) (len : ∀ vs H Q E, sp vs H Q E → vs.length = ps.length)
    (hbody : ∀ (cdv : Value) (A : Around) (outer : List Env) (s : Shared) (H : Hp) (vs : List V) (Q : VK) (E : XK), RoomN k (A.deeper (envOfC qual (defScope st) s.heap.objs.size f cdv)) → sp vs H Q E →
      ∃ t, PSs (cxN P w K mg base N qual (defScope st) f cdv A outer s H E) (defBody st) t ∧ t { nx := fun _ H' => Q .non H', rt := Q } (start N vs) H) : FnOkN P w K mg base (k + 1) f fd ps sp := by
  obtain ⟨oc, od, kV, doc, pm, an, cdv, ct, osl, rfl, lk, hcd⟩ := F.ex
  refine ⟨len, fun A outer s H args us vs Q E hr e0 hb r hsp => ?_⟩
  have hl := len _ _ _ _ hsp
  have KX : K.In s.heap := e0.mod.kin.keeps fun b o e => (e0.bs b o e).1
  have lim : s.heap.NoLimit := e0.mod.nolimit.keeps fun b o e => (e0.bs b o e).1
  have hkind : ∀ y ∈ ps.zip us, (defScope st).names.lookup y.1 = some .local ∨ ((defScope st).names.lookup y.1 = some .cell ∧ ((cellsFrom (s.heap.objs.size + 1) (defScope st).names []).lookup y.1).isSome = true) := fun ⟨n, v⟩ hy => by
    rcases S.par n (List.of_mem_zip hy).1 with q | q
    · exact .inl q
    · exact .inr ⟨q, PySem.W.cellsFrom_some _ _ _ (.inl q)⟩
  refine codeAny_call_function hr.depth (KX _ _ lk) rfl S.co S.gen rfl (PySem.W.codeRec_of KX hcd) (hb _ _ _ _ ?_)
  refine wpAny_newFunctionEnv_cells S.kind hkind fun env he s1 x => ?_
  subst he
  refine ⟨lim.keeps x.toInCall.keep, codeAny_func ?_⟩
  obtain ⟨t, ht, hq⟩ := hbody cdv A outer s H vs Q E (hr.deeper _) hsp
  have I : Inv (cxN P w K mg base N qual (defScope st) f cdv A outer s H E) [] (start N vs) H s1 := inv_startN S e0 hl r x
  refine wpAny_mono (ht [] s1 (start N vs) H _ I hq) (fun fl s' hs => ?_) fun e s' hs => hs.elim
  have fin : ∀ {σ' : St} {H' : Hp} {v : V} {u : Value}, Inv (cxN P w K mg base N qual (defScope st) f cdv A outer s H E) [] σ' H' s' → RelV v u → Q v H' → CE outer P w H s Q u s' :=
    fun {σ' H' v u} J rv q => ⟨v, H', J.os, J.bare, J.base, J.hok, rv, q⟩
  cases fl with
  | ret u =>
    obtain ⟨v, σ', H', J, rv, q⟩ := hs
    exact fin J rv q
  | next =>
    obtain ⟨σ', H', J, q⟩ := hs
    exact fin (v := V.non) (u := Value.none) J rfl q
  | brk =>
    obtain ⟨_, _, _, q⟩ := hs
    exact False.elim q
  | cont =>
    obtain ⟨_, _, _, q⟩ := hs
    exact False.elim q
end
structure HasN (P : Program) (w : World) (K : PySem.W.Frag) (mg : Str → Option Value) (base : Heap) (x : Str) (ps : List Str) (k : Nat) (sp : Sp) : Prop where
  ex : ∃ (f : Addr) (fd : FuncData), mg x = some (.ref f) ∧ PySem.W.keepIn K (.ref f) = true ∧ Binds K fd ps [] ∧ FnOkN P w K mg base k f fd ps sp
section
variable {X : Cx} {x : Str} {ps : List Str} {j k : Nat} {sp : Sp} {p pos : Pos} {e : Expr} {es : List Expr} {t : TA}
theorem boot_ValueErrorT : bootBuiltins "ValueError" = some (.type "ValueError") := by decide +kernel
theorem pe_callN (h : HasN X.prog X.w X.K X.mg X.base x ps j sp) (hr : RoomN k X.A) (hg : Gl X x) (ha : PA X (e :: es) t) (hk : j ≤ k := by decide) (hdb : (x == ("__debug__" : Str)) = false := by decide)
    (he : starEach (e :: es) X.env = (false, eval e X.env) :: starEach es X.env := by rfl) (hpl : (backTo pos (starEach es X.env)).any (·.1) = false := by rfl) : PE X (.Call (.Name x p) (e :: es) [] pos) (tCall sp [] E0 t) := by
  intro pins s σ H Q I h1
  obtain ⟨f, fd, hm, hkp, hb, F⟩ := h.ex
  refine wpAny_Call_Name_kw (ld_glob I hg hm ?_ hdb)
  refine PySem.W.callWith_K (h₀ := X.base) I.ok.mod.kin hkp (thn (ha pos pins s σ H _ I h1) fun us s1 hm1_ => ?_) he hpl
  obtain ⟨vs, H1, I1, r, q⟩ := hm1_
  refine ⟨I1.kIn, ?_⟩
  have q' : sp vs H1 Q E0 := by have : sp (vs ++ []) H1 Q E0 := q; rwa [List.append_nil] at this
  have hl : us.length = ps.length := by rw [← r.length]; exact F.len _ _ _ _ q'
  have hb1 := hb s1 us I1.kIn (by rw [List.append_nil]; exact hl)
  rw [List.append_nil] at hb1
  refine wpAny_call (codeAny_mono (F.run X.A X.stack s1 H1 ⟨us, []⟩ us vs Q _ (hr.mono hk) I1.env0 hb1 r q') fun q s' hq => ?_)
  cases q with
  | error u => exact False.elim hq
  | ok fl =>
    cases fl with
    | ret u => exact I1.after hq
    | next => exact False.elim hq
    | brk => exact False.elim hq
    | cont => exact False.elim hq
end
end L2

set_option Elab.async false
set_option linter.all false
set_option maxRecDepth 100000
set_option maxHeartbeats 4000000

namespace L2
open PySem PySem.Spec PyProof.Rows
end L2

set_option linter.all false

namespace Hb
end Hb

set_option Elab.async false
set_option linter.all false
set_option maxRecDepth 100000
set_option maxHeartbeats 4000000

namespace Hb
open PySem L2
theorem mem_getD_or {α : Type} {l : List α} {i : Nat} {d : α} : l.getD i d ∈ l ∨ l.getD i d = d := by
  rw [List.getD_eq_getElem?_getD]
  by_cases h : i < l.length
  · rw [List.getElem?_eq_getElem h]
    exact .inl (List.getElem_mem h)
  · rw [List.getElem?_eq_none (by omega)]
    exact .inr rfl
section
variable {K : PySem.W.Frag} {H : Hp}
end
section
variable (K : PySem.W.Frag)
end
end Hb

set_option Elab.async false
set_option linter.all false
set_option maxRecDepth 100000
set_option maxHeartbeats 4000000

namespace L2
open PySem PySem.Spec PyProof.Rows PySem.SeqAt
inductive DM where
  | d (d : D) | c (ms : List (Int × Int))
noncomputable def RepM (K : PySem.W.Frag) (H : Hp) (v : V) : DM → Prop
  | .d d => Rep K H v d ∧ dep d ≤ 6
  | .c ms => ∃ a, v = .ref a ∧ Rd H a (.dK (cK ms))
noncomputable def sameM : DM → DM → Prop
  | .d d, .d e => eqD d e = true
  | .c ms, .c ns => sameC ms ns = true
  | _, _ => False

noncomputable def LikeM (K : PySem.W.Frag) (H : Hp) (vs ws : List V) : Prop := vs.length = ws.length ∧ ∀ (i : Nat) (v w : V), vs[i]? = some v → ws[i]? = some w → ∃ a b, RepM K H v a ∧ RepM K H w b ∧ sameM a b
noncomputable def rMix (K : PySem.W.Frag) (r : Bool) : R2 := fun x y H Q => ∃ (l m : Addr) (vs ws : List V), x = .ref l ∧ y = .ref m ∧ SqL K H l vs ∧ SqL K H m ws ∧ LikeM K H vs ws ∧ Q (.bl r) H
section
variable {X : Cx} {n : Nat} {K : PySem.W.Frag}
theorem mix_at {pins : List (Addr × Obj)} {σ : St} {H : Hp} {s : Shared} {vs ws : List V} {its its' : List Value} (I : Inv X pins σ H s) (hu : X.A.units + 8 < cLine) (rv : Vals vs its) (rv' : Vals ws its') (L : LikeM X.K H vs ws) :
    ∀ (j : Nat) (h1 : j < its.toArray.size) (h2 : j < its'.toArray.size), EqAt X.A.in1 s its.toArray[j] its'.toArray[j] true := by
  intro j h1 h2
  have h1' : j < its.length := by simpa using h1
  have h2' : j < its'.length := by simpa using h2
  have l1 := rv.length
  have l2 := rv'.length
  have ea : vs[j]? = some (vs[j]'(by omega)) := by simp <;> omega
  have eb : ws[j]? = some (ws[j]'(by omega)) := by simp <;> omega
  obtain ⟨u, eu, ru⟩ := rv.get ea
  obtain ⟨u', eu', ru'⟩ := rv'.get eb
  have f1 : its.toArray[j] = u := by
    have : its[j]? = some its[j] := by simp
    rw [eu] at this
    have := (Option.some.inj this).symm
    simpa using this
  have f2 : its'.toArray[j] = u' := by
    have : its'[j]? = some its'[j] := by simp
    rw [eu'] at this
    have := (Option.some.inj this).symm
    simpa using this
  rw [f1, f2]
  obtain ⟨a, b, ra, rb, hs⟩ := L.2 j _ _ ea eb
  cases a with
  | d d =>
    cases b with
    | d e =>
      have hd := ra.2
      have := (eqD_ok I d X.A.in1 _ _ u u' e (by show X.A.units + 1 + dep d < cLine; omega) ra.1 rb.1 ru ru').2
      rw [show eqD d e = true from hs] at this
      exact this
    | c ns => exact hs.elim
  | c ms =>
    cases b with
    | d e => exact hs.elim
    | c ns =>
      obtain ⟨p, e1, hp⟩ := ra
      obtain ⟨p', e2, hp'⟩ := rb
      rw [e1] at ru
      rw [e2] at ru'
      cases ru
      cases ru'
      by_cases hab : p = p'
      · rw [hab]
        exact EqAt.same _
      · have r := RcAt.dicts (A := X.A.in1) (I.idict hp) (I.idict hp') (by show X.A.units + 1 < cLine; omega)
        rw [show (ms.length == ns.length && ms.all fun p => decide (lookI ns p.1 = some p.2)) = true from hs] at r
        exact EqAt.of_refs hab r
theorem op_eqMix (hu : X.A.units + 8 < cLine) : OpR X (compareOp .Eq) (rMix X.K true) := by
  intro pins s σ H x y v u Q I rx ry h
  obtain ⟨l, m, vs, ws, rfl, rfl, hl, hm, L, q⟩ := h
  cases rx
  cases ry
  obtain ⟨its, rv, p, _⟩ := I.list hl
  obtain ⟨its', rv', p', _⟩ := I.list hm
  have l1 := rv.length
  have l2 := rv'.length
  have l3 := L.1
  have main := RcAt.lists (A := X.A) (s := s) (e := fun _ => true) p.isList p'.isList (by simp; omega) (by omega) (mix_at I hu rv rv' L)
  have e0 : (List.range its.toArray.size).all (fun _ => true) = true := by simp
  rw [e0] at main
  exact main X.prog X.w X.xe _ ⟨.bl true, H, I, rfl, q⟩
theorem call_anyB (hc : X.calm = true) : CallR X (.builtin "any") (fun xs H Q => ∃ (p : Addr) (bs : List Bool), xs = [.ref p] ∧ SqL X.K H p (bs.map V.bl) ∧ Q (.bl (bs.any id)) H) := by
  intro pins s σ H xs us Q I r h
  obtain ⟨p, bs, rfl, hq, q⟩ := h
  obtain ⟨u, rfl, ru⟩ := vals1 r
  cases ru
  obtain ⟨its, rv, pl, hz⟩ := I.list hq
  have hh : X.A.handled = none := I.ok.hd hc
  have rel : ∀ (i : Nat) (v : Value), its.toArray[i]? = some v → ∃ b, bs[i]? = some b ∧ v = .bool b := fun i v e => by
    have e' : its[i]? = some v := by simpa using e
    have hlt : i < its.length := (List.getElem?_eq_some_iff.mp e').1
    have l1 := rv.length
    rw [List.length_map] at l1
    have hb : bs[i]? = some (bs[i]'(by omega)) := by simp <;> omega
    obtain ⟨u, hu, ru⟩ := rv.get (i := i) (x := V.bl (bs[i]'(by omega))) (by rw [List.getElem?_map, hb]; rfl)
    rw [e'] at hu
    cases hu
    exact ⟨_, hb, ru⟩
  refine call_any_walk (wpAny_pyIter_list pl.isList ?_)
  refine ⟨s.heap.objs.size, [s.heap.objs.size, p], [s.heap.objs.size], its.toArray.size, _, _, fun i => (bs[i]?).getD false, rfl, Walks.list (show X.A.in1.handled = none from hh) s.heap.objs.size p ?_ its.toArray, ⟨⟨_, Heap.get?_push_size _ rfl, rfl, rfl⟩, ?_⟩, ?_, fun h' tk k => ?_⟩
  · obtain ⟨o, _, ho, _⟩ := pl
    exact Nat.ne_of_lt (Heap.lt_size ho)
  · exact pl.isList.at fun o e => Heap.get?_push_of_some _ e
  · intro i v s' Q' E' hv hQ
    obtain ⟨b, hb, rfl⟩ := rel i v hv
    dsimp only at hQ
    rw [hb] at hQ
    exact wpAny_truthy_bool hQ
  · have e : (List.range its.toArray.size).any (fun i => (bs[i]?).getD false) = bs.any id := by
      have l1 := rv.length
      rw [List.length_map] at l1
      rw [List.size_toArray, ← l1]
      rw [Bool.eq_iff_iff, List.any_eq_true, List.any_eq_true]
      constructor
      · rintro ⟨i, hi, hx⟩
        have hlt := List.mem_range.mp hi
        have hb : bs[i]? = some bs[i] := by simp
        rw [hb] at hx
        exact ⟨_, List.getElem_mem hlt, hx⟩
      · rintro ⟨b, hb, hx⟩
        obtain ⟨i, hi⟩ := List.getElem?_of_mem hb
        refine ⟨i, List.mem_range.mpr (List.getElem?_eq_some_iff.mp hi).1, ?_⟩
        rw [hi]
        exact hx
    rw [e]
    have I1 : Inv X pins σ H { s with heap := h', toks := tk } := I.kept (fun b o e => k b o (by simp; exact Nat.ne_of_lt (Heap.lt_size e)) (Heap.get?_push_of_some _ e))
    exact ⟨.bl (bs.any id), H, I1, rfl, q⟩
theorem boot_anyB : bootBuiltins "any" = some (.builtin "any") := by decide +kernel
theorem kcall_anyB (hc : X.calm = true) (hK : X.K = K := by rfl) : CallR X (.builtin "any") (fun xs H Q => ∃ (p : Addr) (bs : List Bool), xs = [.ref p] ∧ SqL K H p (bs.map V.bl) ∧ Q (.bl (bs.any id)) H) := by subst hK; exact call_anyB hc
theorem kop_eqMix (hu : X.A.units + 8 < cLine) (hK : X.K = K := by rfl) : OpR X (compareOp .Eq) (rMix K true) := by subst hK; exact op_eqMix hu
end
end L2

set_option Elab.async false
set_option linter.all false
set_option maxRecDepth 100000
set_option maxHeartbeats 4000000

namespace L2
open PySem PySem.Spec PyProof.Rows
section
variable {prog : Program} {w : World} {A : Around} {E : Value → Shared → Prop} {s : Shared}
theorem nextOf_tup_item {j t : Addr} {n : Nat} {vs : Array Value} {x : Value} {Q : Value → Shared → Prop} (g : s.heap.IsTupleIter j t n) (gt : s.heap.IsTuple t vs) (gx : vs[n]? = some x)
    (k : ∀ h', h'.IsTupleIter j t (n + 1) → Heap.SameBut j s.heap h' → Q x { s with heap := h' }) : wpAny (model prog w) A (Builtin.SmallTypes.nextOf (.ref j)) Q E s := by
  obtain ⟨o, q1, q2, q3⟩ := id g
  obtain ⟨p, p1, _, m, p2⟩ := gt
  unfold Builtin.SmallTypes.nextOf; refine wpAny_bind (wpAny_callSpecial?_slot (name := Str.ofString "__next__") g.typeIs F.slot_tuple_iterator_next (wpAny_call_entry F.slot_tuple_iterator_next g.typeIs F.entry_tuple_iterator_next ?_ (F.args_tuple_iterator_next_1 _)))
  show wpAny _ _ (field (.ref j) 0 >>= _) _ _ s; refine wpAny_bind (wpAny_field q1 q3 (x := .ref t) rfl ?_)
  show wpAny _ _ (if (Value.ref t == Value.none) = true then _ else _) _ _ s; rw [if_neg (show ¬ ((Value.ref t == Value.none) = true) from Bool.false_ne_true)]
  show wpAny _ _ (field (.ref j) 1 >>= _) _ _ s; refine wpAny_bind (wpAny_field q1 q3 (x := .int n 0) rfl ?_)
  show wpAny _ _ (seqItems? (.ref t) >>= _) _ _ s; refine wpAny_bind (wpAny_seqItems p1 p2 ?_)
  simp only [Int.toNat_natCast, gx]
  refine wpAny_bind (wpAny_setField q1 q3 (by simp) (wpAny_pure ⟨x, rfl, wpAny_pure (k _ ?_ (Heap.SameBut.update ..))⟩))
  exact ⟨_, Heap.get?_update_self _ q1 (Obj.isFreed_of_fields (Obj.data_mapFields q3 _)), (Obj.cls_mapFields ..).trans q2, by rw [Obj.data_mapFields q3]; simp [rawInt]⟩
theorem nextOf_tup_end {j t : Addr} {n : Nat} {vs : Array Value} {Q : Value → Shared → Prop} (hn : A.handled = none) (g : s.heap.IsTupleIter j t n) (gt : s.heap.IsTuple t vs) (gx : vs[n]? = none)
    (k : ∀ h' e, Heap.ExtBut j s.heap h' → (∃ o, h'.get? e = some o ∧ o.cls = .type "StopIteration") → E (.ref e) { s with heap := h' }) : wpAny (model prog w) A (Builtin.SmallTypes.nextOf (.ref j)) Q E s := by
  obtain ⟨o, q1, q2, q3⟩ := id g
  obtain ⟨p, p1, _, m, p2⟩ := gt
  unfold Builtin.SmallTypes.nextOf; refine wpAny_bind (wpAny_callSpecial?_slot (name := Str.ofString "__next__") g.typeIs F.slot_tuple_iterator_next (wpAny_call_entry F.slot_tuple_iterator_next g.typeIs F.entry_tuple_iterator_next ?_ (F.args_tuple_iterator_next_1 _)))
  show wpAny _ _ (field (.ref j) 0 >>= _) _ _ s; refine wpAny_bind (wpAny_field q1 q3 (x := .ref t) rfl ?_)
  show wpAny _ _ (if (Value.ref t == Value.none) = true then _ else _) _ _ s; rw [if_neg (show ¬ ((Value.ref t == Value.none) = true) from Bool.false_ne_true)]
  show wpAny _ _ (field (.ref j) 1 >>= _) _ _ s; refine wpAny_bind (wpAny_field q1 q3 (x := .int n 0) rfl ?_)
  show wpAny _ _ (seqItems? (.ref t) >>= _) _ _ s; refine wpAny_bind (wpAny_seqItems p1 p2 ?_)
  simp only [Int.toNat_natCast, gx]
  refine wpAny_bind (wpAny_rule (wpAny_bind (wpAny_setField q1 q3 (by simp) ?_)))
  show wpAny _ _ (newExc (.type "StopIteration") [] >>= _) _ _ _; refine wpAny_bind ?_
  simp only [newExc, newTuple]; refine wpAny_bind (wpAny_newObj_type ?_ (by size_fits))
  refine wpAny_bind (m := firstArgMember _ _) (wpAny_of_eq (a := Value.none) (by first | rfl | (simp only [firstArgMember]; rfl)) ?_); refine wpAny_newObj_type ?_ (by size_fits)
  simp only [raiseNew]; refine wpAny_bind (wpAny_handled ?_)
  first | rw [show A.in1.handled = none from hn] | rw [hn]
  refine wpAny_bind (wpAny_pure (wpAny_throw ?_)); exact k _ _ (((Heap.SameBut.update ..).extBut.push _).push _) ⟨_, Heap.get?_push_size _ rfl, rfl⟩

end
noncomputable abbrev zt1 (h : Heap) (a : Addr) : Heap := h.push { cls := .type "tuple_iterator", data := .fields #[.ref a, .int 0 0] }
section
variable {prog : Program} {w : World} {A : Around} {E : Value → Shared → Prop} {s : Shared}
end
section
variable {g : TG} {tc : TT} {te : TE} {D : Addr} {Q : Hp → Prop} {τ : St} {H : Hp}
end
end L2

set_option Elab.async false
set_option linter.all false
set_option maxRecDepth 100000
set_option maxHeartbeats 4000000

namespace L2
open PySem PySem.Spec PyProof.Rows
open AutoSeq1 (wpAny_loadPart')
theorem enumT_new (t : Addr) (vs : Array Value) (n : Nat) (dd : Option Addr) (sl : Array (Option Value)) : Meets (Builtin.«enumerate.__new__» ⟨[.type "enumerate", .ref t], []⟩) (fun _ R s => s.heap.get? t = some { cls := .type "tuple", dict := dd, data := .seq vs n, slots := sl } ∧
      R (.ok (.ret (.ref (zt1 s.heap t).objs.size))) { s with heap := (zt1 s.heap t).push { cls := .type "enumerate", data := .fields #[.none, .bool false, .ref s.heap.objs.size, rawInt 0, .none, .none] } }) :=
  .of_wp fun prog w A R s h => by
    obtain ⟨hp, g, d, tk, os⟩ := s; obtain ⟨q1, q2⟩ := h
    have hsub := sub_enumerate
    have gt : Heap.IsTuple (Shared.heap ⟨hp, g, d, tk, os⟩) t vs := ⟨_, q1, rfl, n, rfl⟩
    wp_walk using wpAny_loadPart' q1
    refine wpAny_stack_any fun st => wpAny_pure ?_
    split
    · rename_i c _ _ _ _ _
      cases (c == Value.type "enumerate")
      · wp_walk using wpAny_loadPart' q1, wpAny_pyIter_tuple gt
        exact ⟨_, rfl, q2⟩
      · wp_walk using wpAny_loadPart' q1, wpAny_pyIter_tuple gt
        exact ⟨_, rfl, q2⟩
    · wp_walk using wpAny_loadPart' q1, wpAny_pyIter_tuple gt
      exact ⟨_, rfl, q2⟩
section
variable {prog : Program} {w : World} {A : Around} {E : Value → Shared → Prop} {s : Shared}
theorem enumT_item {e j t : Addr} {n : Nat} {vs : Array Value} {x old : Value} {Q : Value → Shared → Prop} (ge : IsEnum s.heap e j n old) (gj : s.heap.IsTupleIter j t n) (gt : s.heap.IsTuple t vs) (gx : vs[n]? = some x) (ne : e ≠ j)
    (k : ∀ h', IsEnumOut h' e j ((n : Int) + 1) x s.heap.objs.size → h'.IsTupleIter j t (n + 1) → h'.get? s.heap.objs.size = some { cls := .type "tuple", data := .seq #[.int n s.toks, x] } → h'.objs.size = s.heap.objs.size + 1 →
      (∀ b o, b ≠ e → b ≠ j → s.heap.get? b = some o → h'.get? b = some o) → Q (.ref s.heap.objs.size) { s with heap := h', toks := s.toks + 1 }) :
    wpAny (model prog w) A (Builtin.«enumerate.__next__» ⟨[.ref e], []⟩) (fun fin s' => ∃ r, fin = .done (.ret r) ∧ Q r s') E s := by
  obtain ⟨hp, g, d, tk, os⟩ := s
  show wpAny _ _ (field (.ref e) 2 >>= _) _ _ _; refine wpAny_bind (wpAny_field ge rfl (x := .ref j) rfl ?_)
  refine wpAny_bind (nextOf_tup_item gj gt gx fun k1 gj1 w1 => ?_)
  replace w1 : Heap.SameBut j hp k1 := w1
  have ge1 : IsEnum k1 e j n old := (w1.2 e ne).trans ge
  show wpAny _ _ (field (.ref e) 3 >>= _) _ _ ⟨k1, g, d, tk, os⟩; refine wpAny_bind (wpAny_field ge1 rfl (x := rawInt n) rfl ?_)
  show wpAny _ _ (field (.ref e) 4 >>= _) _ _ ⟨k1, g, d, tk, os⟩; refine wpAny_bind (wpAny_field ge1 rfl (x := .none) rfl ?_)
  show wpAny _ _ (mkInt n >>= _) _ _ ⟨k1, g, d, tk, os⟩; refine wpAny_bind (wpAny_mkInt ?_)
  show wpAny _ _ (setField (.ref e) 3 (rawInt ((n : Int) + 1)) >>= _) _ _ ⟨k1, g, d, tk + 1, os⟩
  refine wpAny_bind (wpAny_setField_rec ge1 (by simp) fun k2 ge2 w2 => ?_)
  replace w2 : Heap.SameBut e k1 k2 := w2
  replace ge2 : IsEnum k2 e j ((n : Int) + 1) old := ge2
  show wpAny _ _ (setField (.ref e) 4 .none >>= _) _ _ ⟨k2, g, d, tk + 1, os⟩; refine wpAny_bind (wpAny_setField_rec ge2 (by simp) fun k3 ge3 w3 => ?_)
  replace w3 : Heap.SameBut e k2 k3 := w3
  replace ge3 : IsEnum k3 e j ((n : Int) + 1) old := ge3
  show wpAny _ _ (newTuple [.int n tk, x] >>= _) _ _ ⟨k3, g, d, tk + 1, os⟩; refine wpAny_bind (wpAny_newTuple ?_)
  have ge4 : IsEnum (k3.push { cls := .type "tuple", data := .seq #[.int n tk, x] }) e j ((n : Int) + 1) old := Heap.get?_push_of_some _ ge3
  generalize hk4 : k3.push { cls := .type "tuple", data := .seq #[.int n tk, x] } = k4 at ge4
  have sz : k3.objs.size = hp.objs.size := by rw [w3.1, w2.1, w1.1]
  have le : e < hp.objs.size := Heap.lt_size ge
  have gt4 : k4.get? hp.objs.size = some { cls := .type "tuple", data := .seq #[.int n tk, x] } := by rw [← hk4, ← sz]; exact Heap.get?_push_size _ rfl
  have sz4 : k4.objs.size = hp.objs.size + 1 := by rw [← hk4, Heap.size_push, sz]
  have kp4 : ∀ b o, b ≠ e → b ≠ j → hp.get? b = some o → k4.get? b = some o := fun b o n1 n2 q => by
    rw [← hk4]; exact Heap.get?_push_of_some _ (w3.extBut b o n1 (w2.extBut b o n1 (w1.extBut b o n2 q)))
  have gj4 : k4.IsTupleIter j t (n + 1) := by
    rw [← hk4]; obtain ⟨o, q, r⟩ := (gj1.extBut w2.extBut (Ne.symm ne)).extBut w3.extBut (Ne.symm ne); exact ⟨o, Heap.get?_push_of_some _ q, r⟩
  show wpAny _ _ (Builtin.SmallTypes.ownedTupleIsFree (.ref e) >>= _) _ _ ⟨k4, g, d, tk + 1, os⟩
  rw [sz]; clear hk4 ge3 w3 ge2 w2 ge1 w1 gj1 sz k3 k2 k1
  refine wpAny_bind ?_; unfold Builtin.SmallTypes.ownedTupleIsFree
  refine wpAny_bind (wpAny_field ge4 rfl (x := .none) rfl (wpAny_pure ?_)); simp only [if_true]
  refine wpAny_bind (wpAny_rule ?_); refine wpAny_bind (wpAny_field ge4 rfl (x := old) rfl ?_)
  refine wpAny_bind (wpAny_setField_rec ge4 (by simp) fun k5 ge5 w5 => ?_)
  replace w5 : Heap.SameBut e k4 k5 := w5
  replace ge5 : IsEnum k5 e j ((n : Int) + 1) x := ge5
  show wpAny _ _ (Builtin.SmallTypes.ownedTupleHandOut (.ref e) (.ref hp.objs.size) >>= _) _ _ ⟨k5, g, d, tk + 1, os⟩; refine wpAny_bind ?_; unfold Builtin.SmallTypes.ownedTupleHandOut
  refine wpAny_bind (wpAny_setField_rec ge5 (by simp) fun k6 ge6 w6 => ?_)
  replace w6 : Heap.SameBut e k5 k6 := w6
  replace ge6 : IsEnumOut k6 e j ((n : Int) + 1) x hp.objs.size := ge6
  refine wpAny_setField_rec ge6 (by simp) fun k7 ge7 w7 => ?_
  replace w7 : Heap.SameBut e k6 k7 := w7
  replace ge7 : IsEnumOut k7 e j ((n : Int) + 1) x hp.objs.size := ge7
  refine wpAny_bind (wpAny_letGo (wpAny_pure ⟨_, rfl, k k7 ge7 ?_ ?_ ?_ ?_⟩))
  · exact ((gj4.extBut w5.extBut (Ne.symm ne)).extBut w6.extBut (Ne.symm ne)).extBut w7.extBut (Ne.symm ne)
  · exact w7.extBut _ _ (Nat.ne_of_gt le) (w6.extBut _ _ (Nat.ne_of_gt le) (w5.extBut _ _ (Nat.ne_of_gt le) gt4))
  · rw [w7.1, w6.1, w5.1, sz4]
  · exact fun b o n1 n2 q => w7.extBut b o n1 (w6.extBut b o n1 (w5.extBut b o n1 (kp4 b o n1 n2 q)))
theorem next_enumT_item {e j t : Addr} {n : Nat} {vs : Array Value} {x old : Value} {Q : Option Value → Shared → Prop} (ge : IsEnum s.heap e j n old) (gj : s.heap.IsTupleIter j t n) (gt : s.heap.IsTuple t vs) (gx : vs[n]? = some x) (ne : e ≠ j)
    (k : ∀ h', IsEnumOut h' e j ((n : Int) + 1) x s.heap.objs.size → h'.IsTupleIter j t (n + 1) → h'.get? s.heap.objs.size = some { cls := .type "tuple", data := .seq #[.int n s.toks, x] } → h'.objs.size = s.heap.objs.size + 1 →
      (∀ b o, b ≠ e → b ≠ j → s.heap.get? b = some o → h'.get? b = some o) → Q (some (.ref s.heap.objs.size)) { s with heap := h', toks := s.toks + 1 }) : wpAny (model prog w) A (pyNext (.ref e)) Q E s := by
  have ht : s.TypeIs (.ref e) "enumerate" := ⟨_, ge, rfl⟩
  unfold pyNext
  exact wpAny_bind (wpAny_attempt (wpAny_callSpecial?_slot (name := Str.ofString "__next__") ht F.slot_enumerate_next (wpAny_call_entry F.slot_enumerate_next ht F.entry_enumerate_next (enumT_item ge gj gt gx ne fun h' a b c d q => wpAny_pure (k h' a b c d q)) (F.args_enumerate_next_1 _))))
theorem next_enumT_end {e j t : Addr} {n : Nat} {vs : Array Value} {old : Value} {Q : Option Value → Shared → Prop} (hn : A.handled = none) (ge : IsEnum s.heap e j n old) (gj : s.heap.IsTupleIter j t n) (gt : s.heap.IsTuple t vs) (gx : vs[n]? = none)
    (k : ∀ h', Heap.ExtBut j s.heap h' → Q none { s with heap := h' }) : wpAny (model prog w) A (pyNext (.ref e)) Q E s := by
  have ht : s.TypeIs (.ref e) "enumerate" := ⟨_, ge, rfl⟩
  unfold pyNext
  refine wpAny_bind (wpAny_attempt (wpAny_callSpecial?_slot (name := Str.ofString "__next__") ht F.slot_enumerate_next (wpAny_call_entry F.slot_enumerate_next ht F.entry_enumerate_next ?_ (F.args_enumerate_next_1 _))))
  show wpAny _ _ (field (.ref e) 2 >>= _) _ _ _; refine wpAny_bind (wpAny_field ge rfl (x := .ref j) rfl ?_)
  refine wpAny_bind (nextOf_tup_end hn gj gt gx fun h' x he hx => ?_)
  obtain ⟨o, q1, q2⟩ := hx
  exact wpAny_bind (wpAny_isInstance (T := "StopIteration") (b := true) ⟨o, q1, q2⟩ isSubtype_stop (wpAny_pure (k _ he)))
theorem call_enumT {t : Addr} {vs : Array Value} {Q : Value → Shared → Prop} (gt : s.heap.IsTuple t vs)
    (k : ∀ h', IsEnum h' (s.heap.objs.size + 1) s.heap.objs.size 0 .none → h'.IsTupleIter s.heap.objs.size t 0 → h'.objs.size = s.heap.objs.size + 2 → (∀ b o, s.heap.get? b = some o → h'.get? b = some o) → Q (.ref (s.heap.objs.size + 1)) { s with heap := h' }) :
    wpAny (model prog w) A (call (.type "enumerate") [.ref t]) Q E s := by
  obtain ⟨⟨c, dd, dt, sl⟩, q, qc, n, qd⟩ := gt
  replace qc : c = .type "tuple" := qc
  replace qd : dt = .seq vs n := qd
  subst qc qd
  refine callType_new F.called_enumerate (by decide) (F.typeCall_enumerate_1 _) (F.newCall_enumerate_1 _) (fun obj => F.args_object_init_2 obj _) F.entry_enumerate_new (enumT_new t vs n dd sl) ⟨q, ?_⟩
  have z1 : (zt1 s.heap t).objs.size = s.heap.objs.size + 1 := Heap.size_push ..
  show _ ∧ _
  rw [z1]
  have ge : IsEnum ((zt1 s.heap t).push { cls := .type "enumerate", data := .fields #[.none, .bool false, .ref s.heap.objs.size, rawInt 0, .none, .none] }) (s.heap.objs.size + 1) s.heap.objs.size 0 .none := by
    have := Heap.get?_push_size (zt1 s.heap t) (o := { cls := .type "enumerate", data := .fields #[.none, .bool false, .ref s.heap.objs.size, rawInt 0, .none, .none] }) rfl
    rw [z1] at this; exact this
  exact ⟨⟨_, ge, rfl⟩, k _ ge ⟨_, Heap.get?_push_of_some _ (Heap.get?_push_size _ rfl), rfl, rfl⟩ (by rw [Heap.size_push, z1]) fun b o x => Heap.get?_push_of_some _ (Heap.get?_push_of_some _ x)⟩
end
noncomputable def IteT (K : PySem.W.Frag) (a : Addr) : It :=
  ⟨fun i H => ∃ xs x, SqT K H a xs ∧ xs[i]? = some x, fun i H x H' => ∃ p v, H p = none ∧ x = .ref p ∧ H' = upd H p (.tup [.int i, v]) ∧ ∀ xs, SqT K H a xs → xs[i]? = some v, fun i H => ∃ xs, SqT K H a xs ∧ xs.length ≤ i⟩
theorem turn_enumT {P : Program} {w : World} {K : PySem.W.Frag} {es : List Expr} {x1 : Nat} {tpos : Pos} (a e it : Addr) (hne : e ≠ it) : Turn P w K (.Tuple es x1 tpos) (IteT K a) [e, it] e (fun i h => (∃ old, IsEnum h e it (i : Int) old) ∧ h.IsTupleIter it a i) where
  mem := by simp
  obj := fun i h st b hb => by
    obtain ⟨⟨old, h1⟩, o, h2, c, d⟩ := st
    rcases List.mem_cons.mp hb with rfl | hb
    · exact ⟨_, h1, fun v z => by cases (show Data.fields _ = Data.cell v from z)⟩
    · have z : b = it := by simpa using hb
      subst z
      exact ⟨o, h2, fun v z => by rw [d] at z; cases z⟩
  keep := fun i h h' st k => by
    obtain ⟨⟨old, h1⟩, h2⟩ := st
    exact ⟨⟨old, k e (by simp) _ h1⟩, h2.at fun o z => k it (by simp) o z⟩
  item := by
    intro X hP hw hK hc i pins s σ H E I hf st hg
    subst hP hw hK
    obtain ⟨⟨old, h1⟩, h2⟩ := st
    obtain ⟨xs, x, hq, hx⟩ := hg
    obtain ⟨its, rv, p, hz⟩ := I.tuple hq
    obtain ⟨u, hu, ru⟩ := rv.get hx
    have fe := hf e (by simp)
    have fi := hf it (by simp)
    have lte : e < s.heap.objs.size := Heap.lt_size h1
    have hfresh : H s.heap.objs.size = none := I.hok.fresh (Nat.le_refl _)
    refine next_enumT_item h1 h2 (show s.heap.IsTuple a its.toArray from p) (x := u) (by simpa using hu) hne fun h' hout hit' htup hsz hk => ?_
    refine ⟨_, rfl, wpAny_letOwnedTupleGo_enum hout fun h3 hen hsb => ?_⟩
    replace hsb : Heap.SameBut e h' h3 := hsb
    have kk : ∀ b o, b ≠ e → b ≠ it → s.heap.get? b = some o → h3.get? b = some o := fun b o n1 n2 z => (hsb.2 b n1).trans (hk b o n1 n2 z)
    have ht3 : h3.get? s.heap.objs.size = some { cls := .type "tuple", data := .seq #[.int i s.toks, u] } := (hsb.2 _ (Nat.ne_of_gt lte)).trans htup
    have hi3 : h3.IsTupleIter it a (i + 1) := hit'.at fun o z => (hsb.2 it hne.symm).trans z
    have nch : ∀ b, b ∉ [e, it] → b ≠ e ∧ b ≠ it := fun b hb => by simpa using hb
    have ntr : ∀ b v, H b = some v → b ≠ e ∧ b ≠ it := fun b v z => ⟨ne_of_none z fe.1, ne_of_none z fi.1⟩
    have nsz : ∀ b v, H b = some v → b ≠ s.heap.objs.size := fun b v z => ne_of_none z hfresh
    refine ⟨.ref s.heap.objs.size, upd H s.heap.objs.size (.tup [.int i, x]), ?_, rfl, ⟨s.heap.objs.size, x, hfresh, rfl, rfl, fun ys hy => by rw [I.tuple_inj hy hq]; exact hx⟩, ⟨⟨_, hen⟩, hi3⟩, fun b hb => ?_⟩
    · refine Inv.step (s := s) (h' := h3) (t' := s.toks + 1) (H' := upd H s.heap.objs.size (.tup [.int i, x])) I (g' := s.gens) (d' := s.drawn) (ch := [e, it]) (fun b hb => ?_) (fun b o _ _ hb z _ => kk b o (nch b hb).1 (nch b hb).2 z) (fun b o _ _ hb z _ => ⟨o.slots, kk b o (nch b hb).1 (nch b hb).2 z⟩) (fun b o hb z n => ?_) (fun b o hb z => ⟨o, kk b o (nch b hb).1 (nch b hb).2 z⟩)
        (fun b ys z => by rw [upd_ne (nsz b _ z)]; exact z) (fun b o v z => by rw [upd_ne (nsz b _ z)]; exact z) (fun b ps z => ⟨#[], by rw [upd_ne (nsz b _ z), z]; simp⟩) (fun m hm => ?_) (fun b v z => ?_) I.bare
      · rcases List.mem_cons.mp hb with rfl | hb
        · exact ⟨fe.2.2.2.1, fe.2.1, fe.2.2.2.2.1, fe.2.2.2.2.2⟩
        · have z : b = it := by simpa using hb
          subst z
          exact ⟨fi.2.2.2.1, fi.2.1, fi.2.2.2.2.1, fi.2.2.2.2.2⟩
      · rw [upd_ne (Nat.ne_of_lt (Heap.lt_size z))]
        exact n
      · obtain ⟨o, es', ep, ho, r⟩ := hm
        exact ⟨o, es', ep, kk _ o fe.2.1.symm fi.2.1.symm ho, r⟩
      · by_cases hb : b = s.heap.objs.size
        · subst hb
          rw [upd_same] at z
          cases z
          exact ⟨(by show (2 : Nat) ≤ sizeLine; decide), [.int i s.toks, u], .cons ⟨_, rfl⟩ (.cons ru .nil), ⟨_, ht3, rfl, rfl, _, rfl⟩⟩
        · rw [upd_ne hb] at z
          refine (I.hok b v z).stay (fun c y hc' q => ?_) (fun c q => by rw [upd_ne (nsz c _ q)]; exact q) fun c ys q => by rw [upd_ne (nsz c _ q)]; exact q
          rcases hc' with rfl | hc'
          · exact kk _ _ (ntr _ _ z).1 (ntr _ _ z).2 q
          · exact kk _ _ (ntr _ _ hc').1 (ntr _ _ hc').2 q
    · have lb : b < s.heap.objs.size := by
        rcases List.mem_cons.mp hb with rfl | hb
        · exact lte
        · have z : b = it := by simpa using hb
          subst z
          obtain ⟨o, z, _⟩ := h2
          exact Heap.lt_size z
      rw [upd_ne (Nat.ne_of_lt lb)]
      exact (hf b hb).1
  done := by
    intro X hP hw hK hc i pins s σ H E I hf st hg
    subst hP hw hK
    obtain ⟨⟨old, h1⟩, h2⟩ := st
    obtain ⟨xs, hq, hx⟩ := hg
    obtain ⟨its, rv, p, hz⟩ := I.tuple hq
    obtain ⟨f0, f1, f2, f3, f4, f5⟩ := hf it (by simp)
    have hl := rv.length
    exact next_enumT_end (I.ok.hd hc) h1 h2 (show s.heap.IsTuple a its.toArray from p) (by simp; omega) fun h' eb => ⟨rfl, I.turned (t' := s.toks) (fun b o hb z => eb b o hb z) f0 f1 f3 f4 f5⟩
  self := fun _ _ _ _ _ st h => by
    obtain ⟨⟨old, h1⟩, h2⟩ := st
    exact wpAny_pyIter_enum h1 h

noncomputable def iEnumT (K : PySem.W.Frag) (ta : TA) : TI := fun σ H R => ta σ H fun vs H1 => ∃ a, vs = [.ref a] ∧ (∃ xs, SqT K H1 a xs) ∧ R (IteT K a) H1
theorem boot_enumerateTy : bootBuiltins "enumerate" = some (.type "enumerate") := by decide +kernel
theorem pi_enumT {X : Cx} {K : PySem.W.Frag} {es : List Expr} {x1 : Nat} {tpos : Pos} {a : Expr} {ta : TA} {p pos : Pos} (hg : Gl X "enumerate") (hm : X.mg "enumerate" = none) (ha : PA X [a] ta) (hK : X.K = K := by rfl) (hs : starEach [a] X.env = [(false, eval a X.env)] := by rfl) : PI X (.Tuple es x1 tpos) (.Call (.Name "enumerate" p) [a] [] pos) (iEnumT K ta) := by
  subst hK
  intro pins s σ H R I h
  refine Call_ (ld_blt I hg hm boot_enumerateTy (PyProof.Rows.callWith_type1 (thn (ha pos pins s σ H _ I h) fun us s1 hm1_ => ?_) hs rfl))
  obtain ⟨vs, H1, I1, r1, q1⟩ := hm1_
  obtain ⟨l, e, ⟨xs, hq⟩, q⟩ := q1
  subst e
  cases r1 with
  | cons r rr =>
    cases rr
    cases r
    obtain ⟨its, rv, pl, hz⟩ := I1.tuple hq
    refine call_enumT (show s1.heap.IsTuple l its.toArray from pl) fun h' hen hit hsz hk => ?_
    refine wpAny_pyIter_enum hen ⟨s1.heap.objs.size + 1, [s1.heap.objs.size + 1, s1.heap.objs.size], _, _, H1, rfl, I1.kept (t' := s1.toks) hk, turn_enumT l _ _ (Nat.succ_ne_self _), ⟨⟨_, hen⟩, hit⟩, fun b hb => ?_, q⟩
    have lb : s1.heap.objs.size ≤ b := by
      rcases List.mem_cons.mp hb with rfl | hb
      · exact Nat.le_succ _
      · have z : b = s1.heap.objs.size := by simpa using hb
        rw [z]
        exact Nat.le_refl _
    exact I1.fpOk lb (I1.hok.fresh lb)
section
variable {g : TG} {tc : TT} {te : TE} {D : Addr} {Q : Hp → Prop} {τ : St} {H : Hp}
theorem comp_enumT {K : PySem.W.Frag} {a : Addr} {xs : List V} (Pv : Nat → List V → St → Hp → Prop) (h0 : Pv 0 [] τ H) (hl : ∀ i ys τ H, i ≤ xs.length → Pv i ys τ H → SqT K H a xs)
    (hs : ∀ i x ys τ H p, xs[i]? = some x → Pv i ys τ H → H p = none → g (.ref p) τ (upd H p (.tup [.int i, x])) fun τ2 H2 => tc τ2 H2 fun b H3 => if b = true then te τ2 H3 fun y H4 => H4 D = some (.lst ys) ∧ ys.length < sizeLine ∧ Pv (i + 1) (ys ++ [y]) τ2 (upd H4 D (.lst (ys ++ [y]))) else Pv (i + 1) ys τ2 H3)
    (hd : ∀ ys τ H, Pv xs.length ys τ H → Q H) : RunC (IteT K a) g tc te D Q τ H := by
  refine ⟨fun i m ys τ H => m = xs.length - i ∧ i ≤ xs.length ∧ Pv i ys τ H, ⟨xs.length, by simp, Nat.zero_le _, h0⟩, ?_⟩
  rintro i m ys τ H ⟨rfl, hi, pp⟩
  have q := hl i ys τ H hi pp
  by_cases hlt : i < xs.length
  · refine .inr ⟨⟨xs, xs[i], q, by simp [hlt]⟩, Pv (i + 1), fun ys' τ' H' p' => ⟨xs.length - (i + 1), by omega, rfl, hlt, p'⟩, fun x H' y => ?_⟩
    obtain ⟨p, v, hp, rfl, rfl, y⟩ := y
    exact hs i v ys τ _ p (y xs q) pp hp
  · have e : i = xs.length := by omega
    subst e
    exact .inl ⟨⟨xs, q, Nat.le_refl _⟩, hd ys τ H pp⟩
theorem for_enumT {K : PySem.W.Frag} {a : Addr} {xs : List V} {g : TG} {tb : TS} {D : Ends} {σ : St} {H : Hp} (Pv : Nat → St → Hp → Prop) (h0 : Pv 0 σ H) (hl : ∀ i σ H, i ≤ xs.length → Pv i σ H → SqT K H a xs)
    (hs : ∀ i x σ H p, xs[i]? = some x → Pv i σ H → H p = none → g (.ref p) σ (upd H p (.tup [.int i, x])) fun σ2 H2 => tb { D with nx := Pv (i + 1), ct := Pv (i + 1), bk := D.nx } σ2 H2) (hd : ∀ σ H, Pv xs.length σ H → D.nx σ H) :
    ∃ W : Nat → Nat → St → Hp → Prop, (∃ m, W 0 m σ H) ∧ ∀ i m σ H, W i m σ H →
      ((IteT K a).stop i H ∧ D.nx σ H) ∨ ((IteT K a).go i H ∧ ∃ N : St → Hp → Prop, (∀ σ' H', N σ' H' → ∃ m', m' < m ∧ W (i + 1) m' σ' H') ∧ ∀ x H', (IteT K a).yld i H x H' → g x σ H' fun σ2 H2 => tb { D with nx := N, ct := N, bk := D.nx } σ2 H2) := by
  refine ⟨fun i m σ H => m = xs.length - i ∧ i ≤ xs.length ∧ Pv i σ H, ⟨xs.length, by simp, Nat.zero_le _, h0⟩, ?_⟩
  rintro i m σ H ⟨rfl, hi, pp⟩
  have q := hl i σ H hi pp
  by_cases hlt : i < xs.length
  · refine .inr ⟨⟨xs, xs[i], q, by simp [hlt]⟩, Pv (i + 1), fun σ' H' p' => ⟨xs.length - (i + 1), by omega, rfl, hlt, p'⟩, fun x H' y => ?_⟩
    obtain ⟨p, v, hp, rfl, rfl, y⟩ := y
    exact hs i v σ _ p (y xs q) pp hp
  · have e : i = xs.length := by omega
    subst e
    exact .inl ⟨⟨xs, q, Nat.le_refl _⟩, hd σ H pp⟩
end
end L2

set_option linter.all false

namespace Hb
noncomputable def oftN (fs : List Int) (f : Int) : Nat → Int
  | 0 => 0
  | i + 1 => if fs.getD i 0 = f then oftN fs f i + 1 - 2 * ((i : Int) % 2) else oftN fs f i
noncomputable def sg (i : Nat) : Int := 1 - 2 * ((i : Int) % 2)
end Hb

set_option Elab.async false
set_option linter.all false
set_option maxRecDepth 100000
set_option maxHeartbeats 4000000

namespace Hb
open PySem L2
noncomputable def sgn (n : Int) (i : Nat) : Int := if (i : Int) % 2 = 0 then n else -n
noncomputable def addFN (ms : Ms) (fs : List Int) (n : Int) : Nat → Ms
  | 0 => ms
  | i + 1 => addI (addFN ms fs n i) (fs.getD i 0) (sgn n i)
noncomputable def addF (ms : Ms) (fs : List Int) (n : Int) : Ms := addFN ms fs n fs.length
theorem get_addFN (ms : Ms) (fs : List Int) (n k : Int) : ∀ i, getI (addFN ms fs n i) k = getI ms k + oftN fs k i * n
  | 0 => by simp [addFN, oftN]
  | i + 1 => by
    show getI (addI (addFN ms fs n i) (fs.getD i 0) (sgn n i)) k = _
    rw [get_add, get_addFN ms fs n k i]
    show _ = getI ms k + (if fs.getD i 0 = k then oftN fs k i + 1 - 2 * ((i : Int) % 2) else oftN fs k i) * n
    by_cases h : k = fs.getD i 0
    · rw [if_pos h, if_pos h.symm]
      have e : sgn n i = (1 - 2 * ((i : Int) % 2)) * n := by
        unfold sgn
        have : (i : Int) % 2 = 0 ∨ (i : Int) % 2 = 1 := by omega
        rcases this with z | z
        · rw [if_pos z, z]; simp
        · rw [if_neg (by omega), z]; omega
      rw [e, show oftN fs k i + 1 - 2 * ((i : Int) % 2) = oftN fs k i + (1 - 2 * ((i : Int) % 2)) by omega, Int.add_mul]
      omega
    · rw [if_neg h, if_neg (fun z => h z.symm)]
theorem len_addFN (ms : Ms) (fs : List Int) (n : Int) : ∀ i, (addFN ms fs n i).length ≤ ms.length + i
  | 0 => Nat.le_refl _
  | i + 1 => by
    have h1 := len_addFN ms fs n i
    have h2 := len_add (addFN ms fs n i) (fs.getD i 0) (sgn n i)
    show (addI _ _ _).length ≤ _
    omega
noncomputable def partB (xs : List (List Int)) (k p n : Int) : Bool := placeLev xs (.int p) k && decide (¬ n = 0)
noncomputable def chainB (xs : List (List Int)) (k : Int) (ms : Ms) : Bool := ms.all fun p => partB xs k p.1 p.2
noncomputable def bordN (xs : List (List Int)) (ms : Ms) : Nat → Ms
  | 0 => []
  | i + 1 => addF (bordN xs ms i) (xs.getD (ms.getD i (0, 0)).1.toNat []) (ms.getD i (0, 0)).2
theorem len_bordN {xs : List (List Int)} (h4 : ∀ x ∈ xs, x.length ≤ 4) (ms : Ms) : ∀ i, (bordN xs ms i).length ≤ 4 * i
  | 0 => Nat.le_refl _
  | i + 1 => by
    have h1 := len_bordN h4 ms i
    show (addF _ _ _).length ≤ _
    unfold addF
    have h2 := len_addFN (bordN xs ms i) (xs.getD (ms.getD i (0, 0)).1.toNat []) (ms.getD i (0, 0)).2 (xs.getD (ms.getD i (0, 0)).1.toNat []).length
    have h3 : (xs.getD (ms.getD i (0, 0)).1.toNat []).length ≤ 4 := by
      rcases mem_getD_or (l := xs) (i := (ms.getD i (0, 0)).1.toNat) (d := []) with z | z
      · exact h4 _ z
      · rw [z]; exact Nat.zero_le _
    omega
theorem placeLev_in {xs : List (List Int)} {p l : Int} (h : placeLev xs (.int p) l = true) : 0 ≤ p ∧ p < (xs.length : Int) := by
  have h' : (decide (0 ≤ p) && decide (p < (xs.length : Int)) && decide (levI (xs.getD p.toNat []).length = l)) = true := h
  rw [Bool.and_eq_true, Bool.and_eq_true] at h'
  exact ⟨of_decide_eq_true h'.1.1, of_decide_eq_true h'.1.2⟩

noncomputable def StayX (b : Addr) (H H1 : Hp) : Prop := ∀ c q, c ≠ b → H c = some q → H1 c = some q
section
variable {K : PySem.W.Frag} {H H1 : Hp} {b : Addr} {m : List (Key × V)}
theorem SqL.x (s : StayX b H H1) (hb : H b = some (.dK m)) {a : Addr} {xs : List V} (h : SqL K H a xs) : SqL K H1 a xs := by
  rcases h with (h | ⟨o, h⟩) | h
  · exact .inl (.inl (s _ _ (fun z => by rw [z, hb] at h; cases h) h))
  · exact .inl (.inr ⟨o, s _ _ (fun z => by rw [z, hb] at h; cases h) h⟩)
  · exact .inr h
theorem SqT.x (s : StayX b H H1) (hb : H b = some (.dK m)) {a : Addr} {xs : List V} (h : SqT K H a xs) : SqT K H1 a xs := by
  rcases h with (h | ⟨o, h⟩) | h
  · exact .inl (.inl (s _ _ (fun z => by rw [z, hb] at h; cases h) h))
  · exact .inl (.inr ⟨o, s _ _ (fun z => by rw [z, hb] at h; cases h) h⟩)
  · exact .inr h
mutual
theorem Rep.x (s : StayX b H H1) (hb : H b = some (.dK m)) {v : V} {d : L2.D} (h : Rep K H v d) : Rep K H1 v d := by
  cases d with
  | non => exact h
  | bl b => exact h
  | int i => exact h
  | str x => exact h
  | tup ds =>
    obtain ⟨a, vs, e, q, r⟩ := h
    exact ⟨a, vs, e, SqT.x s hb q, Reps.x s hb r⟩
  | lst ds =>
    obtain ⟨a, vs, e, q, r⟩ := h
    exact ⟨a, vs, e, SqL.x s hb q, Reps.x s hb r⟩
theorem Reps.x (s : StayX b H H1) (hb : H b = some (.dK m)) {vs : List V} {ds : List L2.D} (h : Reps K H vs ds) : Reps K H1 vs ds := by
  cases ds with
  | nil => exact h
  | cons d r =>
    obtain ⟨v, q, e, h1, h2⟩ := h
    exact ⟨v, q, e, Rep.x s hb h1, Reps.x s hb h2⟩
end
end
section
variable (K : PySem.W.Frag)
noncomputable def sp_add_faces : Sp := fun vs H Q _ => ∃ (a : Addr) (v : V) (ms : Ms) (fs : List Int) (n : Int), vs = [.ref a, v, .int n] ∧ H a = some (.dK (cK ms)) ∧ TI K H v fs ∧ ms.length + fs.length ≤ 100000 ∧
  ∀ H', StayX a H H' → H' a = some (.dK (cK (addF ms fs n))) → Q .non H'
end
end Hb

set_option Elab.async false
set_option linter.all false
set_option maxRecDepth 100000
set_option maxHeartbeats 4000000

namespace Hb
open PySem L2
noncomputable def face (xs : List (List Int)) (φ : Int → Int) (p : Int) : Int := sumN (fun j => sg j * φ ((xs.getD p.toNat []).getD j 0)) (xs.getD p.toNat []).length
end Hb

set_option Elab.async false
set_option linter.all false
set_option maxRecDepth 100000
set_option maxHeartbeats 4000000

namespace Hb
open PySem L2

noncomputable def lenOk (n : Nat) (k : Int) : Bool := decide ((n : Int) = k + 1) || (decide (k = 0) && decide (n = 0))
noncomputable def spN (xs : List (List Int)) (k : Int) : Nat → List Int
  | 0 => []
  | i + 1 => if lenOk (xs.getD i []).length k = true then spN xs k i ++ [(i : Int)] else spN xs k i
noncomputable def spots (xs : List (List Int)) (k : Int) : List Int := spN xs k xs.length
theorem spN_len (xs : List (List Int)) (k : Int) : ∀ i, (spN xs k i).length ≤ i
  | 0 => Nat.le_refl _
  | i + 1 => by
    have := spN_len xs k i
    unfold spN
    split
    · rw [List.length_append, List.length_singleton]; omega
    · omega
theorem spN_yes {xs : List (List Int)} {k : Int} {i : Nat} (h : lenOk (xs.getD i []).length k = true) : spN xs k (i + 1) = spN xs k i ++ [(i : Int)] := by
  show (if _ then _ else _) = _
  rw [if_pos h]
theorem spN_no {xs : List (List Int)} {k : Int} {i : Nat} (h : ¬ lenOk (xs.getD i []).length k = true) : spN xs k (i + 1) = spN xs k i := by
  show (if _ then _ else _) = _
  rw [if_neg h]
theorem spN_mem {xs : List (List Int)} {k p : Int} : ∀ {i}, p ∈ spN xs k i → 0 ≤ p ∧ p < (i : Int) ∧ lenOk (xs.getD p.toNat []).length k = true
  | 0, h => by cases h
  | i + 1, h => by
    unfold spN at h
    split at h
    · rename_i e
      rcases List.mem_append.mp h with h | h
      · obtain ⟨h1, h2, h3⟩ := spN_mem h
        exact ⟨h1, by omega, h3⟩
      · have : p = (i : Int) := by simpa using h
        subst this
        refine ⟨by omega, by omega, ?_⟩
        rw [Int.toNat_natCast]
        exact e
    · obtain ⟨h1, h2, h3⟩ := spN_mem h
      exact ⟨h1, by omega, h3⟩
theorem lenOk_lev {n : Nat} {k : Int} (hc : n = 0 ∨ n = 2 ∨ n = 3 ∨ n = 4) (h0 : 0 ≤ k) (h : lenOk n k = true) : levI n = k := by
  unfold lenOk at h
  rw [Bool.or_eq_true, Bool.and_eq_true] at h
  unfold levI
  rcases h with h | ⟨h1, h2⟩
  · have e : (n : Int) = k + 1 := of_decide_eq_true h
    split <;> omega
  · have e1 : k = 0 := of_decide_eq_true h1
    have e2 : n = 0 := of_decide_eq_true h2
    split <;> omega

section
variable (K : PySem.W.Frag)
noncomputable def sp_L_spots_of : Sp := fun vs H Q _ => ∃ (a : Addr) (xs : List (List Int)) (k : Int), vs = [.ref a, .int k] ∧ LT K H (.ref a) xs ∧ 0 ≤ k ∧ k < 5 ∧ xs.length ≤ 1000 ∧
  ∀ (D : Addr) (H' : Hp), H D = none → Same H H' → H' D = some (.lst ((spots xs k).map V.int)) → Q (.ref D) H'
noncomputable def sp_L_chain_by : Sp := fun vs H Q _ => ∃ (l c : Addr) (sp ns : List Int), vs = [.ref l, .ref c] ∧ SqL K H l (sp.map V.int) ∧ SqL K H c (ns.map V.int) ∧ sp.length ≤ 1000 ∧ ns.length ≤ 63 ∧
  ∀ (D : Addr) (H' : Hp) (ms : Ms), H D = none → Same H H' → H' D = some (.dK (cK ms)) → nd ms → nz ms → (∀ p ∈ ms, p.1 ∈ sp ∧ p.2.natAbs < 2 ^ 70) → ms.length ≤ 63 → Q (.ref D) H'
end
end Hb

set_option Elab.async false
set_option linter.all false
set_option maxRecDepth 100000
set_option maxHeartbeats 4000000
namespace Hb
open PySem L2
end Hb
namespace L2
open PySem PySem.Spec PyProof.Rows
end L2
namespace Hb
open PySem L2

end Hb

set_option Elab.async false
set_option linter.all false
set_option maxRecDepth 100000
set_option maxHeartbeats 4000000

namespace L2
open PySem PySem.Spec PyProof.Rows
noncomputable abbrev TJ := St → Hp → (Hp → Prop) → Prop
noncomputable def tJN : TJ := fun _ H Q => Q H
noncomputable def tJC (te : TE) (tj : TJ) : TJ := fun σ H Q => te σ H fun v H1 => ∃ y : Str, v = .str y ∧ y.length ≤ 100000 ∧ tj σ H1 Q
noncomputable def PJ (X : Cx) (es : List Expr) (tj : TJ) : Prop := ∀ (pins : List (Addr × Obj)) (s : Shared) (σ : St) (H : Hp) (acc : Str) (Q : Hp → Prop), Inv X pins σ H s → acc.length + 100000 * es.length ≤ 1000000 → tj σ H Q →
  Joins (model X.prog X.w) X.A X.xe (evalEach es X.env) acc (fun out s' => out.length ≤ 1000000 ∧ ∃ H', Inv X pins σ H' s' ∧ Q H') s
theorem joins_mono {M : Model} {A : Around} {E : Value → Shared → Prop} : ∀ {parts : List (Sem Value)} {acc : Str} {Q Q' : Str → Shared → Prop} {s : Shared}, Joins M A E parts acc Q s → (∀ x s, Q x s → Q' x s) → Joins M A E parts acc Q' s
  | [], acc, Q, Q', s, h, f => f _ _ h
  | x :: rest, acc, Q, Q', s, h, f => wpAny_mono (show wpAny M A x _ E s from h) (fun v s1 hm_ => by obtain ⟨y, t, e, hz, hr⟩ := hm_; exact ⟨y, t, e, hz, joins_mono hr f⟩) fun _ _ z => z
section
variable {X : Cx} {e v₁ v₂ : Expr} {es rest : List Expr} {te : TE} {tj : TJ} {pos : Pos}
theorem pj_nil : PJ X [] tJN := fun pins s σ H acc Q I hl h => ⟨by simpa using hl, H, I, h⟩
theorem pj_cons (he : PE X e te) (hr : PJ X es tj) : PJ X (e :: es) (tJC te tj) := by
  intro pins s σ H acc Q I hl h
  show wpAny _ _ (eval e X.env) _ _ s
  refine thn (he pins s σ H _ I h) fun u s1 hm1_ => ?_
  obtain ⟨v, H1, I1, r, y, ev, hy, q⟩ := hm1_
  subst ev
  obtain ⟨t, rfl⟩ := r
  have hl2 : (acc ++ y).length = acc.length + y.length := strLen_append ..
  have hl3 : acc.length + 100000 * (es.length + 1) ≤ 1000000 := hl
  refine ⟨y, t, rfl, ?_, hr pins s1 σ H1 (acc ++ y) Q I1 (by rw [hl2]; omega) q⟩
  rw [hl2, sizeLine_eq]
  omega
noncomputable def tFstr (tj : TJ) : TE := fun σ H Q => tj σ H fun H' => ∀ x : Str, x.length ≤ 1000000 → Q (.str x) H'
theorem pe_fstr (h : PJ X (v₁ :: v₂ :: rest) tj) (hl : rest.length ≤ 7 := by decide) : PE X (.JoinedStr (v₁ :: v₂ :: rest) pos) (tFstr tj) := by
  intro pins s σ H Q I hw
  refine wpAny_JoinedStr (joins_mono (h pins s σ H Str.empty _ I ?_ hw) fun out s' ⟨hz, H', I', q⟩ => ⟨?_, .str out, H', I'.tok _, ⟨_, rfl⟩, q out hz⟩)
  · show 0 + 100000 * (rest.length + 2) ≤ 1000000
    omega
  · rw [sizeLine_eq]; omega
noncomputable def tFmt (te : TE) : TE := fun σ H Q => te σ H fun v H1 => (∃ i : Int, v = .int i ∧ i.natAbs.log2 < 1920 ∧ ∀ x : Str, x.length ≤ 100000 → Q (.str x) H1) ∨ ∃ x : Str, v = .str x ∧ x.length ≤ 100000 ∧ Q (.str x) H1
theorem pe_fmt (he : PE X e te) : PE X (.FormattedValue e (-1) none pos) (tFmt te) := by
  intro pins s σ H Q I hw
  refine wpAny_FormattedValue_plain (thn (he pins s σ H _ I hw) fun u s1 hm1_ => ?_)
  obtain ⟨v, H1, I1, r, q⟩ := hm1_
  rcases q with ⟨i, rfl, hi, q⟩ | ⟨x, rfl, hx, q⟩
  · obtain ⟨t, rfl⟩ := r
    refine PySem.wpAny_formatField_int hi ⟨.str (toString i), H1, I1.tok _, ⟨_, rfl⟩, q _ ?_⟩
    have := int_text_length_le (k := 1920) (by decide) hi
    rw [PySem.ofString_length]
    omega
  · obtain ⟨t, rfl⟩ := r
    exact PySem.wpAny_formatField_str ⟨.str x, H1, I1, ⟨_, rfl⟩, q⟩ ⟨.str x, H1, I1.tok _, ⟨_, rfl⟩, q⟩ (by rw [sizeLine_eq]; omega)
end
end L2

set_option Elab.async false
set_option linter.all false
set_option maxRecDepth 100000
set_option maxHeartbeats 4000000
namespace Hb
open PySem L2

noncomputable def plcN (xs : List (List Int)) (k : Int) (n : Nat) : List Int := ((List.range n).filter fun j => decide (levI (xs.getD j []).length = k)).map fun (j : Nat) => (j : Int)
noncomputable def plc (xs : List (List Int)) (k : Int) : List Int := plcN xs k xs.length
theorem plcN_yes {xs : List (List Int)} {k : Int} {n : Nat} (h : levI (xs.getD n []).length = k) : plcN xs k (n + 1) = plcN xs k n ++ [(n : Int)] := by
  unfold plcN
  rw [List.range_succ, List.filter_append, List.map_append, List.filter_cons_of_pos (by simpa using h)]
  rfl
theorem plcN_no {xs : List (List Int)} {k : Int} {n : Nat} (h : ¬ levI (xs.getD n []).length = k) : plcN xs k (n + 1) = plcN xs k n := by
  unfold plcN
  rw [List.range_succ, List.filter_append, List.map_append, List.filter_cons_of_neg (by simpa using h)]
  simp
theorem plcN_len (xs : List (List Int)) (k : Int) (n : Nat) : (plcN xs k n).length ≤ n := by
  unfold plcN
  rw [List.length_map]
  have := List.length_filter_le (fun j => decide (levI (xs.getD j []).length = k)) (List.range n)
  simpa using this

section
variable (K : PySem.W.Frag)
noncomputable def sp_places_of_level : Sp := fun vs H Q _ => ∃ (a : Addr) (i : Int) (xs : List (List Int)), vs = [.ref a, .int i] ∧ LT K H (.ref a) xs ∧ xs.length ≤ 1000 ∧
  ∀ (D : Addr) (H' : Hp), H D = none → Same H H' → H' D = some (.lst ((plc xs i).map V.int)) → Q (.ref D) H'
end
theorem log_small {b : Int} (h0 : 0 ≤ b) (h1 : b ≤ 100) : b.natAbs.log2 < 1920 := by
  by_cases h : b.natAbs = 0
  · rw [h]; decide
  · exact Nat.lt_of_lt_of_le ((Nat.log2_lt (k := 7) h).mpr (by omega)) (by decide)
end Hb

set_option Elab.async false
set_option linter.all false
set_option maxRecDepth 100000
set_option maxHeartbeats 4000000

namespace Hb
open PySem L2
noncomputable abbrev VI (n : Nat) (f : Nat → Int) : List V := (lsI n f).map V.int
noncomputable def dL (n : Nat) (f : Nat → Int) : L2.D := .lst (nums (lsI n f))
noncomputable def dT (h w : Nat) (f : Nat → Nat → Int) : L2.D := .lst ((List.range h).map fun i => dL w (f i))
section
variable {K : PySem.W.Frag} {H H' H1 H2 : Hp}
structure Rows (H H1 : Hp) (D : Addr) (as : List Addr) (w : Nat) (f : Nat → Nat → Int) : Prop where
  same : Same H H1
  free : H D = none
  «at» : H1 D = some (.lst (as.map V.ref))
  row : ∀ j a, as[j]? = some a → H a = none ∧ a ≠ D ∧ H1 a = some (.lst (VI w (f j)))
end

end Hb

set_option Elab.async false
set_option linter.all false
set_option maxRecDepth 100000
set_option maxHeartbeats 4000000

namespace Hb
open PySem L2
theorem lev_lenOk {n : Nat} {k : Int} (hc : n = 0 ∨ n = 2 ∨ n = 3 ∨ n = 4) (h : levI n = k) : lenOk n k = true := by
  unfold levI at h
  unfold lenOk
  rw [Bool.or_eq_true, Bool.and_eq_true]
  by_cases e : n = 0
  · subst e
    have : k = 0 := by split at h <;> omega
    exact .inr ⟨decide_eq_true this, rfl⟩
  · refine .inl (decide_eq_true ?_)
    split at h <;> omega

theorem plc_mem {xs : List (List Int)} {k p : Int} (h : p ∈ plc xs k) : 0 ≤ p ∧ p < (xs.length : Int) ∧ levI (xs.getD p.toNat []).length = k := by
  unfold plc plcN at h
  obtain ⟨j, hj, rfl⟩ := List.mem_map.mp h
  have h1 := List.mem_filter.mp hj
  have h2 := List.mem_range.mp h1.1
  refine ⟨by omega, by omega, ?_⟩
  rw [Int.toNat_natCast]
  simpa using h1.2
section
variable (K : PySem.W.Frag)
noncomputable def sp_numbers_at : Sp := fun vs H Q _ => ∃ (a b : Addr) (sp : List Int) (ms : Ms), vs = [.ref a, .ref b] ∧ SqL K H a (sp.map V.int) ∧ Rd H b (.dK (cK ms)) ∧ sp.length ≤ 1000 ∧ ∀ (D : Addr) (H' : Hp), H D = none → Same H H' → H' D = some (.lst ((sp.map (getI ms)).map V.int)) → Q (.ref D) H'
end
end Hb

set_option Elab.async false
set_option linter.all false
set_option maxRecDepth 100000
set_option maxHeartbeats 4000000

namespace Hb
open PySem L2

noncomputable def CntOk (xs : List (List Int)) : Prop := ∀ (i : Nat) (x : List Int), xs[i]? = some x → x.length = 0 ∨ x.length = 2 ∨ x.length = 3 ∨ x.length = 4
theorem cnt_le4 {xs : List (List Int)} (h : CntOk xs) : ∀ x ∈ xs, x.length ≤ 4 := fun x hx => by
  obtain ⟨i, hi⟩ := List.mem_iff_getElem?.mp hx
  rcases h i x hi with e | e | e | e <;> rw [e] <;> decide
theorem shapeOf_cnt {ws : List (List Int)} {fam : Int} (h : Ord fam ws) : CntOk (shapeOf ws fam) := by
  intro k p hp
  unfold shapeOf at hp
  rw [List.getElem?_map] at hp
  cases hw : ws[k]? with
  | none => rw [hw] at hp; cases hp
  | some w =>
    rw [hw] at hp
    have hp' : (facesBy w fam).map (fun f => (idx ws f : Int)) = p := by simpa using hp
    subst hp'
    obtain ⟨n1, n2⟩ := faces_len (h k w hw).1
    rw [List.length_map, n1]
    generalize lv fam w = m at n2
    match m, n2 with
    | 0, _ => exact .inl rfl
    | 1, _ => exact .inr (.inl rfl)
    | 2, _ => exact .inr (.inr (.inl rfl))
    | 3, _ => exact .inr (.inr (.inr rfl))
theorem cnt_at {xs : List (List Int)} (h : CntOk xs) {i : Nat} (hi : i < xs.length) : (xs.getD i []).length = 0 ∨ (xs.getD i []).length = 2 ∨ (xs.getD i []).length = 3 ∨ (xs.getD i []).length = 4 :=
  h i _ (by rw [List.getD_eq_getElem?_getD, List.getElem?_eq_getElem hi]; rfl)
theorem spots_plcC {xs : List (List Int)} (hs : CntOk xs) {k : Int} (h0 : 0 ≤ k) : spots xs k = plc xs k := by
  have : ∀ i, i ≤ xs.length → spN xs k i = plcN xs k i := by
    intro i
    induction i with
    | zero => intro _; rfl
    | succ i ih =>
      intro hi
      have hc := cnt_at hs hi
      by_cases e : levI (xs.getD i []).length = k
      · rw [spN_yes (lev_lenOk hc e), plcN_yes e, ih (Nat.le_of_succ_le hi)]
      · rw [spN_no (fun z => e (lenOk_lev hc h0 z)), plcN_no e, ih (Nat.le_of_succ_le hi)]
  exact this _ (Nat.le_refl _)
theorem chain_of_spotsC {xs : List (List Int)} (hs : CntOk xs) {k : Int} (h0 : 0 ≤ k) {ms : Ms} (hz : nz ms) (hm : ∀ p ∈ ms, p.1 ∈ spots xs k) : chainB xs k ms = true ∧ ∀ p ∈ ms, 0 ≤ p.1 ∧ p.1 < (xs.length : Int) ∧ levI (xs.getD p.1.toNat []).length = k := by
  have key : ∀ p ∈ ms, 0 ≤ p.1 ∧ p.1 < (xs.length : Int) ∧ levI (xs.getD p.1.toNat []).length = k := fun p hp => plc_mem (by rw [← spots_plcC hs h0]; exact hm p hp)
  refine ⟨List.all_eq_true.mpr fun p hp => ?_, key⟩
  obtain ⟨a, b, c⟩ := key p hp
  show ((decide (0 ≤ p.1) && decide (p.1 < (xs.length : Int)) && decide (levI (xs.getD p.1.toNat []).length = k)) && decide (¬ p.2 = 0)) = true
  rw [decide_eq_true a, decide_eq_true b, decide_eq_true c, decide_eq_true (hz p hp)]
  rfl

noncomputable def Sca : V → Prop
  | .non => True | .bl _ => True | .int _ => True | .str _ => True | _ => False
noncomputable def vD : V → L2.D
  | .non => .non | .bl b => .bl b | .int i => .int i | .str x => .str x | .ref _ => .tup [.int 0] | _ => .non
theorem Sca.rep {K : PySem.W.Frag} {H : Hp} {v : V} (h : Sca v) : Rep K H v (vD v) := by
  cases v <;> first | rfl | exact h.elim
noncomputable def KeyR (H : Hp) (v : V) : Prop := Sca v ∨ ∃ t, v = .ref t ∧ H t = some (.tup [.int 0])
theorem KeyR.rep {K : PySem.W.Frag} {H : Hp} {v : V} (h : KeyR H v) : Rep K H v (vD v) := by
  rcases h with h | ⟨t, rfl, ht⟩
  · exact h.rep
  · exact ⟨t, [.int 0], rfl, .of ht, .int 0, [], rfl, rfl, rfl⟩
theorem KeyR.same {H H' : Hp} {v : V} (s : Same H H') (h : KeyR H v) : KeyR H' v := by
  rcases h with h | ⟨t, rfl, ht⟩
  · exact .inl h
  · exact .inr ⟨t, rfl, s _ _ ht⟩
noncomputable def nzD : L2.D → Bool
  | .int n => decide (¬ n = 0)
  | _ => false
noncomputable def partD (xs : List (List Int)) (k : Int) (d e : L2.D) : Bool := placeLev xs d k && nzD e
theorem partD_key {xs : List (List Int)} {k : Int} {d e : L2.D} (h : placeLev xs d k = false) : partD xs k d e = false := by unfold partD; rw [h]; rfl
theorem partD_num {xs : List (List Int)} {k : Int} {d e : L2.D} (h : nzD e = false) : partD xs k d e = false := by unfold partD; rw [h]; simp
theorem whole_num {e : L2.D} (h : wholeD e = true) : ∃ n, e = .int n := by
  cases e with
  | int n => exact ⟨n, rfl⟩
  | _ => exact nomatch (show false = true from h)
theorem nz_whole {e : L2.D} (h : wholeD e = false) : nzD e = false := by
  cases e with
  | int n => exact nomatch (show true = false from h)
  | _ => rfl
theorem sca_dict {x : V} (h : Sca x) : isA "dict" (.d (vD x)) = false := by
  cases x <;> first | rfl | exact h.elim
theorem sca_key (k : Key) : Sca (kV k) := by cases k <;> exact True.intro
theorem any_numO (x : List Int) (p : Int) : (nums x).any (fun e => eqD e (.int p)) = decide (p ∈ x) := by
  unfold nums
  rw [List.any_map]
  by_cases h : p ∈ x
  · rw [decide_eq_true h]
    exact List.any_eq_true.mpr ⟨p, h, by simp [eqD]⟩
  · rw [decide_eq_false h]
    rw [List.any_eq_false]
    intro y hy
    have : y ≠ p := fun e => h (e ▸ hy)
    simpa [eqD] using this
theorem rep_ints {K : PySem.W.Frag} {H : Hp} {l : Addr} {ns : List Int} (h : SqL K H l (ns.map V.int)) : SeqD K H (.ref l) (nums ns) := .inl ⟨l, _, rfl, h, reps_nums.mpr rfl⟩

inductive TT where
  | data (d : L2.D) | lst | dk (kvs : List (Key × V)) | odd (kvs : List (V × V))
noncomputable def ThingAt (H : Hp) (x : V) : TT → Prop
  | .data d => Sca x ∧ d = vD x
  | .lst => ∃ a us, x = .ref a ∧ H a = some (.lst us)
  | .dk kvs => ∃ a, x = .ref a ∧ H a = some (.dK kvs) ∧ kvs.length ≤ 1000 ∧ ∀ p ∈ kvs, Sca p.2
  | .odd kvs => ∃ a, x = .ref a ∧ OddAt H a kvs ∧ kvs.length ≤ 1000 ∧ ∀ p ∈ kvs, KeyR H p.1 ∧ Sca p.2
theorem OddAt.same {H H' : Hp} {a : Addr} {kvs : List (V × V)} (s : Same H H') (h : OddAt H a kvs) : OddAt H' a kvs := by
  obtain ⟨h1, o, h2, h3⟩ := h
  exact ⟨h1, o, s _ _ h2, h3⟩
theorem ThingAt.same {H H' : Hp} {x : V} {t : TT} (s : Same H H') (h : ThingAt H x t) : ThingAt H' x t := by
  cases t with
  | data d => exact h
  | lst => obtain ⟨a, us, e, h⟩ := h; exact ⟨a, us, e, s _ _ h⟩
  | dk kvs => obtain ⟨a, e, h, r⟩ := h; exact ⟨a, e, s _ _ h, r⟩
  | odd kvs => obtain ⟨a, e, h, l, r⟩ := h; exact ⟨a, e, OddAt.same s h, l, fun p hp => ⟨(r p hp).1.same s, (r p hp).2⟩⟩
noncomputable def chainT (xs : List (List Int)) (k : Int) : TT → Bool
  | .data _ => false
  | .lst => false
  | .dk kvs => kvs.all fun p => partD xs k (vD (kV p.1)) (vD p.2)
  | .odd kvs => kvs.all fun p => partD xs k (vD p.1) (vD p.2)
theorem chainT_cK (xs : List (List Int)) (k : Int) (ms : Ms) : chainT xs k (.dk (cK ms)) = chainB xs k ms := by
  show ((cK ms).all fun p => partD xs k (vD (kV p.1)) (vD p.2)) = chainB xs k ms
  unfold chainB cK
  rw [List.all_map]
  rfl
theorem thing_cK {H : Hp} {b : Addr} {ms : Ms} (h : H b = some (.dK (cK ms))) (hl : ms.length ≤ 1000) : ThingAt H (.ref b) (.dk (cK ms)) := by
  refine ⟨b, rfl, h, by rw [cK_len]; exact hl, fun p hp => ?_⟩
  unfold cK at hp
  obtain ⟨q, _, rfl⟩ := List.mem_map.mp hp
  exact True.intro

theorem chain_other {xs : List (List Int)} {k k' : Int} {ms : Ms} (hne : k ≠ k') (h0 : ms.length ≠ 0) (hm : ∀ p ∈ ms, 0 ≤ p.1 ∧ p.1 < (xs.length : Int) ∧ levI (xs.getD p.1.toNat []).length = k) : chainB xs k' ms = false := by
  cases ms with
  | nil => exact absurd rfl h0
  | cons p r =>
    obtain ⟨_, _, c⟩ := hm p List.mem_cons_self
    have : partB xs k' p.1 p.2 = false := by
      show ((decide (0 ≤ p.1) && decide (p.1 < (xs.length : Int)) && decide (levI (xs.getD p.1.toNat []).length = k')) && decide (¬ p.2 = 0)) = false
      rw [decide_eq_false (show ¬ levI (xs.getD p.1.toNat []).length = k' by omega)]
      simp
    unfold chainB
    rw [List.all_cons, this]
    rfl
theorem place_not {xs : List (List Int)} (hs : CntOk xs) {k : Int} (h0 : 0 ≤ k) {p : Int} (h : p ∉ spots xs k) : placeLev xs (.int p) k = false := by
  cases e : placeLev xs (.int p) k with
  | false => rfl
  | true =>
    refine absurd ?_ h
    have e' : (decide (0 ≤ p) && decide (p < (xs.length : Int)) && decide (levI (xs.getD p.toNat []).length = k)) = true := e
    simp only [Bool.and_eq_true, decide_eq_true_eq] at e'
    rw [spots_plcC hs h0]
    unfold plc plcN
    refine List.mem_map.mpr ⟨p.toNat, List.mem_filter.mpr ⟨List.mem_range.mpr (by omega), by simpa using e'.2⟩, by omega⟩
theorem place_one {xs : List (List Int)} {k k' p : Int} (h : placeLev xs (.int p) k = true) (hne : k' ≠ k) : placeLev xs (.int p) k' = false := by
  have e' : (decide (0 ≤ p) && decide (p < (xs.length : Int)) && decide (levI (xs.getD p.toNat []).length = k)) = true := h
  simp only [Bool.and_eq_true, decide_eq_true_eq] at e'
  show (decide (0 ≤ p) && decide (p < (xs.length : Int)) && decide (levI (xs.getD p.toNat []).length = k')) = false
  rw [decide_eq_false (show ¬ levI (xs.getD p.toNat []).length = k' by omega)]
  simp
theorem place_spot {xs : List (List Int)} (hs : CntOk xs) {k : Int} (h0 : 0 ≤ k) {p : Int} (h : p ∈ spots xs k) : placeLev xs (.int p) k = true := by
  rw [spots_plcC hs h0] at h
  obtain ⟨a, b, c⟩ := plc_mem h
  show (decide (0 ≤ p) && decide (p < (xs.length : Int)) && decide (levI (xs.getD p.toNat []).length = k)) = true
  rw [decide_eq_true a, decide_eq_true b, decide_eq_true c]
  rfl
theorem place_out {xs : List (List Int)} {k p : Int} (h : p < 0 ∨ (xs.length : Int) ≤ p) : placeLev xs (.int p) k = false := by
  show (decide (0 ≤ p) && decide (p < (xs.length : Int)) && decide (levI (xs.getD p.toNat []).length = k)) = false
  rcases h with h | h
  · rw [decide_eq_false (show ¬ 0 ≤ p by omega)]; rfl
  · rw [decide_eq_false (show ¬ p < (xs.length : Int) by omega)]; simp
theorem idx_mod (ns : List Int) (z : Int) (h0 : ns.length ≠ 0) : ∃ v ∈ ns, atI (ns.map V.int) (z % ((ns.map V.int).length : Int)) = some (.int v) := by
  rw [List.length_map]
  have q0 : 0 ≤ z % (ns.length : Int) := Int.emod_nonneg _ (by omega)
  have q1 : z % (ns.length : Int) < (ns.length : Int) := Int.emod_lt_of_pos _ (by omega)
  obtain ⟨j, hj⟩ := Int.eq_ofNat_of_zero_le q0
  rw [hj] at q1 ⊢
  have hjl : j < ns.length := by omega
  exact ⟨ns[j], List.getElem_mem hjl, atI_nat (by rw [List.getElem?_map, List.getElem?_eq_getElem hjl]; rfl)⟩
theorem ways3 {w : Int} (h : w > 9) (h2 : w < 13) : w = 10 ∨ w = 11 ∨ w = 12 := by omega
theorem ways4 {w : Int} (h : 0 ≤ w) (h2 : w < 4) : w = 0 ∨ w = 1 ∨ w = 2 ∨ w = 3 := by omega
theorem ways5 {w : Int} (h : 4 < w) (h2 : w < 9) : w = 5 ∨ w = 6 ∨ w = 7 ∨ w = 8 := by omega
theorem map_pos {ns : List Int} (h : ns.length ≠ 0) : (0 : Int) < ((ns.map V.int).length : Int) := by rw [List.length_map]; omega
theorem pos_map {ns : List Int} (h : (0 : Int) < ((ns.map V.int).length : Int)) : ns.length ≠ 0 := by rw [List.length_map] at h; omega
theorem pos_cK {ms : Ms} (h : (0 : Int) < ((cK ms).length : Int)) : ms.length ≠ 0 := by rw [cK_len] at h; omega
theorem cK_pos {ms : Ms} : (0 : Int) < ((cK ms).length : Int) + 1 := by omega
theorem sm0 {n i m : Nat} (h : n ≤ 2 * i) (hi : i < m) (hm : m ≤ 63) : n < sizeLine := small (by omega)
theorem sm1 {n i m : Nat} (h : n ≤ 2 * i + 1) (hi : i < m) (hm : m ≤ 63) : n < sizeLine := small (by omega)
theorem sm2 {n m : Nat} (h : n ≤ 2 * m) (hm : m ≤ 63) : n < sizeLine := small (by omega)
theorem sm9 {n m : Nat} (h : n ≤ 2 * m + 1) (hm : m ≤ 63) : n ≤ 1000 := by omega

noncomputable def Bad (xs : List (List Int)) (k : Int) (ms : Ms) (kv nv : V) : Prop := (∀ k', partD xs k' (vD kv) (vD nv) = false) ∨ ∃ p, kv = .int p ∧ p ∉ spots xs k ∧ ms.length ≠ 0

noncomputable def KeyX (H : Hp) (kv : V) : Prop := (∃ kk : Key, kv = kV kk) ∨ (IsKey H kv ∧ KeyR H kv ∧ ∀ i, kv ≠ .int i)
theorem any_keyV {kvs : List (Key × V)} {k : Key} : ¬ (kvs.any fun kv => decide (kv.1 = k)) = true → ∀ p ∈ kvs, p.1 ≠ k := fun h p hp e => h (List.any_eq_true.mpr ⟨p, hp, decide_eq_true e⟩)
theorem mem_putV {kvs : List (Key × V)} {k : Key} {v : V} {p : Key × V} (h : p ∈ putK kvs k v) : p = (k, v) ∨ (p ∈ kvs ∧ p.1 ≠ k) := by
  unfold putK at h
  split at h
  · obtain ⟨q, hq, e⟩ := List.mem_map.mp h
    by_cases z : q.1 = k
    · rw [if_pos z] at e
      exact .inl (by rw [← e, z])
    · rw [if_neg z] at e
      subst e
      exact .inr ⟨hq, z⟩
  · rename_i ha
    rcases List.mem_append.mp h with h | h
    · exact .inr ⟨h, any_keyV ha p h⟩
    · exact .inl (by simpa using h)
theorem putV_self (kvs : List (Key × V)) (k : Key) (v : V) : (k, v) ∈ putK kvs k v := by
  unfold putK
  split
  · rename_i ha
    obtain ⟨q, hq, e⟩ := List.any_eq_true.mp ha
    have e' : q.1 = k := of_decide_eq_true e
    exact List.mem_map.mpr ⟨q, hq, by rw [if_pos e', e']⟩
  · exact List.mem_append_right _ (by simp)
theorem putV_keep {kvs : List (Key × V)} {k : Key} {v : V} {p : Key × V} (h : p ∈ kvs) : ∃ v', (p.1, v') ∈ putK kvs k v := by
  unfold putK
  split
  · by_cases z : p.1 = k
    · exact ⟨v, List.mem_map.mpr ⟨p, h, by rw [if_pos z]⟩⟩
    · exact ⟨p.2, List.mem_map.mpr ⟨p, h, by rw [if_neg z]⟩⟩
  · exact ⟨p.2, List.mem_append_left _ h⟩

structure InvA (ms : Ms) (kk : Key) (nv : V) (kvs : List (Key × V)) (i n : Nat) : Prop where
  len : kvs.length ≤ n
  sca : ∀ p ∈ kvs, Sca p.2
  own : ∀ p ∈ kvs, p.1 = kk → p.2 = nv
  all : ∀ (j : Nat) (q : Int × Int), j < i → ms[j]? = some q → (Sum.inl q.1 : Key) ≠ kk → ∃ v, ((Sum.inl q.1 : Key), v) ∈ kvs
theorem InvA.new (ms : Ms) (kk : Key) (nv : V) : InvA ms kk nv [] 0 0 := ⟨Nat.le_refl _, (fun p hp => nomatch hp), (fun p hp => nomatch hp), fun j q hj => absurd hj (Nat.not_lt_zero _)⟩
theorem InvA.key {ms : Ms} {kk : Key} {nv : V} {kvs : List (Key × V)} {i n : Nat} (h : InvA ms kk nv kvs i n) (hs : Sca nv) : InvA ms kk nv (putK kvs kk nv) i (n + 1) := by
  refine ⟨?_, fun p hp => ?_, fun p hp e => ?_, fun j q hj hq hne => ?_⟩
  · have := length_putK kvs kk nv
    have := h.len
    omega
  · rcases mem_putV hp with rfl | ⟨hp, _⟩
    · exact hs
    · exact h.sca p hp
  · rcases mem_putV hp with rfl | ⟨hp, _⟩
    · rfl
    · exact h.own p hp e
  · obtain ⟨v, hv⟩ := h.all j q hj hq hne
    exact putV_keep hv
theorem InvA.place {ms : Ms} {kk : Key} {nv : V} {kvs : List (Key × V)} {i n : Nat} (h : InvA ms kk nv kvs i n) {q : Int × Int} (hq : ms[i]? = some q) (hne : (Sum.inl q.1 : Key) ≠ kk) : InvA ms kk nv (putK kvs (Sum.inl q.1) (.int q.2)) (i + 1) (n + 1) := by
  refine ⟨?_, fun p hp => ?_, fun p hp e => ?_, fun j q' hj hq' hne' => ?_⟩
  · have := length_putK kvs (Sum.inl q.1) (.int q.2)
    have := h.len
    omega
  · rcases mem_putV hp with rfl | ⟨hp, _⟩
    · exact True.intro
    · exact h.sca p hp
  · rcases mem_putV hp with rfl | ⟨hp, _⟩
    · exact absurd e hne
    · exact h.own p hp e
  · by_cases z : j = i
    · subst z
      rw [hq] at hq'
      cases hq'
      exact ⟨_, putV_self _ _ _⟩
    · obtain ⟨v, hv⟩ := h.all j q' (by omega) hq' hne'
      exact putV_keep hv
theorem InvA.skip {ms : Ms} {kk : Key} {nv : V} {kvs : List (Key × V)} {i n : Nat} (h : InvA ms kk nv kvs i n) {q : Int × Int} (hq : ms[i]? = some q) (he : (Sum.inl q.1 : Key) = kk) : InvA ms kk nv kvs (i + 1) (n + 1) := by
  refine ⟨by have := h.len; omega, h.sca, h.own, fun j q' hj hq' hne' => ?_⟩
  by_cases z : j = i
  · subst z
    rw [hq] at hq'
    cases hq'
    exact absurd he hne'
  · exact h.all j q' (by omega) hq' hne'
theorem InvA.bad {xs : List (List Int)} (hs : CntOk xs) {k : Int} (h0 : 0 ≤ k) {ms : Ms} {kk : Key} {nv : V} {kvs : List (Key × V)} {n : Nat} (h : InvA ms kk nv kvs ms.length n) (hin : ∃ v, (kk, v) ∈ kvs) (hsp : ∀ p ∈ ms, p.1 ∈ spots xs k) (hb : Bad xs k ms (kV kk) nv) (k' : Int) : chainT xs k' (.dk kvs) = false := by
  obtain ⟨v, hv⟩ := hin
  have e : v = nv := h.own _ hv rfl
  subst e
  have one : ∀ p ∈ kvs, partD xs k' (vD (kV p.1)) (vD p.2) = false → chainT xs k' (.dk kvs) = false := fun p hp hf => by
    show (kvs.all fun p => partD xs k' (vD (kV p.1)) (vD p.2)) = false
    rw [List.all_eq_false]
    exact ⟨p, hp, by rw [hf]; decide⟩
  rcases hb with hb | ⟨p, ep, hp, hm⟩
  · exact one _ hv (hb k')
  · have ekk : kk = Sum.inl p := by
      cases kk with
      | inl i => cases ep; rfl
      | inr x => cases ep
    subst ekk
    by_cases z : k' = k
    · subst z
      exact one _ hv (partD_key (place_not hs h0 hp))
    · obtain ⟨q, hq⟩ : ∃ q, ms[0]? = some q := ⟨ms[0]'(by omega), List.getElem?_eq_getElem _⟩
      have hqs := hsp q (List.mem_of_getElem? hq)
      have hne : (Sum.inl q.1 : Key) ≠ Sum.inl p := fun e => hp (by cases e; exact hqs)
      obtain ⟨v2, hv2⟩ := h.all 0 q (by omega) hq hne
      exact one _ hv2 (partD_key (place_one (place_spot hs h0 hqs) z))
theorem eq_key (p : Int) (kk : Key) : eqD (.int p) (vD (kV kk)) = decide ((Sum.inl p : Key) = kk) := by
  cases kk with
  | inl i =>
    show (p == i) = _
    by_cases e : p = i
    · subst e; simp
    · have h : ¬ (Sum.inl p : Key) = Sum.inl i := fun q => e (Sum.inl.inj q)
      rw [decide_eq_false h]
      simpa using e
  | inr x =>
    rw [decide_eq_false (fun q => nomatch q)]
    rfl
theorem val_mem {kvs : List (Key × V)} {k : Key} (h : (valV kvs k).isSome = true) : ∃ v, (k, v) ∈ kvs := by
  rw [← valV_any] at h
  obtain ⟨p, hp, e⟩ := List.any_eq_true.mp h
  have e' : p.1 = k := of_decide_eq_true e
  exact ⟨p.2, by rw [← e']; exact hp⟩
theorem kalt_key {H : Hp} (kk : Key) : KAlt H (kV kk) (vD (kV kk)) := by
  cases kk with
  | inl i => exact .inl ⟨i, rfl, rfl⟩
  | inr x => exact .inr (.inr (.inr (.inl ⟨x, rfl, rfl⟩)))
theorem kalt_odd {H : Hp} {kv : V} (h : IsKey H kv) : KAlt H kv (vD kv) := by
  rcases h with ⟨i, rfl⟩ | ⟨b, rfl⟩ | rfl | ⟨t, rfl, ht⟩
  · exact .inl ⟨i, rfl, rfl⟩
  · exact .inr (.inl ⟨b, rfl, rfl⟩)
  · exact .inr (.inr (.inl ⟨rfl, rfl⟩))
  · exact .inr (.inr (.inr (.inr ⟨t, rfl, ht, rfl⟩)))

structure InvB (ms : Ms) (kv nv : V) (kvs : List (V × V)) (i n : Nat) (idx : Int) : Prop where
  len : kvs.length ≤ n
  sca : ∀ p ∈ kvs, Sca p.2
  keys : ∀ p ∈ kvs, p.1 = kv ∨ ∃ (j : Nat) (q : Int × Int), j < i ∧ ms[j]? = some q ∧ p.1 = .int q.1 ∧ hsh (.int q.1) ≠ hsh kv
  nod : (kvs.map fun p => hsh p.1).Nodup
  own : (∃ p ∈ kvs, p.1 = kv) → idx < (kvs.length : Int)
theorem InvB.new (ms : Ms) (kv nv : V) (idx : Int) : InvB ms kv nv [] 0 0 idx := ⟨Nat.le_refl _, (fun p hp => nomatch hp), (fun p hp => nomatch hp), List.nodup_nil, fun ⟨p, hp, _⟩ => nomatch hp⟩
theorem InvB.free {ms : Ms} {kv nv : V} {kvs : List (V × V)} {i n : Nat} {idx : Int} (h : InvB ms kv nv kvs i n idx) (hn : ¬ ∃ p ∈ kvs, p.1 = kv) : ∀ p ∈ kvs, hsh p.1 ≠ hsh kv := fun p hp => by
  rcases h.keys p hp with e | ⟨j, q, _, _, e, hne⟩
  · exact absurd ⟨p, hp, e⟩ hn
  · rw [e]; exact hne
theorem nod_snoc {kvs : List (V × V)} {y : V} {v : V} (h : (kvs.map fun p => hsh p.1).Nodup) (hn : ∀ p ∈ kvs, hsh p.1 ≠ hsh y) : ((kvs ++ [(y, v)]).map fun p => hsh p.1).Nodup := by
  rw [List.map_append, List.nodup_append]
  refine ⟨h, by simp, fun a ha b hb e => ?_⟩
  obtain ⟨p, hp, rfl⟩ := List.mem_map.mp ha
  have : b = hsh y := by simpa using hb
  exact hn p hp (e.trans this)
theorem InvB.key {ms : Ms} {kv nv : V} {kvs : List (V × V)} {i n : Nat} {idx : Int} (h : InvB ms kv nv kvs i n idx) (hs : Sca nv) (hn : ¬ ∃ p ∈ kvs, p.1 = kv) (hx : idx ≤ (kvs.length : Int)) : InvB ms kv nv (kvs ++ [(kv, nv)]) i (n + 1) idx := by
  refine ⟨by rw [List.length_append]; exact Nat.succ_le_succ h.len, fun p hp => ?_, fun p hp => ?_, nod_snoc h.nod (h.free hn), fun _ => by rw [List.length_append]; simp; omega⟩
  · rcases List.mem_append.mp hp with hp | hp
    · exact h.sca p hp
    · have : p = (kv, nv) := by simpa using hp
      rw [this]; exact hs
  · rcases List.mem_append.mp hp with hp | hp
    · exact h.keys p hp
    · have : p = (kv, nv) := by simpa using hp
      rw [this]; exact .inl rfl
theorem hsh_int {p : Int} (h0 : 0 ≤ p) (h1 : p < 1000) : hsh (.int p) = p := hashInt_small h0 h1
theorem InvB.fresh {ms : Ms} {kv nv : V} {kvs : List (V × V)} {i n : Nat} {idx : Int} (h : InvB ms kv nv kvs i n idx) (hnd : nd ms) (hr : ∀ p ∈ ms, 0 ≤ p.1 ∧ p.1 < 1000) {q : Int × Int} (hq : ms[i]? = some q) (hne : hsh (.int q.1) ≠ hsh kv) : ∀ p ∈ kvs, hsh p.1 ≠ hsh (.int q.1) := fun p hp e => by
  rcases h.keys p hp with z | ⟨j, q', hj, hq', z, _⟩
  · rw [z] at e; exact hne e.symm
  · obtain ⟨a1, a2⟩ := hr q (List.mem_of_getElem? hq)
    obtain ⟨b1, b2⟩ := hr q' (List.mem_of_getElem? hq')
    rw [z, hsh_int b1 b2, hsh_int a1 a2] at e
    have k1 : (ms.map (·.1))[j]? = some q'.1 := by rw [List.getElem?_map, hq']; rfl
    have k2 : (ms.map (·.1))[i]? = some q.1 := by rw [List.getElem?_map, hq]; rfl
    have : j = i := (List.getElem?_inj (List.getElem?_eq_some_iff.mp k1).1 hnd).mp (by rw [k1, k2, e])
    omega
theorem InvB.place {ms : Ms} {kv nv : V} {kvs : List (V × V)} {i n : Nat} {idx : Int} (h : InvB ms kv nv kvs i n idx) (hni : ∀ i, kv ≠ .int i) (hnd : nd ms) (hr : ∀ p ∈ ms, 0 ≤ p.1 ∧ p.1 < 1000) {q : Int × Int} (hq : ms[i]? = some q) (hne : hsh (.int q.1) ≠ hsh kv) : InvB ms kv nv (kvs ++ [(.int q.1, .int q.2)]) (i + 1) (n + 1) idx := by
  refine ⟨by rw [List.length_append]; exact Nat.succ_le_succ h.len, fun p hp => ?_, fun p hp => ?_, nod_snoc h.nod (h.fresh hnd hr hq hne), fun ⟨p, hp, e⟩ => ?_⟩
  · rcases List.mem_append.mp hp with hp | hp
    · exact h.sca p hp
    · have : p = (.int q.1, .int q.2) := by simpa using hp
      rw [this]; exact True.intro
  · rcases List.mem_append.mp hp with hp | hp
    · rcases h.keys p hp with z | ⟨j, q', hj, r⟩
      · exact .inl z
      · exact .inr ⟨j, q', by omega, r⟩
    · have : p = (.int q.1, .int q.2) := by simpa using hp
      rw [this]; exact .inr ⟨i, q, by omega, hq, rfl, hne⟩
  · rw [List.length_append]
    rcases List.mem_append.mp hp with hp | hp
    · have := h.own ⟨p, hp, e⟩
      simp only [List.length_cons, List.length_nil]
      omega
    · have : p = (.int q.1, .int q.2) := by simpa using hp
      rw [this] at e
      exact absurd e.symm (hni _)
theorem InvB.more {ms : Ms} {kv nv : V} {kvs : List (V × V)} {i n n' i' : Nat} {idx : Int} (h : InvB ms kv nv kvs i n idx) (hn : n ≤ n') (hi : i ≤ i') : InvB ms kv nv kvs i' n' idx :=
  ⟨Nat.le_trans h.len hn, h.sca, fun p hp => (h.keys p hp).imp id fun ⟨j, q, hj, r⟩ => ⟨j, q, by omega, r⟩, h.nod, h.own⟩
theorem odd_hash {H : Hp} {kv : V} (hk : IsKey H kv) (hni : ∀ i, kv ≠ .int i) {p : Int} (h0 : 0 ≤ p) (h1 : p < 1000) (he : eqD (.int p) (vD kv) = false) : hsh (.int p) ≠ hsh kv := by
  rw [hsh_int h0 h1]
  rcases hk with ⟨i, rfl⟩ | ⟨b, rfl⟩ | rfl | ⟨t, rfl, _⟩
  · exact absurd rfl (hni i)
  · have e : (p == (if b then 1 else 0)) = false := he
    simpa [hsh] using e
  · show p ≠ 0xFCA86420
    omega
  · show p ≠ thash
    intro z
    exact thash_big (by rw [← z]; exact ⟨h0, h1⟩)
theorem OddOf.at {H H' : Hp} {a : Addr} {kvs : List (V × V)} (e : H' a = H a) (h : OddOf H a kvs) : OddOf H' a kvs := by
  rcases h with ⟨h1, o, h2, h3⟩ | ⟨ms, h1, h2⟩
  · exact .inl ⟨h1, o, e.trans h2, h3⟩
  · exact .inr ⟨ms, e.trans h1, h2⟩
theorem IsKey.stay {b : Addr} {m : List (Key × V)} {H H' : Hp} {y : V} (hb : H b = some (.dK m)) (s : StayX b H H') (h : IsKey H y) : IsKey H' y := by
  rcases h with h | h | h | ⟨t, e, ht⟩
  · exact .inl h
  · exact .inr (.inl h)
  · exact .inr (.inr (.inl h))
  · exact .inr (.inr (.inr ⟨t, e, s _ _ (fun z => by rw [z, hb] at ht; cases ht) ht⟩))
theorem KeyR.stay {b : Addr} {m : List (Key × V)} {H H' : Hp} {y : V} (hb : H b = some (.dK m)) (s : StayX b H H') (h : KeyR H y) : KeyR H' y := by
  rcases h with h | ⟨t, e, ht⟩
  · exact .inl h
  · exact .inr ⟨t, e, s _ _ (fun z => by rw [z, hb] at ht; cases ht) ht⟩
theorem InvB.bad {xs : List (List Int)} {ms : Ms} {kv nv : V} {kvs : List (V × V)} {i n : Nat} {idx : Int} (h : InvB ms kv nv kvs i n idx) (hin : ∃ p ∈ kvs, p.1 = kv) (hni : ∀ i, kv ≠ .int i) (k' : Int) : chainT xs k' (.odd kvs) = false := by
  obtain ⟨p, hp, e⟩ := hin
  show (kvs.all fun p => partD xs k' (vD p.1) (vD p.2)) = false
  rw [List.all_eq_false]
  refine ⟨p, hp, ?_⟩
  have : placeLev xs (vD p.1) k' = false := by
    rw [e]
    cases kv with
    | int i => exact absurd rfl (hni i)
    | _ => rfl
  rw [partD_key this]
  decide
theorem OddOf.odd {H : Hp} {a : Addr} {kvs : List (V × V)} {kv : V} (h : OddOf H a kvs) (hin : ∃ p ∈ kvs, p.1 = kv) (hni : ∀ i, kv ≠ .int i) : OddAt H a kvs := by
  rcases h with h | ⟨ms, _, hi, rfl⟩
  · exact h
  · obtain ⟨p, hp, e⟩ := hin
    obtain ⟨q, hq, rfl⟩ := List.mem_map.mp hp
    obtain ⟨i, hqi⟩ := hi q hq
    refine absurd e.symm ?_
    show kv ≠ kV q.1
    rw [hqi]
    exact hni i
section
variable (K : PySem.W.Frag)
noncomputable def sp_L_shape_byC : Sp := fun vs H Q _ => ∃ (a : Addr) (ns : List Int) (kind most : Int), vs = [.int kind, .ref a, .int most] ∧ SqL K H a (ns.map V.int) ∧ ns.length ≤ 63 ∧ 0 ≤ most ∧ most ≤ 100 ∧
  ∀ (p : Addr) (us : List V) (H' : Hp) (xs : List (List Int)), H p = none → Same H H' → H' p = some (.lst us) → Reps K H' us (xs.map tI) → CntOk xs → (xs.length : Int) ≤ most → Q (.ref p) H'
noncomputable def sp_is_partX : Sp := fun vs H Q _ => ∃ (a : Addr) (xs : List (List Int)) (k : Int) (x y : V) (d e : L2.D), vs = [.ref a, .int k, x, y] ∧ LT K H (.ref a) xs ∧ Rep K H x d ∧ Rep K H y e ∧ Q (.bl (partD xs k d e)) H
noncomputable def sp_is_chainX : Sp := fun vs H Q _ => ∃ (a : Addr) (xs : List (List Int)) (k : Int) (x : V) (t : TT), vs = [.ref a, .int k, x] ∧ LT K H (.ref a) xs ∧ ThingAt H x t ∧ ∀ H', Same H H' → Q (.bl (chainT xs k t)) H'
noncomputable def sp_L_spoilt : Sp := fun vs H Q _ => ∃ (a l b : Addr) (xs : List (List Int)) (k c : Int) (ms : Ms), vs = [.ref a, .ref l, .ref b, .int c] ∧ LT K H (.ref a) xs ∧ CntOk xs ∧ xs.length ≤ 63 ∧ 0 ≤ k ∧ SqL K H l ((spots xs k).map V.int) ∧
  H b = some (.dK (cK ms)) ∧ nd ms ∧ (∀ p ∈ ms, p.1 ∈ spots xs k) ∧ ms.length ≤ 63 ∧ ∀ (x : V) (t : TT) (H' : Hp), Same H H' → ThingAt H' x t → (∀ k', chainT xs k' t = false) → Q x H'
end
end Hb

set_option Elab.async false
set_option linter.all false

namespace L2
open PySem PySem.Spec PyProof.Rows
noncomputable abbrev Cx.quiet (X : Cx) : Cx := { X with xe := fun _ _ => False }
section
variable {X : Cx} {pins : List (Addr × Obj)} {σ : St} {H : Hp} {s : Shared}
theorem Cx.Ok.quiet (o : X.Ok) : X.quiet.Ok := ⟨o.mod, o.kind, o.glob, o.blt, o.above, o.inj, o.has, o.cab, o.hd, o.frames, o.stk, o.exf, o.bs, o.bsz, o.noex, o.exfs, o.funs, o.frf⟩
theorem Cx.Ok.loud (o : X.quiet.Ok) : X.Ok := ⟨o.mod, o.kind, o.glob, o.blt, o.above, o.inj, o.has, o.cab, o.hd, o.frames, o.stk, o.exf, o.bs, o.bsz, o.noex, o.exfs, o.funs, o.frf⟩
theorem Inv.toQuiet (I : Inv X pins σ H s) : Inv X.quiet pins σ H s := ⟨I.ok.quiet, I.os, I.bare, I.base, I.loc, I.cell, I.free, I.freeC, I.pin, I.hok, I.len⟩
theorem Inv.loud (I : Inv X.quiet pins σ H s) : Inv X pins σ H s := ⟨I.ok.loud, I.os, I.bare, I.base, I.loc, I.cell, I.free, I.freeC, I.pin, I.hok, I.len⟩
theorem ps_quiet {st : Stmt} {t : TS} (h : PS X.quiet st t) : PS X st t := by
  intro pins s σ H D I hw
  refine wpAny_mono (h pins s σ H D I.toQuiet hw) (fun f s' hq => ?_) fun _ _ x => x.elim
  cases f with
  | next => obtain ⟨σ', H', I2, q⟩ := hq; exact ⟨σ', H', I2.loud, q⟩
  | brk => obtain ⟨σ', H', I2, q⟩ := hq; exact ⟨σ', H', I2.loud, q⟩
  | cont => obtain ⟨σ', H', I2, q⟩ := hq; exact ⟨σ', H', I2.loud, q⟩
  | ret u => obtain ⟨v, σ', H', I2, r, q⟩ := hq; exact ⟨v, σ', H', I2.loud, r, q⟩
end
end L2

set_option Elab.async false
set_option linter.all false
set_option maxRecDepth 100000
set_option maxHeartbeats 4000000

namespace Hb
open PySem L2
theorem three_repO {K : PySem.W.Frag} {G : Hp} {m : Addr} {a b c : Bool} (h : SqT K G m [.bl a, .bl b, .bl c]) : Rep K G (.ref m) (.tup [.bl a, .bl b, .bl c]) := ⟨m, _, rfl, h, ⟨_, _, rfl, rfl, ⟨_, _, rfl, rfl, ⟨_, _, rfl, rfl, rfl⟩⟩⟩⟩

noncomputable def IsCh (H : Hp) (xs : List (List Int)) (k : Int) (x : V) : Prop := ∃ (b : Addr) (ms : Ms), x = .ref b ∧ H b = some (.dK (cK ms)) ∧ ms.length ≤ 1000 ∧ chainB xs k ms = true

noncomputable def NoCh (H : Hp) (xs : List (List Int)) (x : V) : Prop := ∃ t, ThingAt H x t ∧ ∀ k', chainT xs k' t = false
theorem IsCh.same {H H' : Hp} {xs : List (List Int)} {k : Int} {x : V} (s : Same H H') (h : IsCh H xs k x) : IsCh H' xs k x := by
  obtain ⟨b, ms, e, hb, r⟩ := h
  exact ⟨b, ms, e, s _ _ hb, r⟩
theorem NoCh.same {H H' : Hp} {xs : List (List Int)} {x : V} (s : Same H H') (h : NoCh H xs x) : NoCh H' xs x := by
  obtain ⟨t, hT, r⟩ := h
  exact ⟨t, hT.same s, r⟩
section
variable (K : PySem.W.Frag)
noncomputable def sp_some_levelX : Sp := fun vs H Q _ => ∃ (a : Addr) (x : V) (xs : List (List Int)) (n : Nat) (t : TT), vs = [.ref a, x, .int (n : Int)] ∧ LT K H (.ref a) xs ∧ ThingAt H x t ∧ n ≤ 100 ∧
  ∀ H', Same H H' → Q (.bl ((List.range n).any fun (k : Nat) => chainT xs (k : Int) t)) H'
noncomputable def sp_borderX (C : Addr) : Sp := fun vs H Q E => ∃ (a : Addr) (x : V) (xs : List (List Int)), vs = [.ref a, x] ∧ LT K H (.ref a) xs ∧ (∀ z ∈ xs, z.length ≤ 4) ∧
  (((∃ k : Nat, k < 4 ∧ IsCh H xs (k : Int) x) ∧ ∀ v H', Same H H' → Q v H') ∨ (NoCh H xs x ∧ ∀ H', Same H H' → E (.ref C) none H'))
noncomputable def sp_row_ofX (C : Addr) : Sp := fun vs H Q E => ∃ (a : Addr) (x : V) (xs : List (List Int)) (k : Int), vs = [.ref a, .int k, x] ∧ LT K H (.ref a) xs ∧ xs.length ≤ 1000 ∧ 0 ≤ k ∧ k ≤ 100 ∧
  ((IsCh H xs k x ∧ ∀ v H', Same H H' → Q v H') ∨ ((∃ t, ThingAt H x t ∧ chainT xs k t = false) ∧ ∀ H', Same H H' → E (.ref C) none H'))
noncomputable def sp_L_other (_K : PySem.W.Frag) (C : Addr) : Sp := fun vs H Q _ => ∃ (e : Addr), vs = [.ref e] ∧ H e = some (excO e (.ref C)) ∧ Q (.bl false) H
noncomputable def sp_L_border_refused : Sp := fun vs H Q _ => ∃ (a : Addr) (x : V) (xs : List (List Int)), vs = [.ref a, x] ∧ LT K H (.ref a) xs ∧ (∀ z ∈ xs, z.length ≤ 4) ∧
  (((∃ k : Nat, k < 4 ∧ IsCh H xs (k : Int) x) ∧ ∀ H', Same H H' → Q (.str (Str.ofString "taken")) H') ∨ (NoCh H xs x ∧ ∀ H', Same H H' → Q (.str (Str.ofString "refused")) H'))
noncomputable def sp_L_row_refused : Sp := fun vs H Q _ => ∃ (a : Addr) (x : V) (xs : List (List Int)) (k : Int), vs = [.ref a, .int k, x] ∧ LT K H (.ref a) xs ∧ xs.length ≤ 1000 ∧ 0 ≤ k ∧ k ≤ 100 ∧
  ((IsCh H xs k x ∧ ∀ H', Same H H' → Q (.str (Str.ofString "taken")) H') ∨ ((∃ t, ThingAt H x t ∧ chainT xs k t = false) ∧ ∀ H', Same H H' → Q (.str (Str.ofString "refused")) H'))
end
end Hb

set_option Elab.async false
set_option linter.all false
set_option maxRecDepth 100000
set_option maxHeartbeats 4000000
namespace Hb
open PySem L2
noncomputable def top (i : Nat) : Stmt := PySem.Challenge.pw_holebook_k12_no_chain_is_refused.main.body.getD i (.Pass ⟨0, 0, 0, 0⟩)
structure Txt (K : PySem.W.Frag) (mg : Str → Option Value) (C_HoleError C_NoShape C_NoLevel C_NoChain C_NoTable C_NoMap C_NoPair C_NoRound : Addr) : Prop where
  m_HoleError : mg "HoleError" = some (.ref C_HoleError)
  k_HoleError : PySem.W.ktsIn K C_HoleError "BaseException" = true
  m_NoShape : mg "NoShape" = some (.ref C_NoShape)
  m_NoLevel : mg "NoLevel" = some (.ref C_NoLevel)
  m_NoChain : mg "NoChain" = some (.ref C_NoChain)
  e_NoChain : PySem.W.excIn K C_NoChain bmV "ValueError.__new__" = true
  x_NoChain : ExcC K C_NoChain
  k_NoChain : PySem.W.ktsIn K C_NoChain "BaseException" = true
  iv_NoChain : PySem.W.kitOne K (.ref C_NoChain) (.type "ValueError") = some true
  m_NoTable : mg "NoTable" = some (.ref C_NoTable)
  m_NoMap : mg "NoMap" = some (.ref C_NoMap)
  m_NoPair : mg "NoPair" = some (.ref C_NoPair)
  m_NoRound : mg "NoRound" = some (.ref C_NoRound)
  i_NoChain_HoleError : PySem.W.kitOne K (.ref C_NoChain) (.ref C_HoleError) = some true
  s_NoChain_HoleError : PySem.W.subIn K (.ref C_NoChain) (.ref C_HoleError) = some true
  i_NoChain_NoShape : PySem.W.kitOne K (.ref C_NoChain) (.ref C_NoShape) = some false
  i_NoChain_NoLevel : PySem.W.kitOne K (.ref C_NoChain) (.ref C_NoLevel) = some false
  i_NoChain_NoChain : PySem.W.kitOne K (.ref C_NoChain) (.ref C_NoChain) = some true
  s_NoChain_NoChain : PySem.W.subIn K (.ref C_NoChain) (.ref C_NoChain) = some true
  i_NoChain_NoTable : PySem.W.kitOne K (.ref C_NoChain) (.ref C_NoTable) = some false
  i_NoChain_NoMap : PySem.W.kitOne K (.ref C_NoChain) (.ref C_NoMap) = some false
  i_NoChain_NoPair : PySem.W.kitOne K (.ref C_NoChain) (.ref C_NoPair) = some false
  i_NoChain_NoRound : PySem.W.kitOne K (.ref C_NoChain) (.ref C_NoRound) = some false
  x_LEVELS : ∃ t, mg "LEVELS" = some (.int 4 t)
  n_isinstance : mg "isinstance" = none
  n_int : mg "int" = none
  n_bool : mg "bool" = none
  n_max : mg "max" = none
  n_len : mg "len" = none
  n_all : mg "all" = none
  n_dict : mg "dict" = none
  n_any : mg "any" = none
  n_range : mg "range" = none
  n_enumerate : mg "enumerate" = none
  n_list : mg "list" = none
  n_tuple : mg "tuple" = none
  n_ValueError : mg "ValueError" = none
noncomputable def cutS (ns : List Int) (lo hi : Option Int) : List Int := (ns.drop (HT.sIx ns.length 0 lo)).take (HT.sIx ns.length ns.length hi - HT.sIx ns.length 0 lo)
theorem cutV_map (ns : List Int) (lo hi : Option Int) : cutV (ns.map V.int) lo hi = (cutS ns lo hi).map V.int := by
  unfold cutV cutS
  rw [List.length_map, List.map_take, List.map_drop]
theorem cutS_len (ns : List Int) (lo hi : Option Int) : (cutS ns lo hi).length ≤ ns.length := by
  unfold cutS
  rw [List.length_take, List.length_drop]
  omega

theorem ndc_0 : (["place", "number", "shape", "k"] : List Str).Nodup := by decide +kernel
theorem ndc_1 : (["k", "shape", "thing"] : List Str).Nodup := by decide +kernel
theorem ndc_2 : (["place", "piece", "k"] : List Str).Nodup := by decide +kernel
theorem ndc_3 : (["place", "chain"] : List Str).Nodup := by decide +kernel
theorem ndc_4 : (["_law_letter"] : List Str).Nodup := by decide +kernel
theorem ndc_5 : (["_law_i", "_law_word"] : List Str).Nodup := by decide +kernel
theorem ndc_6 : (["_law_word", "_law_family", "_law_words"] : List Str).Nodup := by decide +kernel
theorem ndc_7 : (["_law_face", "_law_words"] : List Str).Nodup := by decide +kernel
theorem ndc_8 : (["_law_at", "_law_spots"] : List Str).Nodup := by decide +kernel
section
variable {P : Program} {w : World} {K : PySem.W.Frag} {mg : Str → Option Value} {base : Heap} {C_HoleError C_NoShape C_NoLevel C_NoChain C_NoTable C_NoMap C_NoPair C_NoRound : Addr}
noncomputable abbrev s_is_whole : Stmt := top 1
theorem sc_is_whole : FnScope ["thing"] ["thing"] (defScope s_is_whole) := ⟨rfl, rfl, rfl, by decide +kernel, rfl, by decide +kernel, by decide +kernel⟩
theorem ok_is_whole {f : Addr} {fd : FuncData} (F : Fun K "is_whole" "is_whole" s_is_whole f fd) (T : Txt K mg C_HoleError C_NoShape C_NoLevel C_NoChain C_NoTable C_NoMap C_NoPair C_NoRound)  : FnOk P w K mg base CX0 1 f fd ["thing"] (sp_is_whole K) := by
  refine F.ok sc_is_whole (fun vs H Q E h => ?_) (fun cdv A outer s H vs Q E hr h => ?_)
  · obtain ⟨x, d, rfl, hx, k⟩ := h
    rfl
  · obtain ⟨x, d, rfl, hx, k⟩ := h
    refine ⟨_, (pss_one (ps_ret (pe_and (pe_callB (kcall_isinst (K := K)) (by rfl) T.n_isinstance boot_isinstanceB (pa_cons (pv 0) (pa_cons (pe_bltn (v := .ty "int") rfl T.n_int boot_intT rfl) pa_nil))) (pe_one (pe_not (pe_callB (kcall_isinst (K := K)) (by rfl) T.n_isinstance boot_isinstanceB (pa_cons (pv 0) (pa_cons (pe_bltn (v := .ty "bool") rfl T.n_bool boot_boolT rfl) pa_nil)))))))), ?_⟩
    refine ⟨_, rfl, _, _, d, rfl, .inl rfl, hx, _, rfl, ?_⟩
    refine ite2 (fun e => ?_) (fun e => ?_)
    · refine ⟨_, rfl, _, _, d, rfl, .inr (.inl rfl), hx, _, rfl, ?_⟩
      have e2 : wholeD d = !isD "bool" d := by unfold wholeD; rw [e]; rfl
      rw [e2] at k
      exact k
    · have e2 : wholeD d = false := by unfold wholeD; simp [e]
      rw [e2] at k
      exact k
noncomputable abbrev s_level_of : Stmt := top 4
theorem sc_level_of : FnScope ["piece"] ["piece"] (defScope s_level_of) := ⟨rfl, rfl, rfl, by decide +kernel, rfl, by decide +kernel, by decide +kernel⟩
theorem ok_level_of {f : Addr} {fd : FuncData} (F : Fun K "level_of" "level_of" s_level_of f fd) (T : Txt K mg C_HoleError C_NoShape C_NoLevel C_NoChain C_NoTable C_NoMap C_NoPair C_NoRound)  : FnOk P w K mg base CX0 1 f fd ["piece"] (sp_level_of K) := by
  refine F.ok sc_level_of (fun vs H Q E h => ?_) (fun cdv A outer s H vs Q E hr h => ?_)
  · obtain ⟨x, ds, rfl, hx, k⟩ := h
    rfl
  · obtain ⟨x, ds, rfl, hx, k⟩ := h
    refine ⟨_, (pss_one (ps_ret (pe_callB (call_max2 (by rfl)) (by rfl) T.n_max boot_maxB (pa_cons (pe_op op_sub (pe_callB (kcall_len_seq (K := K)) (by rfl) T.n_len PySem.boot_len (pa_cons (pv 0) pa_nil)) pe_int) (pa_cons pe_int pa_nil))))), ?_⟩
    obtain ⟨p, us, e, hq, hl⟩ : ∃ (p : Addr) (us : List V), x = .ref p ∧ (SqL K H p us ∨ SqT K H p us) ∧ us.length = ds.length := by
      rcases hx with ⟨p, us, e, hq, r⟩ | ⟨p, us, e, hq, r⟩
      · exact ⟨p, us, e, .inl hq, r.length⟩
      · exact ⟨p, us, e, .inr hq, r.length⟩
    subst e
    refine ⟨_, rfl, p, us, rfl, hq, _, _, rfl, rfl, _, _, rfl, ?_⟩
    rw [hl]
    exact k
noncomputable abbrev s_add_at : Stmt := top 10
theorem sc_add_at : FnScope ["chain", "place", "number", "total"] ["chain", "place", "number"] (defScope s_add_at) := ⟨rfl, rfl, rfl, by decide +kernel, rfl, by decide +kernel, by decide +kernel⟩
theorem nd_add_at : (["chain", "place", "number", "total"] : List Str).Nodup := by decide +kernel

theorem ok_add_at {f : Addr} {fd : FuncData} (F : Fun K "add_at" "add_at" s_add_at f fd) (T : Txt K mg C_HoleError C_NoShape C_NoLevel C_NoChain C_NoTable C_NoMap C_NoPair C_NoRound)  : FnOk P w K mg base CX0 1 f fd ["chain", "place", "number"] (sp_add_at K) := by
  refine F.ok sc_add_at (fun vs H Q E h => ?_) (fun cdv A outer s H vs Q E hr h => ?_)
  · obtain ⟨a, ms, k, n, rfl, ha, hl, kq⟩ := h
    rfl
  · obtain ⟨a, ms, k, n, rfl, ha, hl, kq⟩ := h
    have hu8 : (A.deeper (PyProof.Rows.envOfC "add_at" (defScope s_add_at) s.heap.objs.size f cdv)).units + 8 < cLine := by have := hr.units; omega
    refine ⟨_, (pss_cons (ps_set (i := 3) nd_add_at (by rfl) (by first | exact Or.inl rfl | exact Or.inr rfl) (pe_op op_add (pe_dget2 (u1 hu8) (pv 0) (pv 1) pe_int ⟨by rfl, by rfl, by rfl, by rfl⟩) (pv 2)))
      (pss_one (ps_if (pt_cmpR op_eq (pv 3) pe_int (nomark _)) (pss_one (ps_expr (pe_dpop2 (pv 0) (pv 1) pe_non ⟨by rfl, by rfl, by rfl, by rfl⟩))) (pss_one (ps_dput (u1 hu8) (pv 0) (pv 1) (pv 3) (by rfl)))))), ?_⟩
    refine ⟨_, rfl, a, rfl, .inl ⟨_, .inl ha⟩, _, rfl, _, dget_ok (.inl ha), _, rfl, getI ms k, n, cK_getD ms k, rfl, ?_⟩
    refine ⟨_, rfl, rfl, _, rfl, ?_⟩
    refine ite2 (fun h1 => ?_) (fun h1 => ?_)
    · have e : getI ms k + n = 0 := by simpa using h1
      unfold addI at kq
      rw [if_pos e] at kq
      refine ⟨_, rfl, a, rfl, .inl ⟨_, .inl ha⟩, _, rfl, cK ms, .inl k, ha, rfl, fun v hv => ?_, fun hn => ?_⟩
      · rw [cK_drop]
        exact kq
      · rw [cK_val] at hn
        have hn' : lookI ms k = none := by simpa using hn
        have e2 : dropI ms k = ms := by
          unfold dropI
          rw [List.filter_eq_self]
          intro p hp
          have : ¬ p.1 = k := fun z => by
            have h3 : (ms.any fun p => decide (p.1 = k)) = true := List.any_eq_true.mpr ⟨p, hp, by simpa using z⟩
            rw [any_key] at h3
            obtain ⟨p', hp', e'⟩ := List.mem_map.mp h3
            rw [← e'] at hn'
            have : ∀ (ns : Ms), p' ∈ ns → lookI ns p'.1 ≠ none := by
              intro ns
              induction ns with
              | nil => intro z; cases z
              | cons q ns ih =>
                intro hq
                rw [lookI_cons]
                split
                · exact fun z => by cases z
                · rename_i hne
                  rcases List.mem_cons.mp hq with rfl | hq
                  · exact absurd rfl hne
                  · exact ih hq
            exact this ms hp' hn'
          simpa using this
        rw [e2, upd_id ha] at kq
        exact kq
    · have e : ¬ getI ms k + n = 0 := by simpa using h1
      unfold addI at kq
      rw [if_neg e] at kq
      exact ⟨_, rfl, _, rfl, _, rfl, a, _, rfl, dput_ok ha hl, kq⟩
noncomputable abbrev s_numbers_at : Stmt := top 26
theorem sc_numbers_at : FnScope ["spots", "chain"] ["spots", "chain"] (defScope s_numbers_at) := ⟨rfl, rfl, rfl, by decide +kernel, rfl, by decide +kernel, by decide +kernel⟩
theorem ok_numbers_at {f : Addr} {fd : FuncData} (F : Fun K "numbers_at" "numbers_at" s_numbers_at f fd) (T : Txt K mg C_HoleError C_NoShape C_NoLevel C_NoChain C_NoTable C_NoMap C_NoPair C_NoRound)  : FnOk P w K mg base CX0 1 f fd ["spots", "chain"] (sp_numbers_at K) := by
  refine F.ok sc_numbers_at (fun vs H Q E h => ?_) (fun cdv A outer s H vs Q E hr h => ?_)
  · obtain ⟨a, b, sp, ms, rfl, hsp, hb, hl, kq⟩ := h
    rfl
  · obtain ⟨a, b, sp, ms, rfl, hsp, hb, hl, kq⟩ := h
    have hu8 : (A.deeper (PyProof.Rows.envOfC "numbers_at" (defScope s_numbers_at) s.heap.objs.size f cdv)).units + 8 < cLine := by have := hr.units; omega
    refine ⟨_, (pss_one (ps_ret (pe_comp (N' := ["place", "chain"]) (cap := [none, some 1]) (by rfl) (by kernel_rfl) (kpi_list (K := K) (pv 0)) (fun _ _ _ _ => (pg_name (i := 0) ndc_3 (by rfl) (by first | exact Or.inl rfl | exact Or.inr rfl))) (fun _ _ _ _ => pts_nil) (fun _ _ _ _ => (pe_dget2 (u1 hu8) (pv 1) (pv 0) pe_int ⟨by rfl, by rfl, by rfl, by rfl⟩))))), ?_⟩
    refine ⟨_, rfl, a, rfl, ⟨_, hsp⟩, fun D hD => ?_⟩
    refine comp_list0 (K := K) (a := a) (xs := sp.map V.int) (fun i ys τ G => Same H G ∧ G D = some (.lst ys) ∧ ys = ((sp.take i).map (getI ms)).map V.int ∧ ∃ o, τ = [o, some (.ref b)])
      ⟨Same.new hD, upd_same, rfl, none, rfl⟩ (fun i ys τ G _ hm_ => by obtain ⟨g, _⟩ := hm_; exact g.seq hsp) ?_ ?_
    · rintro i x ys τ G hx ⟨g, hDG, hys, o, rfl⟩
      have hi : i < sp.length := by have := (List.getElem?_eq_some_iff.mp hx).1; simpa using this
      have hxv : x = .int sp[i] := by
        rw [List.getElem?_map, List.getElem?_eq_getElem hi] at hx
        simpa using hx.symm
      subst hxv
      have hbG := rd_same g hb
      refine ⟨_, rfl, b, rfl, .inl ⟨_, hbG⟩, _, rfl, _, dget_ok hbG, ?_⟩
      rw [cK_getD]
      refine ⟨hDG, small (by rw [hys, List.length_map, List.length_map, List.length_take]; omega), g.turn hD, upd_same, ?_, _, rfl⟩
      rw [List.take_succ, List.getElem?_eq_getElem hi, List.map_append, List.map_append, hys]
      rfl
    · rintro ys τ G ⟨g, hDG, hys, _⟩
      rw [List.length_map, List.take_length] at hys
      refine kq D G hD g ?_
      rw [hDG, hys]
noncomputable abbrev s_L_cell_at : Stmt := top 29
theorem sc_L_cell_at : FnScope ["_law_script", "_law_k"] ["_law_script", "_law_k"] (defScope s_L_cell_at) := ⟨rfl, rfl, rfl, by decide +kernel, rfl, by decide +kernel, by decide +kernel⟩
theorem ok_L_cell_at {f : Addr} {fd : FuncData} (F : Fun K "_law_cell_at" "_law_cell_at" s_L_cell_at f fd) (T : Txt K mg C_HoleError C_NoShape C_NoLevel C_NoChain C_NoTable C_NoMap C_NoPair C_NoRound)  : FnOk P w K mg base CX0 1 f fd ["_law_script", "_law_k"] (sp_L_cell_at K) := by
  refine F.ok sc_L_cell_at (fun vs H Q E h => ?_) (fun cdv A outer s H vs Q E hr h => ?_)
  · obtain ⟨a, ns, k, rfl, hS, h0, hl, kq⟩ := h
    rfl
  · obtain ⟨a, ns, k, rfl, hS, h0, hl, kq⟩ := h
    refine ⟨_, (pss_cons (ps_if (pt_cmpR op_lt (pv 1) (pe_callB (kcall_len_seq (K := K)) (by rfl) T.n_len PySem.boot_len (pa_cons (pv 0) pa_nil)) (nomark _)) (pss_one (ps_ret (pe_ix (kix_list (K := K)) (pv 0) (pv 1) (fun _ _ => rfl)))) pss_nil)
      (pss_one (ps_ret pe_int))), ?_⟩
    refine ⟨_, rfl, _, rfl, a, _, rfl, .inl hS, _, _, rfl, rfl, _, rfl, ?_⟩
    refine ite2 (fun h1 => ?_) (fun h1 => ?_)
    · have h2 : k < (ns.length : Int) := by simpa using h1
      have e : atI (ns.map V.int) k = some (.int (cellAt ns k)) := by
        obtain ⟨j, rfl⟩ := Int.eq_ofNat_of_zero_le h0
        refine atI_nat ?_
        have hj : j < ns.length := by omega
        rw [List.getElem?_map, List.getElem?_eq_getElem hj]
        simp [cellAt, hj]
      exact ⟨_, rfl, _, rfl, a, _, k, _, rfl, rfl, hS, e, kq⟩
    · have h2 : ¬ k < (ns.length : Int) := by simpa using h1
      have e : cellAt ns k = 0 := by
        unfold cellAt
        have : ns.length ≤ k.toNat := by omega
        simp [this]
      rw [e] at kq
      exact kq
noncomputable abbrev s_L_faces_by : Stmt := top 30
theorem sc_L_faces_by : FnScope ["_law_word", "_law_family", "_law_size", "_law_faces", "_law_i"] ["_law_word", "_law_family"] (defScope s_L_faces_by) := ⟨rfl, rfl, rfl, by decide +kernel, rfl, by decide +kernel, by decide +kernel⟩
theorem nd_L_faces_by : (["_law_word", "_law_family", "_law_size", "_law_faces", "_law_i"] : List Str).Nodup := by decide +kernel

noncomputable def tl_L_faces_by_0 (K : PySem.W.Frag) : TS := L2.tAsg
  (L2.tCB
    (fun (xs : List L2.V) (H : L2.Hp) (Q : L2.VK) ↦
      ∃ (p : PySem.Addr),
        ∃ (ys : List L2.V), xs = [L2.V.ref p] ∧ (L2.SqL K H p ys ∨ L2.SqT K H p ys) ∧ Q (L2.V.int ↑ys.length) H)
    (L2.tCons (L2.tVar 0) L2.tNil))
  (L2.gName 2)
noncomputable def tl_L_faces_by_1 (K : PySem.W.Frag) : TS := L2.tIfS
  (L2.tTest (L2.tOp (L2.rI0 fun (i j : Int) ↦ L2.V.bl (Decidable.decide (i < j))) (L2.tVar 2) (L2.tC (L2.V.int 2))))
  (L2.tRet (L2.tLst L2.tNil)) L2.tNext
noncomputable def tl_L_faces_by_2 (K : PySem.W.Frag) : TS := L2.tRet
  (L2.tComp (L2.iRng1 (L2.tCons (L2.tVar 2) L2.tNil)) [Option.none, Option.some 0] (L2.gName 0) L2.tYes
    (L2.tOp (L2.rCatW K) (L2.tSl (L2.rSlTW K) (L2.tVar 1) L2.tNoPart (L2.tPart (L2.tVar 0)))
      (L2.tSl (L2.rSlTW K) (L2.tVar 1)
        (L2.tPart (L2.tOp (L2.rI0 fun (i j : Int) ↦ L2.V.int (i + j)) (L2.tVar 0) (L2.tC (L2.V.int 1)))) L2.tNoPart)))
noncomputable def tl_L_faces_by_3 (K : PySem.W.Frag) : TS := L2.tSeq (tl_L_faces_by_1 K) (tl_L_faces_by_2 K)
noncomputable def tl_L_faces_by_4 (K : PySem.W.Frag) : TS := L2.tIfS (L2.tTest (L2.tOp L2.rEq (L2.tVar 1) (L2.tC (L2.V.int 0)))) (tl_L_faces_by_3 K) L2.tNext
noncomputable def tl_L_faces_by_5 (K : PySem.W.Frag) : TS := L2.tIfS (L2.tTest (L2.tOp L2.rEq (L2.tVar 2) (L2.tC (L2.V.int 0)))) (L2.tRet (L2.tLst L2.tNil)) L2.tNext
noncomputable def tl_L_faces_by_6 (K : PySem.W.Frag) : TS := L2.tIfS (L2.tTest (L2.tOp L2.rEq (L2.tVar 2) (L2.tC (L2.V.int 1))))
  (L2.tRet (L2.tLst (L2.tCons (L2.tTup L2.tNil) (L2.tCons (L2.tTup L2.tNil) L2.tNil)))) L2.tNext
noncomputable def tl_L_faces_by_7 (K : PySem.W.Frag) : TS := L2.tRet (L2.tComp (L2.iTup K (L2.tVar 0)) [Option.none] (L2.gName 0) L2.tYes (L2.tTup (L2.tCons (L2.tVar 0) L2.tNil)))
noncomputable def tl_L_faces_by_8 (K : PySem.W.Frag) : TS := L2.tSeq (tl_L_faces_by_6 K) (tl_L_faces_by_7 K)
noncomputable def tl_L_faces_by_9 (K : PySem.W.Frag) : TS := L2.tIfS
  (L2.tTest (L2.tOp (L2.rI0 fun (i j : Int) ↦ L2.V.bl (Decidable.decide (i < j))) (L2.tVar 1) (L2.tC (L2.V.int 0)))) (tl_L_faces_by_8 K)
  L2.tNext
noncomputable def tl_L_faces_by_10 (K : PySem.W.Frag) : TS := L2.tAsg (L2.tLst (L2.tCons (L2.tSl (L2.rSlTW K) (L2.tVar 0) (L2.tPart (L2.tC (L2.V.int 1))) L2.tNoPart) L2.tNil))
  (L2.gName 3)
noncomputable def tl_L_faces_by_11 (K : PySem.W.Frag) : TS := L2.tDrop
  (L2.tBM K "list" L2.rAppend (L2.tVar 3)
    (L2.tCons
      (L2.tOp (L2.rCatW K)
        (L2.tOp (L2.rCatW K) (L2.tSl (L2.rSlTW K) (L2.tVar 0) L2.tNoPart (L2.tPart (L2.tVar 4)))
          (L2.tTup
            (L2.tCons
              (L2.tOp (L2.rI (fun (x j : Int) ↦ 0 < j) fun (i j : Int) ↦ L2.V.int (i % j))
                (L2.tOp (L2.rI0 fun (i j : Int) ↦ L2.V.int (i + j)) (L2.tOp (L2.rIxT K) (L2.tVar 0) (L2.tVar 4))
                  (L2.tOp (L2.rIxT K) (L2.tVar 0)
                    (L2.tOp (L2.rI0 fun (i j : Int) ↦ L2.V.int (i + j)) (L2.tVar 4) (L2.tC (L2.V.int 1)))))
                (L2.tVar 1))
              L2.tNil)))
        (L2.tSl (L2.rSlTW K) (L2.tVar 0)
          (L2.tPart (L2.tOp (L2.rI0 fun (i j : Int) ↦ L2.V.int (i + j)) (L2.tVar 4) (L2.tC (L2.V.int 2)))) L2.tNoPart))
      L2.tNil))
noncomputable def tl_L_faces_by_12 (K : PySem.W.Frag) : TS := L2.tFor
  (L2.iRng1 (L2.tCons (L2.tOp (L2.rI0 fun (i j : Int) ↦ L2.V.int (i - j)) (L2.tVar 2) (L2.tC (L2.V.int 1))) L2.tNil))
  (L2.gName 4) (tl_L_faces_by_11 K)
noncomputable def tl_L_faces_by_13 (K : PySem.W.Frag) : TS := L2.tDrop
  (L2.tBM K "list" L2.rAppend (L2.tVar 3)
    (L2.tCons
      (L2.tSl (L2.rSlTW K) (L2.tVar 0) L2.tNoPart
        (L2.tPart (L2.tOp (L2.rI0 fun (i j : Int) ↦ L2.V.int (i - j)) (L2.tVar 2) (L2.tC (L2.V.int 1)))))
      L2.tNil))
noncomputable def tl_L_faces_by_14 (K : PySem.W.Frag) : TS := L2.tSeq (tl_L_faces_by_13 K) (L2.tRet (L2.tVar 3))
noncomputable def tl_L_faces_by_15 (K : PySem.W.Frag) : TS := L2.tSeq (tl_L_faces_by_12 K) (tl_L_faces_by_14 K)
noncomputable def tl_L_faces_by_16 (K : PySem.W.Frag) : TS := L2.tSeq (tl_L_faces_by_10 K) (tl_L_faces_by_15 K)
noncomputable def tl_L_faces_by_17 (K : PySem.W.Frag) : TS := L2.tSeq (tl_L_faces_by_9 K) (tl_L_faces_by_16 K)
noncomputable def tl_L_faces_by_18 (K : PySem.W.Frag) : TS := L2.tSeq (tl_L_faces_by_5 K) (tl_L_faces_by_17 K)
noncomputable def tl_L_faces_by_19 (K : PySem.W.Frag) : TS := L2.tSeq (tl_L_faces_by_4 K) (tl_L_faces_by_18 K)
noncomputable def tl_L_faces_by_20 (K : PySem.W.Frag) : TS := L2.tSeq (tl_L_faces_by_0 K) (tl_L_faces_by_19 K)
theorem ok_L_faces_by {f : Addr} {fd : FuncData} (F : Fun K "_law_faces_by" "_law_faces_by" s_L_faces_by f fd) (T : Txt K mg C_HoleError C_NoShape C_NoLevel C_NoChain C_NoTable C_NoMap C_NoPair C_NoRound)  : FnOk P w K mg base CX0 1 f fd ["_law_word", "_law_family"] (sp_L_faces_by K) := by
  refine F.ok sc_L_faces_by (fun vs H Q E h => ?_) (fun cdv A outer s H vs Q E hr h => ?_)
  · obtain ⟨v, w, fam, rfl, hv, hw, k⟩ := h
    rfl
  · obtain ⟨v, w, fam, rfl, hv, hw, k⟩ := h
    refine ⟨tl_L_faces_by_20 K, (pss_cons (ps_set (i := 2) nd_L_faces_by (by rfl) (by first | exact Or.inl rfl | exact Or.inr rfl) (pe_callB (kcall_len_seq (K := K)) (by rfl) T.n_len PySem.boot_len (pa_cons (pv 0) pa_nil)))
      (pss_cons (ps_if (pt_cmpR op_eq (pv 1) pe_int (nomark _)) (pss_cons (ps_if (pt_cmpR op_lt (pv 2) pe_int (nomark _)) (pss_one (ps_ret (pe_lst pa_nil))) pss_nil)
      (pss_one (ps_ret (pe_comp (N' := ["_law_i", "_law_word"]) (cap := [none, some 0]) (by rfl) (by kernel_rfl) (pi_range1 (by rfl) T.n_range (pa_cons (pv 2) pa_nil)) (fun _ _ _ _ => (pg_name (i := 0) ndc_5 (by rfl) (by first | exact Or.inl rfl | exact Or.inr rfl))) (fun _ _ _ _ => pts_nil) (fun _ _ _ _ => (pe_op (kop_catW (K := K)) (pe_slice (ksl_tupW (K := K)) (pv 1) po_none (po_some (pv 0))) (pe_slice (ksl_tupW (K := K)) (pv 1) (po_some (pe_op op_add (pv 0) pe_int)) po_none))))))) pss_nil)
      (pss_cons (ps_if (pt_cmpR op_eq (pv 2) pe_int (nomark _)) (pss_one (ps_ret (pe_lst pa_nil))) pss_nil)
      (pss_cons (ps_if (pt_cmpR op_lt (pv 1) pe_int (nomark _)) (pss_cons (ps_if (pt_cmpR op_eq (pv 2) pe_int (nomark _)) (pss_one (ps_ret (pe_lst (pa_cons (pe_tup pa_nil) (pa_cons (pe_tup pa_nil) pa_nil))))) pss_nil)
      (pss_one (ps_ret (pe_comp (N' := ["_law_letter"]) (cap := [none]) (by rfl) (by kernel_rfl) (kpi_tup (K := K) (pv 0)) (fun _ _ _ _ => (pg_name (i := 0) ndc_4 (by rfl) (by first | exact Or.inl rfl | exact Or.inr rfl))) (fun _ _ _ _ => pts_nil) (fun _ _ _ _ => (pe_tup (pa_cons (pv 0) pa_nil))))))) pss_nil)
      (pss_cons (ps_set (i := 3) nd_L_faces_by (by rfl) (by first | exact Or.inl rfl | exact Or.inr rfl) (pe_lst (pa_cons (pe_slice (ksl_tupW (K := K)) (pv 0) (po_some pe_int) po_none) pa_nil)))
      (pss_cons (ps_for PassesOwn.never rfl (pi_range1 (by rfl) T.n_range (pa_cons (pe_op op_sub (pv 2) pe_int) pa_nil)) (pg_name (i := 4) nd_L_faces_by (by rfl) (by first | exact Or.inl rfl | exact Or.inr rfl)) (pss_one (ps_expr (kpe_bm (K := K) PySem.F.plainAttrs_list PySem.F.slot_list_append PySem.F.type_list_append mt_append (pv 3) (pa_cons (pe_op (kop_catW (K := K)) (pe_op (kop_catW (K := K)) (pe_slice (ksl_tupW (K := K)) (pv 0) po_none (po_some (pv 4))) (pe_tup (pa_cons (pe_op op_mod (pe_op op_add (pe_ix (kix_tup (K := K)) (pv 0) (pv 4) (fun _ _ => rfl)) (pe_ix (kix_tup (K := K)) (pv 0) (pe_op op_add (pv 4) pe_int) (fun _ _ => rfl))) (pv 1)) pa_nil))) (pe_slice (ksl_tupW (K := K)) (pv 0) (po_some (pe_op op_add (pv 4) pe_int)) po_none)) pa_nil)))))
      (pss_cons (ps_expr (kpe_bm (K := K) PySem.F.plainAttrs_list PySem.F.slot_list_append PySem.F.type_list_append mt_append (pv 3) (pa_cons (pe_slice (ksl_tupW (K := K)) (pv 0) po_none (po_some (pe_op op_sub (pv 2) pe_int))) pa_nil)))
      (pss_one (ps_ret (pv 3)))))))))), ?_⟩
    obtain ⟨aw, rfl, hq⟩ := hv.sq
    have hlen : (w.map V.int).length = w.length := List.length_map ..
    have hl4 : w.length ≤ 4 := by rcases hw with z | z | z <;> omega
    refine ⟨_, rfl, aw, _, rfl, .inr hq, ?_⟩
    rw [hlen]
    refine ⟨_, rfl, rfl, _, rfl, ?_⟩
    refine ite2 (fun h1 => ?_) (fun h1 => ?_)
    · have hf : fam = 0 := by simpa using h1
      subst hf
      refine ⟨_, rfl, _, _, rfl, rfl, _, rfl, ?_⟩
      refine ite2 (fun h2 => ?_) (fun h2 => ?_)
      · have h3 : w.length < 2 := by have : (w.length : Int) < 2 := by simpa using h2
                                     omega
        refine ⟨Nat.zero_le _, fun p hp => ?_⟩
        refine k p [] _ hp (Same.new hp) upd_same ?_
        have e : facesBy w 0 = [] := by unfold facesBy; rw [if_pos rfl, if_pos h3]
        rw [e]
        rfl
      · have h3 : ¬ w.length < 2 := by have : ¬ (w.length : Int) < 2 := by simpa using h2
                                       omega
        have e : facesBy w 0 = (List.range w.length).map fun i => w.take i ++ w.drop (i + 1) := by unfold facesBy; rw [if_pos rfl, if_neg h3]
        rw [e] at k
        refine ⟨_, rfl, _, rfl, by omega, by omega, fun D hD => ?_⟩
        refine comp_range0 (fun i ys τ H1 => i ≤ w.length ∧ Same H H1 ∧ H1 D = some (.lst ys) ∧ Reps K H1 ys (((List.range i).map fun i => w.take i ++ w.drop (i + 1)).map tI) ∧ ∃ o, τ = [o, some (.ref aw)])
          ⟨Nat.zero_le _, Same.new hD, upd_same, rfl, none, rfl⟩ ?_ ?_
        · rintro i ys τ H1 hi ⟨hi1, s1, hD1, r1, o, rfl⟩
          have hi2 : i < w.length := by simpa using hi
          have hq1 : SqT K H1 aw (w.map V.int) := s1.seqT hq
          refine ⟨_, rfl, _, rfl, _, rfl, aw, _, rfl, hq1, ?_, fun p1 H2 s2 q2 => ?_⟩
          · rw [hlen]; rintro ⟨_, z⟩
            rw [show ((0 : Int) + (i : Int)) = ((i : Nat) : Int) by omega, HT.sIx_nat] at z
            omega
          refine ⟨_, rfl, _, rfl, _, _, rfl, rfl, _, rfl, aw, _, rfl, s2.seqT hq1, ?_, fun p2 H3 s3 q3 => ?_⟩
          · rw [hlen]; rintro ⟨z, _⟩
            rw [show ((0 : Int) + (i : Int) + 1) = ((i + 1 : Nat) : Int) by omega, HT.sIx_nat] at z
            omega
          rw [show ((0 : Int) + (i : Int)) = ((i : Nat) : Int) by omega, cut_take] at q2
          rw [show ((0 : Int) + (i : Int) + 1) = ((i + 1 : Nat) : Int) by omega, cut_drop] at q3
          refine ⟨p1, p2, _, _, rfl, rfl, s3.seqT q2, q3, ?_, fun p H4 s4 q4 => ?_⟩
          · refine smallE ?_
            simp only [List.length_take, List.length_drop, List.length_map]
            omega
          have s14 : Same H1 H4 := (s2.trans s3).trans s4
          have hD4 : H4 D = some (.lst ys) := s14 _ _ hD1
          have t4 : TI K H4 (.ref p) (w.take i ++ w.drop (i + 1)) := by
            refine TI.mk ?_
            rw [List.map_append, List.map_take, List.map_drop]
            exact q4
          have r4 : Reps K H4 ys (((List.range i).map fun i => w.take i ++ w.drop (i + 1)).map tI) := Reps.same s14 r1
          have hyl : ys.length = i := by have := r1.length; simpa using this
          refine ⟨hD4, small (by omega), by omega, (s1.trans s14).turn hD, upd_same, ?_, _, rfl⟩
          rw [List.range_succ, List.map_append]
          exact push_TI hD4 r4 t4
        · rintro ys τ H1 ⟨_, s1, hD1, r1, _⟩
          rw [show ((w.length : Int)).toNat = w.length by omega] at r1
          exact k D ys H1 hD s1 hD1 r1
    · have hf : ¬ fam = 0 := by simpa using h1
      refine ⟨_, rfl, rfl, _, rfl, ?_⟩
      refine ite2 (fun h2 => ?_) (fun h2 => ?_)
      · have h3 : w.length = 0 := by simpa using h2
        refine ⟨Nat.zero_le _, fun p hp => ?_⟩
        refine k p [] _ hp (Same.new hp) upd_same ?_
        have e : facesBy w fam = [] := by unfold facesBy; rw [if_neg hf, if_pos h3]
        rw [e]
        rfl
      have h3 : ¬ w.length = 0 := by simpa using h2
      refine ⟨_, rfl, _, _, rfl, rfl, _, rfl, ?_⟩
      refine ite2 (fun h4 => ?_) (fun h4 => ?_)
      · have h5 : fam < 0 := by simpa using h4
        refine ⟨_, rfl, rfl, _, rfl, ?_⟩
        refine ite2 (fun h6 => ?_) (fun h6 => ?_)
        · have h7 : w.length = 1 := by
            have : (w.length : Int) = 1 := by simpa using h6
            omega
          have e : facesBy w fam = [[], []] := by unfold facesBy; rw [if_neg hf, if_neg h3, if_pos h5, if_pos h7]
          rw [e] at k
          refine ⟨Nat.zero_le _, fun p1 hp1 => ⟨Nat.zero_le _, fun p2 hp2 => ⟨smallE (by simp), fun p hp => ?_⟩⟩⟩
          have s1 : Same H (upd H p1 (.tup [])) := Same.new hp1
          have s2 : Same (upd H p1 (.tup [])) (upd (upd H p1 (.tup [])) p2 (.tup [])) := Same.new hp2
          have s3 : Same (upd (upd H p1 (.tup [])) p2 (.tup [])) (upd (upd (upd H p1 (.tup [])) p2 (.tup [])) p (.lst [.ref p1, .ref p2])) := Same.new hp
          have hp0 : H p = none := (s1.trans s2).free hp
          refine k p _ _ hp0 ((s1.trans s2).trans s3) upd_same ?_
          have t1 : TI K _ (.ref p1) [] := TI.mk (.of (s3 _ _ (s2 _ _ upd_same)))
          have t2 : TI K _ (.ref p2) [] := TI.mk (.of (s3 _ _ upd_same))
          exact ⟨_, _, rfl, t1, _, _, rfl, t2, rfl⟩
        · have h7 : ¬ w.length = 1 := by
            have : ¬ (w.length : Int) = 1 := by simpa using h6
            omega
          have e : facesBy w fam = w.map fun l => [l] := by unfold facesBy; rw [if_neg hf, if_neg h3, if_pos h5, if_neg h7]
          rw [e] at k
          refine ⟨_, rfl, aw, rfl, ⟨_, hq⟩, fun D hD => ?_⟩
          refine comp_tup0 (xs := w.map V.int) (fun i ys τ H1 => i ≤ w.length ∧ Same H H1 ∧ H1 D = some (.lst ys) ∧ Reps K H1 ys (((w.take i).map fun l => [l]).map tI) ∧ ∃ o, τ = [o])
            ⟨Nat.zero_le _, Same.new hD, upd_same, rfl, none, rfl⟩ (fun i ys τ H1 _ hm_ => by obtain ⟨_, s1, _⟩ := hm_; exact s1.seqT hq) ?_ ?_
          · rintro i x ys τ H1 hx ⟨hi1, s1, hD1, r1, o, rfl⟩
            have hi2 : i < w.length := by have := (List.getElem?_eq_some_iff.mp hx).1; simpa using this
            have hx2 : x = .int w[i] := by
              rw [List.getElem?_map, List.getElem?_eq_getElem hi2] at hx
              simpa using hx.symm
            subst hx2
            refine ⟨_, rfl, smallE (by simp), fun p hp => ?_⟩
            have s2 : Same H1 (upd H1 p (.tup [.int w[i]])) := Same.new hp
            have hD4 := s2 _ _ hD1
            have t4 : TI K (upd H1 p (.tup [.int w[i]])) (.ref p) [w[i]] := TI.mk (.of upd_same)
            have r4 := Reps.same s2 r1
            have hyl : ys.length = i := by have := r1.length; simp at this; omega
            refine ⟨hD4, small (by omega), by omega, (s1.trans s2).turn hD, upd_same, ?_, _, rfl⟩
            have e2 : (w.take (i + 1)).map (fun l => [l]) = (w.take i).map (fun l => [l]) ++ [[w[i]]] := by
              rw [List.take_succ, List.getElem?_eq_getElem hi2, List.map_append]
              rfl
            rw [e2]
            exact push_TI hD4 r4 t4
          · rintro ys τ H1 ⟨_, s1, hD1, r1, _⟩
            rw [hlen, List.take_length] at r1
            exact k D ys H1 hD s1 hD1 r1
      have h5 : ¬ fam < 0 := by simpa using h4
      have hpos : 0 < fam := by omega
      have e : facesBy w fam = w.drop 1 :: ((List.range (w.length - 1)).map fun i => w.take i ++ [(w.getD i 0 + w.getD (i + 1) 0) % fam] ++ w.drop (i + 2)) ++ [w.take (w.length - 1)] := by
        unfold facesBy; rw [if_neg hf, if_neg h3, if_neg h5]
      rw [e] at k
      refine ⟨_, rfl, _, rfl, aw, _, rfl, hq, ?_, fun p1 H1 s1 q1 => ⟨smallE (by simp), fun D hD => ?_⟩⟩
      · rw [hlen]; rintro ⟨z, _⟩
        rw [show (1 : Int) = ((1 : Nat) : Int) by omega, HT.sIx_nat] at z
        omega
      rw [show (1 : Int) = ((1 : Nat) : Int) by omega, cut_drop] at q1
      have hD0 : H D = none := s1.free hD
      have s2 : Same H1 (upd H1 D (.lst [.ref p1])) := Same.new hD
      have t1 : TI K (upd H1 D (.lst [.ref p1])) (.ref p1) (w.drop 1) := by
        refine TI.mk ?_
        rw [List.map_drop]
        exact s2.seqT q1
      have hn : ((w.length : Int) - 1).toNat = w.length - 1 := by omega
      refine ⟨_, rfl, _, _, rfl, rfl, _, rfl, by omega, by omega, for_range (lo := 0) (n := ((w.length : Int) - 1).toNat)
        (fun i σ H2 => ∃ (ys : List V) (o : Option V), σ = [some (.ref aw), some (.int fam), some (.int w.length), some (.ref D), o] ∧ Same H H2 ∧ H2 D = some (.lst ys) ∧
          Reps K H2 ys ((w.drop 1 :: ((List.range i).map fun i => w.take i ++ [(w.getD i 0 + w.getD (i + 1) 0) % fam] ++ w.drop (i + 2))).map tI))
        ⟨_, none, rfl, s1.trans s2, upd_same, ⟨_, _, rfl, t1, rfl⟩⟩ ?_ ?_⟩
      · rintro i σ H2 hi ⟨ys, o, rfl, sH, hD2, r2⟩
        rw [hn] at hi
        have hq2 : SqT K H2 aw (w.map V.int) := sH.seqT hq
        have c0 : ((0 : Int) + (i : Int)) = ((i : Nat) : Int) := by omega
        have c1 : ((0 : Int) + (i : Int) + 1) = ((i + 1 : Nat) : Int) := by omega
        have c2 : ((0 : Int) + (i : Int) + 2) = ((i + 2 : Nat) : Int) := by omega
        have at0 : atI (w.map V.int) ((0 : Int) + (i : Int)) = some (.int (w.getD i 0)) := by
          rw [c0]
          refine atI_nat ?_
          rw [List.getElem?_map, List.getElem?_eq_getElem (by omega)]
          simp [show i < w.length by omega]
        have at1 : atI (w.map V.int) ((0 : Int) + (i : Int) + 1) = some (.int (w.getD (i + 1) 0)) := by
          rw [c1]
          refine atI_nat ?_
          rw [List.getElem?_map, List.getElem?_eq_getElem (by omega)]
          simp [show i + 1 < w.length by omega]
        refine ⟨_, rfl, .inl ⟨rfl, _, SqL.of hD2⟩, ?_⟩
        refine ⟨_, rfl, _, rfl, _, rfl, aw, _, rfl, hq2, ?_, fun pa Ha sa qa => ?_⟩
        · rw [hlen]; rintro ⟨_, z⟩
          rw [c0, HT.sIx_nat] at z
          omega
        rw [c0, cut_take] at qa
        refine ⟨_, rfl, _, rfl, aw, _, _, _, rfl, rfl, sa.seqT hq2, at0, _, rfl, _, rfl, _, _, rfl, rfl, aw, _, _, _, rfl, rfl, sa.seqT hq2, at1, _, _, rfl, rfl, _, rfl, _, _, rfl, rfl, hpos, smallE (by simp), fun pb hb => ?_⟩
        have sb : Same Ha (upd Ha pb (.tup [.int ((w.getD i 0 + w.getD (i + 1) 0) % fam)])) := Same.new hb
        refine ⟨pa, pb, _, _, rfl, rfl, sb.seqT qa, .of upd_same, smallE (by simp; omega), fun pc Hc sc qc => ?_⟩
        have sac := (sa.trans sb).trans sc
        refine ⟨_, rfl, _, rfl, _, _, rfl, rfl, _, rfl, aw, _, rfl, sac.seqT hq2, ?_, fun pd Hd sd qd => ?_⟩
        · rw [hlen]; rintro ⟨z, _⟩
          rw [c2, HT.sIx_nat] at z
          omega
        rw [c2, cut_drop] at qd
        refine ⟨pc, pd, _, _, rfl, rfl, sd.seqT qc, qd, smallE (by simp; omega), fun pe He se qe => ?_⟩
        have sall := (sac.trans sd).trans se
        have hDe := sall _ _ hD2
        have te : TI K He (.ref pe) (w.take i ++ [(w.getD i 0 + w.getD (i + 1) 0) % fam] ++ w.drop (i + 2)) := by
          refine TI.mk ?_
          simp only [List.map_append, List.map_take, List.map_drop, List.map_cons, List.map_nil]
          exact qe
        have hyl : ys.length = i + 1 := by have := r2.length; simpa using this
        refine ⟨D, _, _, rfl, rfl, hDe, small (by omega), ?_⟩
        refine ⟨_, _, rfl, (sH.trans sall).turn hD0, upd_same, ?_⟩
        have e3 : (w.drop 1 :: ((List.range (i + 1)).map fun i => w.take i ++ [(w.getD i 0 + w.getD (i + 1) 0) % fam] ++ w.drop (i + 2))) =
            (w.drop 1 :: ((List.range i).map fun i => w.take i ++ [(w.getD i 0 + w.getD (i + 1) 0) % fam] ++ w.drop (i + 2))) ++ [w.take i ++ [(w.getD i 0 + w.getD (i + 1) 0) % fam] ++ w.drop (i + 2)] := by
          rw [List.range_succ, List.map_append]
          rfl
        rw [e3]
        exact push_TI hDe (Reps.same sall r2) te
      · rintro σ H2 ⟨ys, o, rfl, sH, hD2, r2⟩
        rw [hn] at r2
        have hq2 : SqT K H2 aw (w.map V.int) := sH.seqT hq
        have c1 : ((w.length : Int) - 1) = ((w.length - 1 : Nat) : Int) := by omega
        refine ⟨_, rfl, .inl ⟨rfl, _, SqL.of hD2⟩, _, rfl, _, rfl, _, _, rfl, rfl, _, rfl, aw, _, rfl, hq2, ?_, fun pa Ha sa qa => ?_⟩
        · rw [hlen]; rintro ⟨_, z⟩
          rw [c1, HT.sIx_nat] at z
          omega
        rw [c1, cut_take] at qa
        have hDa := sa _ _ hD2
        have ta : TI K Ha (.ref pa) (w.take (w.length - 1)) := by
          refine TI.mk ?_
          rw [List.map_take]
          exact qa
        have hyl : ys.length = w.length := by have := r2.length; simp at this; omega
        refine ⟨D, _, _, rfl, rfl, hDa, small (by omega), ?_⟩
        refine ⟨_, rfl, ?_⟩
        exact k D _ _ hD0 ((sH.trans sa).turn hD0) upd_same (push_TI hDa (Reps.same sa r2) ta)
noncomputable abbrev s_L_word_by : Stmt := top 31
theorem sc_L_word_by : FnScope ["_law_cell", "_law_family", "_law_letters", "_law_size", "_law_base", "_law_word", "_law_k"] ["_law_cell", "_law_family", "_law_letters"] (defScope s_L_word_by) := ⟨rfl, rfl, rfl, by decide +kernel, rfl, by decide +kernel, by decide +kernel⟩
theorem nd_L_word_by : (["_law_cell", "_law_family", "_law_letters", "_law_size", "_law_base", "_law_word", "_law_k"] : List Str).Nodup := by decide +kernel

noncomputable def tl_L_word_by_0 (K : PySem.W.Frag) : TS := L2.tAsg
  (L2.tOp (L2.rI (fun (x j : Int) ↦ 0 < j) fun (i j : Int) ↦ L2.V.int (i % j)) (L2.tVar 0) (L2.tC (L2.V.int 1000000)))
  (L2.gName 0)
noncomputable def tl_L_word_by_1 (K : PySem.W.Frag) : TS := L2.tAsg (L2.tOp (L2.rI (fun (x j : Int) ↦ 0 < j) fun (i j : Int) ↦ L2.V.int (i % j)) (L2.tVar 0) (L2.tC (L2.V.int 4)))
  (L2.gName 3)
noncomputable def tl_L_word_by_2 (K : PySem.W.Frag) : TS := L2.tAsg (L2.tOp (L2.rI0 fun (i j : Int) ↦ L2.V.int (i + j)) (L2.tVar 3) (L2.tC (L2.V.int 1))) (L2.gName 3)
noncomputable def tl_L_word_by_3 (K : PySem.W.Frag) : TS := L2.tIfS (L2.tTest (L2.tOp L2.rEq (L2.tVar 1) (L2.tC (L2.V.int 0)))) (tl_L_word_by_2 K) L2.tNext
noncomputable def tl_L_word_by_4 (K : PySem.W.Frag) : TS := L2.tAsg (L2.tC (L2.V.int 3)) (L2.gName 3)
noncomputable def tl_L_word_by_5 (K : PySem.W.Frag) : TS := L2.tIfS
  (L2.tAnd
    (L2.tTest (L2.tOp (L2.rI0 fun (i j : Int) ↦ L2.V.bl (Decidable.decide (i < j))) (L2.tVar 1) (L2.tC (L2.V.int 0))))
    (L2.tTest (L2.tOp L2.rNe (L2.tVar 3) (L2.tC (L2.V.int 1)))))
  (tl_L_word_by_4 K) L2.tNext
noncomputable def tl_L_word_by_6 (K : PySem.W.Frag) : TS := L2.tIfS
  (L2.tTest (L2.tOp (L2.rI0 fun (i j : Int) ↦ L2.V.bl (Decidable.decide (j < i))) (L2.tVar 1) (L2.tC (L2.V.int 0))))
  (L2.tAsg (L2.tVar 1) (L2.gName 4)) L2.tNext
noncomputable def tl_L_word_by_7 (K : PySem.W.Frag) : TS := L2.tAsg (L2.tOp (L2.rI L2.CDiv fun (i j : Int) ↦ L2.V.int (i / j)) (L2.tVar 0) (L2.tC (L2.V.int 4))) (L2.gName 0)
noncomputable def tl_L_word_by_8 (K : PySem.W.Frag) : TS := L2.tAsg
  (L2.tOp (L2.rCatW K) (L2.tVar 5)
    (L2.tTup
      (L2.tCons (L2.tOp (L2.rI (fun (x j : Int) ↦ 0 < j) fun (i j : Int) ↦ L2.V.int (i % j)) (L2.tVar 0) (L2.tVar 4))
        L2.tNil)))
  (L2.gName 5)
noncomputable def tl_L_word_by_9 (K : PySem.W.Frag) : TS := L2.tAsg (L2.tOp (L2.rI L2.CDiv fun (i j : Int) ↦ L2.V.int (i / j)) (L2.tVar 0) (L2.tVar 4)) (L2.gName 0)
noncomputable def tl_L_word_by_10 (K : PySem.W.Frag) : TS := L2.tSeq (tl_L_word_by_8 K) (tl_L_word_by_9 K)
noncomputable def tl_L_word_by_11 (K : PySem.W.Frag) : TS := L2.tFor (L2.iRng1 (L2.tCons (L2.tVar 3) L2.tNil)) (L2.gName 6) (tl_L_word_by_10 K)
noncomputable def tl_L_word_by_12 (K : PySem.W.Frag) : TS := L2.tSeq (tl_L_word_by_11 K) (L2.tRet (L2.tVar 5))
noncomputable def tl_L_word_by_13 (K : PySem.W.Frag) : TS := L2.tSeq (L2.tAsg (L2.tTup L2.tNil) (L2.gName 5)) (tl_L_word_by_12 K)
noncomputable def tl_L_word_by_14 (K : PySem.W.Frag) : TS := L2.tSeq (tl_L_word_by_7 K) (tl_L_word_by_13 K)
noncomputable def tl_L_word_by_15 (K : PySem.W.Frag) : TS := L2.tSeq (tl_L_word_by_6 K) (tl_L_word_by_14 K)
noncomputable def tl_L_word_by_16 (K : PySem.W.Frag) : TS := L2.tSeq (tl_L_word_by_5 K) (tl_L_word_by_15 K)
noncomputable def tl_L_word_by_17 (K : PySem.W.Frag) : TS := L2.tSeq (tl_L_word_by_3 K) (tl_L_word_by_16 K)
noncomputable def tl_L_word_by_18 (K : PySem.W.Frag) : TS := L2.tSeq (L2.tAsg (L2.tVar 2) (L2.gName 4)) (tl_L_word_by_17 K)
noncomputable def tl_L_word_by_19 (K : PySem.W.Frag) : TS := L2.tSeq (tl_L_word_by_1 K) (tl_L_word_by_18 K)
noncomputable def tl_L_word_by_20 (K : PySem.W.Frag) : TS := L2.tSeq (tl_L_word_by_0 K) (tl_L_word_by_19 K)
theorem ok_L_word_by {f : Addr} {fd : FuncData} (F : Fun K "_law_word_by" "_law_word_by" s_L_word_by f fd) (T : Txt K mg C_HoleError C_NoShape C_NoLevel C_NoChain C_NoTable C_NoMap C_NoPair C_NoRound)  : FnOk P w K mg base CX0 1 f fd ["_law_cell", "_law_family", "_law_letters"] (sp_L_word_by K) := by
  refine F.ok sc_L_word_by (fun vs H Q E h => ?_) (fun cdv A outer s H vs Q E hr h => ?_)
  · obtain ⟨c, fam, letters, rfl, hl0, hl1, hf, k⟩ := h
    rfl
  · obtain ⟨c, fam, letters, rfl, hl0, hl1, hf, k⟩ := h
    refine ⟨tl_L_word_by_20 K, (pss_cons (ps_set (i := 0) nd_L_word_by (by rfl) (by first | exact Or.inl rfl | exact Or.inr rfl) (pe_op op_mod (pv 0) pe_int))
      (pss_cons (ps_set (i := 3) nd_L_word_by (by rfl) (by first | exact Or.inl rfl | exact Or.inr rfl) (pe_op op_mod (pv 0) pe_int))
      (pss_cons (ps_set (i := 4) nd_L_word_by (by rfl) (by first | exact Or.inl rfl | exact Or.inr rfl) (pv 2))
      (pss_cons (ps_if (pt_cmpR op_eq (pv 1) pe_int (nomark _)) (pss_one (ps_set (i := 3) nd_L_word_by (by rfl) (by first | exact Or.inl rfl | exact Or.inr rfl) (pe_op op_add (pv 3) pe_int))) pss_nil)
      (pss_cons (ps_if (PW.pt (pw_and (pt_cmpR op_lt (pv 1) pe_int (nomark _)) (pw_and1 (pt_cmpR op_ne (pv 3) pe_int (nomark _))))) (pss_one (ps_set (i := 3) nd_L_word_by (by rfl) (by first | exact Or.inl rfl | exact Or.inr rfl) pe_int)) pss_nil)
      (pss_cons (ps_if (pt_cmpR op_gt (pv 1) pe_int (nomark _)) (pss_one (ps_set (i := 4) nd_L_word_by (by rfl) (by first | exact Or.inl rfl | exact Or.inr rfl) (pv 1))) pss_nil)
      (pss_cons (ps_set (i := 0) nd_L_word_by (by rfl) (by first | exact Or.inl rfl | exact Or.inr rfl) (pe_op op_fdiv (pv 0) pe_int))
      (pss_cons (ps_set (i := 5) nd_L_word_by (by rfl) (by first | exact Or.inl rfl | exact Or.inr rfl) (pe_tup pa_nil))
      (pss_cons (ps_for PassesOwn.never rfl (pi_range1 (by rfl) T.n_range (pa_cons (pv 3) pa_nil)) (pg_name (i := 6) nd_L_word_by (by rfl) (by first | exact Or.inl rfl | exact Or.inr rfl)) (pss_cons (ps_set (i := 5) nd_L_word_by (by rfl) (by first | exact Or.inl rfl | exact Or.inr rfl) (pe_op (kop_catW (K := K)) (pv 5) (pe_tup (pa_cons (pe_op op_mod (pv 0) (pv 4)) pa_nil))))
      (pss_one (ps_set (i := 0) nd_L_word_by (by rfl) (by first | exact Or.inl rfl | exact Or.inr rfl) (pe_op op_fdiv (pv 0) (pv 4))))))
      (pss_one (ps_ret (pv 5)))))))))))), ?_⟩
    have m1 : 0 ≤ c % 1000000 % 4 := Int.emod_nonneg _ (by decide)
    have m2 : c % 1000000 % 4 < 4 := Int.emod_lt_of_pos _ (by decide)
    refine ⟨_, rfl, _, _, rfl, rfl, (by show (0 : Int) < 1000000; decide), ?_⟩
    refine ⟨_, rfl, _, _, rfl, rfl, (by show (0 : Int) < 4; decide), ?_⟩
    refine ⟨_, rfl, ?_⟩
    have fork : (fam = 0) ∨ (fam < 0 ∧ c % 1000000 % 4 = 1) ∨ (fam < 0 ∧ ¬ c % 1000000 % 4 = 1) ∨ 0 < fam := by omega
    have nofam : ¬ fam = 0 → ¬ (decide (V.int fam = V.int 0) = true) := fun z q => z (by simpa using q)
    have isfam : fam = 0 → decide (V.int fam = V.int 0) = true := fun z => by simp [z]
    have hb0 : 0 < letters := hl0
    have hb1 : letters < 1073741824 := by omega
    rcases fork with hz | ⟨hz, h1⟩ | ⟨hz, h1⟩ | hz
    · refine ⟨_, rfl, rfl, _, rfl, ?_⟩
      refine ifP (isfam hz) ?_
      refine ⟨_, rfl, _, _, rfl, rfl, ?_⟩
      refine ⟨_, rfl, _, _, rfl, rfl, _, rfl, ?_⟩
      refine ifN (by simp; omega) ?_
      refine ifN (by simp) ?_
      refine ⟨_, rfl, _, _, rfl, rfl, _, rfl, ?_⟩
      refine ifN (by simp; omega) ?_
      have hW : ∀ w : List Int, w.length = (c % 1000000 % 4 + 1).toNat → Word fam w := fun w e => .inl ⟨hz, by omega, by omega⟩
      refine ⟨_, rfl, _, _, rfl, rfl, ⟨by decide, by decide⟩, Nat.zero_le _, fun p0 hp0 => ?_⟩
      refine ⟨_, rfl, _, rfl, by omega, by omega, ?_⟩
      refine for_range (lo := 0) (n := (c % 1000000 % 4 + 1 : Int).toNat)
        (fun i σ H2 => ∃ (c' : Int) (v : V) (o : Option V) (w : List Int), σ = [some (.int c'), some (.int fam), some (.int letters), some (.int (c % 1000000 % 4 + 1)), some (.int letters), some v, o] ∧ Same H H2 ∧ TI K H2 v w ∧ w.length = i)
        ⟨_, _, none, [], rfl, Same.new hp0, TI.mk (.of upd_same), rfl⟩ ?_ ?_
      · rintro i σ H2 hi ⟨c', v, o, w, rfl, s2, tv, hwl⟩
        obtain ⟨a, rfl, hqa⟩ := tv.sq
        refine ⟨_, rfl, _, rfl, _, rfl, _, _, rfl, rfl, hb0, smallE (by simp), fun pt hpt => ?_⟩
        have s3 : Same H2 (upd H2 pt (.tup [.int (c' % letters)])) := Same.new hpt
        refine ⟨a, pt, _, _, rfl, rfl, s3.seqT hqa, .of upd_same, smallE (by simp; omega), fun p3 H3 s4 q3 => ?_⟩
        refine ⟨_, rfl, _, rfl, _, _, rfl, rfl, ⟨hb0, hb1⟩, ?_⟩
        refine ⟨_, _, _, w ++ [c' % letters], rfl, (s2.trans s3).trans s4, TI.mk ?_, by simp [hwl]⟩
        rw [List.map_append]
        exact q3
      · rintro σ H2 ⟨c', v, o, w, rfl, s2, tv, hwl⟩
        exact ⟨_, rfl, k v H2 w s2 tv (hW w hwl)⟩
    · refine ⟨_, rfl, rfl, _, rfl, ?_⟩
      refine ifN (nofam (by omega)) ?_
      refine ⟨_, rfl, _, _, rfl, rfl, _, rfl, ?_⟩
      refine ifP (by simp; omega) ?_
      refine ⟨_, rfl, rfl, _, rfl, ?_⟩
      refine ifN (eqI h1) ?_
      refine ⟨_, rfl, _, _, rfl, rfl, _, rfl, ?_⟩
      refine ifN (by simp; omega) ?_
      have hW : ∀ w : List Int, w.length = (c % 1000000 % 4).toNat → Word fam w := fun w e => .inr (.inl ⟨hz, by omega⟩)
      refine ⟨_, rfl, _, _, rfl, rfl, ⟨by decide, by decide⟩, Nat.zero_le _, fun p0 hp0 => ?_⟩
      refine ⟨_, rfl, _, rfl, by omega, by omega, ?_⟩
      refine for_range (lo := 0) (n := (c % 1000000 % 4 : Int).toNat)
        (fun i σ H2 => ∃ (c' : Int) (v : V) (o : Option V) (w : List Int), σ = [some (.int c'), some (.int fam), some (.int letters), some (.int (c % 1000000 % 4)), some (.int letters), some v, o] ∧ Same H H2 ∧ TI K H2 v w ∧ w.length = i)
        ⟨_, _, none, [], rfl, Same.new hp0, TI.mk (.of upd_same), rfl⟩ ?_ ?_
      · rintro i σ H2 hi ⟨c', v, o, w, rfl, s2, tv, hwl⟩
        obtain ⟨a, rfl, hqa⟩ := tv.sq
        refine ⟨_, rfl, _, rfl, _, rfl, _, _, rfl, rfl, hb0, smallE (by simp), fun pt hpt => ?_⟩
        have s3 : Same H2 (upd H2 pt (.tup [.int (c' % letters)])) := Same.new hpt
        refine ⟨a, pt, _, _, rfl, rfl, s3.seqT hqa, .of upd_same, smallE (by simp; omega), fun p3 H3 s4 q3 => ?_⟩
        refine ⟨_, rfl, _, rfl, _, _, rfl, rfl, ⟨hb0, hb1⟩, ?_⟩
        refine ⟨_, _, _, w ++ [c' % letters], rfl, (s2.trans s3).trans s4, TI.mk ?_, by simp [hwl]⟩
        rw [List.map_append]
        exact q3
      · rintro σ H2 ⟨c', v, o, w, rfl, s2, tv, hwl⟩
        exact ⟨_, rfl, k v H2 w s2 tv (hW w hwl)⟩
    · refine ⟨_, rfl, rfl, _, rfl, ?_⟩
      refine ifN (nofam (by omega)) ?_
      refine ⟨_, rfl, _, _, rfl, rfl, _, rfl, ?_⟩
      refine ifP (by simp; omega) ?_
      refine ⟨_, rfl, rfl, _, rfl, ?_⟩
      refine ifP (neI h1) ?_
      refine ⟨_, rfl, _, _, rfl, rfl, _, rfl, ?_⟩
      refine ifN (by simp; omega) ?_
      have hW : ∀ w : List Int, w.length = (3 : Int).toNat → Word fam w := fun w e => .inr (.inl ⟨hz, .inr (.inr e)⟩)
      refine ⟨_, rfl, _, _, rfl, rfl, ⟨by decide, by decide⟩, Nat.zero_le _, fun p0 hp0 => ?_⟩
      refine ⟨_, rfl, _, rfl, by omega, by omega, ?_⟩
      refine for_range (lo := 0) (n := (3 : Int).toNat)
        (fun i σ H2 => ∃ (c' : Int) (v : V) (o : Option V) (w : List Int), σ = [some (.int c'), some (.int fam), some (.int letters), some (.int (3)), some (.int letters), some v, o] ∧ Same H H2 ∧ TI K H2 v w ∧ w.length = i)
        ⟨_, _, none, [], rfl, Same.new hp0, TI.mk (.of upd_same), rfl⟩ ?_ ?_
      · rintro i σ H2 hi ⟨c', v, o, w, rfl, s2, tv, hwl⟩
        obtain ⟨a, rfl, hqa⟩ := tv.sq
        refine ⟨_, rfl, _, rfl, _, rfl, _, _, rfl, rfl, hb0, smallE (by simp), fun pt hpt => ?_⟩
        have s3 : Same H2 (upd H2 pt (.tup [.int (c' % letters)])) := Same.new hpt
        refine ⟨a, pt, _, _, rfl, rfl, s3.seqT hqa, .of upd_same, smallE (by simp; omega), fun p3 H3 s4 q3 => ?_⟩
        refine ⟨_, rfl, _, rfl, _, _, rfl, rfl, ⟨hb0, hb1⟩, ?_⟩
        refine ⟨_, _, _, w ++ [c' % letters], rfl, (s2.trans s3).trans s4, TI.mk ?_, by simp [hwl]⟩
        rw [List.map_append]
        exact q3
      · rintro σ H2 ⟨c', v, o, w, rfl, s2, tv, hwl⟩
        exact ⟨_, rfl, k v H2 w s2 tv (hW w hwl)⟩
    · refine ⟨_, rfl, rfl, _, rfl, ?_⟩
      refine ifN (nofam (by omega)) ?_
      refine ⟨_, rfl, _, _, rfl, rfl, _, rfl, ?_⟩
      refine ifN (by simp; omega) ?_
      refine ifN (by simp) ?_
      refine ⟨_, rfl, _, _, rfl, rfl, _, rfl, ?_⟩
      refine ifP (by simp; omega) ?_
      refine ⟨_, rfl, ?_⟩
      have hW : ∀ w : List Int, w.length = (c % 1000000 % 4).toNat → Word fam w := fun w e => .inr (.inr ⟨hz, by omega⟩)
      have hb0 : 0 < fam := hz
      have hb1 : fam < 1073741824 := by omega
      refine ⟨_, rfl, _, _, rfl, rfl, ⟨by decide, by decide⟩, Nat.zero_le _, fun p0 hp0 => ?_⟩
      refine ⟨_, rfl, _, rfl, by omega, by omega, ?_⟩
      refine for_range (lo := 0) (n := (c % 1000000 % 4 : Int).toNat)
        (fun i σ H2 => ∃ (c' : Int) (v : V) (o : Option V) (w : List Int), σ = [some (.int c'), some (.int fam), some (.int letters), some (.int (c % 1000000 % 4)), some (.int fam), some v, o] ∧ Same H H2 ∧ TI K H2 v w ∧ w.length = i)
        ⟨_, _, none, [], rfl, Same.new hp0, TI.mk (.of upd_same), rfl⟩ ?_ ?_
      · rintro i σ H2 hi ⟨c', v, o, w, rfl, s2, tv, hwl⟩
        obtain ⟨a, rfl, hqa⟩ := tv.sq
        refine ⟨_, rfl, _, rfl, _, rfl, _, _, rfl, rfl, hb0, smallE (by simp), fun pt hpt => ?_⟩
        have s3 : Same H2 (upd H2 pt (.tup [.int (c' % fam)])) := Same.new hpt
        refine ⟨a, pt, _, _, rfl, rfl, s3.seqT hqa, .of upd_same, smallE (by simp; omega), fun p3 H3 s4 q3 => ?_⟩
        refine ⟨_, rfl, _, rfl, _, _, rfl, rfl, ⟨hb0, hb1⟩, ?_⟩
        refine ⟨_, _, _, w ++ [c' % fam], rfl, (s2.trans s3).trans s4, TI.mk ?_, by simp [hwl]⟩
        rw [List.map_append]
        exact q3
      · rintro σ H2 ⟨c', v, o, w, rfl, s2, tv, hwl⟩
        exact ⟨_, rfl, k v H2 w s2 tv (hW w hwl)⟩
noncomputable abbrev s_L_number_by : Stmt := top 34
theorem sc_L_number_by : FnScope ["_law_cell"] ["_law_cell"] (defScope s_L_number_by) := ⟨rfl, rfl, rfl, by decide +kernel, rfl, by decide +kernel, by decide +kernel⟩
theorem nd_L_number_by : (["_law_cell"] : List Str).Nodup := by decide +kernel

theorem ok_L_number_by {f : Addr} {fd : FuncData} (F : Fun K "_law_number_by" "_law_number_by" s_L_number_by f fd) (T : Txt K mg C_HoleError C_NoShape C_NoLevel C_NoChain C_NoTable C_NoMap C_NoPair C_NoRound)  : FnOk P w K mg base CX0 1 f fd ["_law_cell"] (sp_L_number_by K) := by
  refine F.ok sc_L_number_by (fun vs H Q E h => ?_) (fun cdv A outer s H vs Q E hr h => ?_)
  · obtain ⟨c, rfl, kq⟩ := h
    rfl
  · obtain ⟨c, rfl, kq⟩ := h
    refine ⟨_, (pss_cons (ps_set (i := 0) nd_L_number_by (by rfl) (by first | exact Or.inl rfl | exact Or.inr rfl) (pe_op op_mod (pv 0) (pe_op op_pow pe_int pe_int)))
      (pss_cons (ps_if (pt_cmpR op_eq (pe_op op_mod (pv 0) pe_int) pe_int (nomark _)) (pss_one (ps_ret (pe_op op_sub (pe_op op_mod (pe_op op_mulX (pv 0) pe_int) pe_int) pe_int))) pss_nil)
      (pss_one (ps_ret (pe_op op_sub (pe_op op_mod (pe_op op_fdiv (pv 0) pe_int) pe_int) pe_int))))), ?_⟩
    have h40 : (0 : Int) < (10 : Int) ^ (40 : Int).toNat := by decide +kernel
    refine ⟨_, rfl, _, _, rfl, rfl, ⟨by decide, by decide, by decide⟩, _, _, rfl, rfl, h40, ?_⟩
    have e40 : (10 : Int) ^ (40 : Int).toNat = 10000000000000000000000000000000000000000 := by decide +kernel
    obtain ⟨d, hd⟩ : ∃ d, d = c % (10 : Int) ^ (40 : Int).toNat := ⟨_, rfl⟩
    have d0 : 0 ≤ d := by rw [hd]; exact Int.emod_nonneg _ (by rw [e40]; decide)
    have d1 : d < 10000000000000000000000000000000000000000 := by rw [hd, e40]; exact Int.emod_lt_of_pos _ (by decide)
    have hdb : d.natAbs < 2 ^ 140 := by
      have : d.natAbs < 10000000000000000000000000000000000000000 := by omega
      exact Nat.lt_trans this (by decide +kernel)
    refine tSeq_cut (fun σ' H' => σ' = [some (.int d)] ∧ H = H') ?_ fun key0 => key0 _ _ ⟨by rw [hd] <;> rfl, rfl⟩
    rintro _ _ ⟨rfl, rfl⟩
    refine ⟨_, rfl, _, _, rfl, rfl, (by show (0 : Int) < 4; decide), rfl, _, rfl, ?_⟩
    refine ite2 (fun h1 => ?_) (fun h1 => ?_)
    · refine ⟨_, rfl, _, _, rfl, rfl, mulok (n := 70) hdb (by decide +kernel) (by decide), _, _, rfl, rfl, (by show (0 : Int) < 100000000000000000039; decide), _, _, rfl, rfl, kq _ ?_⟩
      have z0 : 0 ≤ d * 48271482714827148271 % 100000000000000000039 := Int.emod_nonneg _ (by decide)
      have z1 : d * 48271482714827148271 % 100000000000000000039 < 100000000000000000039 := Int.emod_lt_of_pos _ (by decide)
      have : (d * 48271482714827148271 % 100000000000000000039 - 50000000000000000019).natAbs < 100000000000000000039 := by omega
      exact Nat.lt_trans this (by decide +kernel)
    · refine ⟨_, rfl, _, _, rfl, rfl, ⟨by decide, by decide⟩, _, _, rfl, rfl, (by show (0 : Int) < 9; decide), _, _, rfl, rfl, kq _ ?_⟩
      have z0 : 0 ≤ d / 4 % 9 := Int.emod_nonneg _ (by decide)
      have z1 : d / 4 % 9 < 9 := Int.emod_lt_of_pos _ (by decide)
      have : (d / 4 % 9 - 4).natAbs < 9 := by omega
      exact Nat.lt_trans this (by decide +kernel)
noncomputable abbrev s_L_spots_of : Stmt := top 35
theorem sc_L_spots_of : FnScope ["_law_shape", "_law_k", "_law_sizes", "_law_spots", "_law_at"] ["_law_shape", "_law_k"] (defScope s_L_spots_of) := ⟨rfl, rfl, rfl, by decide +kernel, rfl, by decide +kernel, by decide +kernel⟩
theorem nd_L_spots_of : (["_law_shape", "_law_k", "_law_sizes", "_law_spots", "_law_at"] : List Str).Nodup := by decide +kernel

noncomputable def tl_L_spots_of_0 (K : PySem.W.Frag) : TS := L2.tAsg
  (L2.tLst
    (L2.tCons (L2.tC (L2.V.int 1))
      (L2.tCons (L2.tC (L2.V.int 2))
        (L2.tCons (L2.tC (L2.V.int 3)) (L2.tCons (L2.tC (L2.V.int 4)) (L2.tCons (L2.tC (L2.V.int 5)) L2.tNil))))))
  (L2.gName 2)
noncomputable def tl_L_spots_of_1 (K : PySem.W.Frag) : TS := L2.tDrop (L2.tBM K "list" L2.rAppend (L2.tVar 3) (L2.tCons (L2.tVar 4) L2.tNil))
noncomputable def tl_L_spots_of_2 (K : PySem.W.Frag) : TS := L2.tIfS
  (L2.tOr
    (L2.tTest
      (L2.tOp L2.rEq
        (L2.tCB
          (fun (xs : List L2.V) (H : L2.Hp) (Q : L2.VK) ↦
            ∃ (p : PySem.Addr),
              ∃ (ys : List L2.V), xs = [L2.V.ref p] ∧ (L2.SqL K H p ys ∨ L2.SqT K H p ys) ∧ Q (L2.V.int ↑ys.length) H)
          (L2.tCons (L2.tOp (L2.rIxL K) (L2.tVar 0) (L2.tVar 4)) L2.tNil))
        (L2.tOp (L2.rIxL K) (L2.tVar 2) (L2.tVar 1))))
    (L2.tAnd (L2.tTest (L2.tOp L2.rEq (L2.tVar 1) (L2.tC (L2.V.int 0))))
      (L2.tTest
        (L2.tOp L2.rEq
          (L2.tCB
            (fun (xs : List L2.V) (H : L2.Hp) (Q : L2.VK) ↦
              ∃ (p : PySem.Addr),
                ∃ (ys : List L2.V), xs = [L2.V.ref p] ∧ (L2.SqL K H p ys ∨ L2.SqT K H p ys) ∧ Q (L2.V.int ↑ys.length) H)
            (L2.tCons (L2.tOp (L2.rIxL K) (L2.tVar 0) (L2.tVar 4)) L2.tNil))
          (L2.tC (L2.V.int 0))))))
  (tl_L_spots_of_1 K) L2.tNext
noncomputable def tl_L_spots_of_3 (K : PySem.W.Frag) : TS := L2.tFor
  (L2.iRng1
    (L2.tCons
      (L2.tCB
        (fun (xs : List L2.V) (H : L2.Hp) (Q : L2.VK) ↦
          ∃ (p : PySem.Addr),
            ∃ (ys : List L2.V), xs = [L2.V.ref p] ∧ (L2.SqL K H p ys ∨ L2.SqT K H p ys) ∧ Q (L2.V.int ↑ys.length) H)
        (L2.tCons (L2.tVar 0) L2.tNil))
      L2.tNil))
  (L2.gName 4) (tl_L_spots_of_2 K)
noncomputable def tl_L_spots_of_4 (K : PySem.W.Frag) : TS := L2.tSeq (tl_L_spots_of_3 K) (L2.tRet (L2.tVar 3))
noncomputable def tl_L_spots_of_5 (K : PySem.W.Frag) : TS := L2.tSeq (L2.tAsg (L2.tLst L2.tNil) (L2.gName 3)) (tl_L_spots_of_4 K)
noncomputable def tl_L_spots_of_6 (K : PySem.W.Frag) : TS := L2.tSeq (tl_L_spots_of_0 K) (tl_L_spots_of_5 K)
theorem ok_L_spots_of {f : Addr} {fd : FuncData} (F : Fun K "_law_spots_of" "_law_spots_of" s_L_spots_of f fd) (T : Txt K mg C_HoleError C_NoShape C_NoLevel C_NoChain C_NoTable C_NoMap C_NoPair C_NoRound)  : FnOk P w K mg base CX0 1 f fd ["_law_shape", "_law_k"] (sp_L_spots_of K) := by
  refine F.ok sc_L_spots_of (fun vs H Q E h => ?_) (fun cdv A outer s H vs Q E hr h => ?_)
  · obtain ⟨a, xs, k, rfl, hL, h0, h5, hxl, kq⟩ := h
    rfl
  · obtain ⟨a, xs, k, rfl, hL, h0, h5, hxl, kq⟩ := h
    refine ⟨tl_L_spots_of_6 K, (pss_cons (ps_set (i := 2) nd_L_spots_of (by rfl) (by first | exact Or.inl rfl | exact Or.inr rfl) (pe_lst (pa_cons pe_int (pa_cons pe_int (pa_cons pe_int (pa_cons pe_int (pa_cons pe_int pa_nil)))))))
      (pss_cons (ps_set (i := 3) nd_L_spots_of (by rfl) (by first | exact Or.inl rfl | exact Or.inr rfl) (pe_lst pa_nil))
      (pss_cons (ps_for PassesOwn.never rfl (pi_range1 (by rfl) T.n_range (pa_cons (pe_callB (kcall_len_seq (K := K)) (by rfl) T.n_len PySem.boot_len (pa_cons (pv 0) pa_nil)) pa_nil)) (pg_name (i := 4) nd_L_spots_of (by rfl) (by first | exact Or.inl rfl | exact Or.inr rfl)) (pss_one (ps_if (PW.pt (pw_or (pt_cmpR op_eq (pe_callB (kcall_len_seq (K := K)) (by rfl) T.n_len PySem.boot_len (pa_cons (pe_ix (kix_list (K := K)) (pv 0) (pv 4) (fun _ _ => rfl)) pa_nil)) (pe_ix (kix_list (K := K)) (pv 2) (pv 1) (fun _ _ => rfl)) (nomark _)) (pw_or1 (PW.pt (pw_and (pt_cmpR op_eq (pv 1) pe_int (nomark _)) (pw_and1 (pt_cmpR op_eq (pe_callB (kcall_len_seq (K := K)) (by rfl) T.n_len PySem.boot_len (pa_cons (pe_ix (kix_list (K := K)) (pv 0) (pv 4) (fun _ _ => rfl)) pa_nil)) pe_int (nomark _)))))))) (pss_one (ps_expr (kpe_bm (K := K) PySem.F.plainAttrs_list PySem.F.slot_list_append PySem.F.type_list_append mt_append (pv 3) (pa_cons (pv 4) pa_nil)))) pss_nil)))
      (pss_one (ps_ret (pv 3)))))), ?_⟩
    obtain ⟨_, us, z, hq, r⟩ := id hL
    cases z
    have usl : us.length = xs.length := by have := r.length; simpa using this
    refine ⟨smallE (by simp), fun z1 hz1 => ?_⟩
    have s1 : Same H (upd H z1 (.lst [.int 1, .int 2, .int 3, .int 4, .int 5])) := Same.new hz1
    have hz : (upd H z1 (.lst [.int 1, .int 2, .int 3, .int 4, .int 5])) z1 = some (.lst [.int 1, .int 2, .int 3, .int 4, .int 5]) := upd_same
    generalize upd H z1 (.lst [.int 1, .int 2, .int 3, .int 4, .int 5]) = H1 at s1 hz
    refine ⟨smallE (by simp), fun D hD => ?_⟩
    have s2 : Same H1 (upd H1 D (.lst [])) := Same.new hD
    have hat : atI [V.int 1, V.int 2, V.int 3, V.int 4, V.int 5] k = some (.int (k + 1)) := by
      have : k = 0 ∨ k = 1 ∨ k = 2 ∨ k = 3 ∨ k = 4 := by omega
      rcases this with e | e | e | e | e <;> subst e <;> rfl
    refine ⟨_, rfl, a, us, rfl, .inl ((s1.trans s2).seq hq), _, rfl, by omega, by omega, ?_⟩
    refine for_range (lo := 0) (n := (us.length : Int).toNat) (fun j σ G => ∃ o, σ = [some (.ref a), some (.int k), some (.ref z1), some (.ref D), o] ∧ Same H1 G ∧ G D = some (.lst ((spN xs k j).map V.int)))
      ⟨none, rfl, s2, upd_same⟩ ?_ ?_
    · rintro j σ G hj ⟨o, rfl, s3, hDG⟩
      have hj2 : j < xs.length := by omega
      rw [show (0 : Int) + (j : Int) = (j : Int) by omega]
      obtain ⟨us', v, hus', hv, tv⟩ := LT.get (Rep.same (s1.trans s3) hL) (i := (j : Int)) (by omega) (by omega)
      rw [Int.toNat_natCast] at tv
      obtain ⟨b, rfl, hb⟩ := TI.sq tv
      have spl := spN_len xs k j
      have yes : lenOk (xs.getD j []).length k = true → ∀ (o : Option V), ∃ o, ([some (.ref a), some (.int k), some (.ref z1), some (.ref D), some (.int (j : Int))] : St) = [some (.ref a), some (.int k), some (.ref z1), some (.ref D), o] ∧ Same H1 (upd G D (.lst ((spN xs k j).map V.int ++ [.int (j : Int)]))) ∧ (upd G D (.lst ((spN xs k j).map V.int ++ [.int (j : Int)]))) D = some (.lst ((spN xs k (j + 1)).map V.int)) := by
        intro hy _
        refine ⟨_, rfl, s3.turn hD, ?_⟩
        rw [upd_same, spN_yes hy, List.map_append]
        rfl
      refine ⟨_, rfl, _, rfl, a, us', _, _, rfl, rfl, hus', hv, b, _, rfl, .inr hb, _, rfl, _, rfl, z1, _, _, _, rfl, rfl, .of (s3 _ _ hz), hat, rfl, _, rfl, ?_⟩
      refine ite2 (fun h1 => ?_) (fun h1 => ?_)
      · have e : lenOk (xs.getD j []).length k = true := by
          unfold lenOk
          have : (((xs.getD j []).map V.int).length : Int) = k + 1 := by simpa using h1
          rw [List.length_map] at this
          rw [decide_eq_true this]
          rfl
        refine ifP rfl ?_
        refine ⟨_, rfl, .inl ⟨rfl, _, .of hDG⟩, _, rfl, D, _, _, rfl, rfl, hDG, small (by rw [List.length_map]; omega), ?_⟩
        exact yes e none
      · have n1 : ¬ ((xs.getD j []).length : Int) = k + 1 := by
          intro q
          apply h1
          rw [List.length_map, q]
          simp
        have no : ¬ lenOk (xs.getD j []).length k = true → ∀ (o : Option V), ∃ o, ([some (.ref a), some (.int k), some (.ref z1), some (.ref D), some (.int (j : Int))] : St) = [some (.ref a), some (.int k), some (.ref z1), some (.ref D), o] ∧ Same H1 G ∧ G D = some (.lst ((spN xs k (j + 1)).map V.int)) := by
          intro hn _
          refine ⟨_, rfl, s3, ?_⟩
          rw [spN_no hn]
          exact hDG
        refine ⟨_, rfl, rfl, _, rfl, ?_⟩
        refine ite2 (fun h2 => ?_) (fun h2 => ?_)
        · have k0 : k = 0 := by simpa using h2
          refine ⟨_, rfl, _, rfl, a, us', _, _, rfl, rfl, hus', hv, b, _, rfl, .inr hb, rfl, _, rfl, ?_⟩
          refine ite2 (fun h3 => ?_) (fun h3 => ?_)
          · have e : lenOk (xs.getD j []).length k = true := by
              unfold lenOk
              have : (((xs.getD j []).map V.int).length : Int) = 0 := by simpa using h3
              rw [List.length_map] at this
              rw [decide_eq_true k0, decide_eq_true (show (xs.getD j []).length = 0 by omega)]
              simp
            refine ⟨_, rfl, .inl ⟨rfl, _, .of hDG⟩, _, rfl, D, _, _, rfl, rfl, hDG, small (by rw [List.length_map]; omega), ?_⟩
            exact yes e none
          · refine no ?_ none
            unfold lenOk
            have n2 : ¬ (xs.getD j []).length = 0 := by
              intro q
              apply h3
              rw [List.length_map, q]
              simp
            rw [decide_eq_false n1, decide_eq_false n2]
            simp
        · refine ifN (by simp) ?_
          refine no ?_ none
          have k0 : ¬ k = 0 := by simpa using h2
          unfold lenOk
          rw [decide_eq_false n1, decide_eq_false k0]
          simp
    · rintro σ G ⟨o, rfl, s3, hDG⟩
      refine ⟨_, rfl, kq D G (s1.free hD) (s1.trans s3) ?_⟩
      rw [hDG, show ((us.length : Int)).toNat = xs.length by omega]
      rfl
noncomputable abbrev s_L_spoilt : Stmt := top 37
theorem sc_L_spoilt : FnScope ["_law_shape", "_law_spots", "_law_chain", "_law_cell", "_law_way", "_law_others", "_law_key", "_law_number", "_law_made", "_law_place"] ["_law_shape", "_law_spots", "_law_chain", "_law_cell"] (defScope s_L_spoilt) := ⟨rfl, rfl, rfl, by decide +kernel, rfl, by decide +kernel, by decide +kernel⟩
theorem nd_L_spoilt : (["_law_shape", "_law_spots", "_law_chain", "_law_cell", "_law_way", "_law_others", "_law_key", "_law_number", "_law_made", "_law_place"] : List Str).Nodup := by decide +kernel

noncomputable def tl_L_spoilt_0 (K : PySem.W.Frag) : TS := L2.tAsg (L2.tOp (L2.rI (fun (x j : Int) ↦ 0 < j) fun (i j : Int) ↦ L2.V.int (i % j)) (L2.tVar 3) (L2.tC (L2.V.int 16)))
  (L2.gName 4)
noncomputable def tl_L_spoilt_1 (K : PySem.W.Frag) : TS := L2.tAsg (L2.tC (L2.V.int 8)) (L2.gName 4)
noncomputable def tl_L_spoilt_2 (K : PySem.W.Frag) : TS := L2.tIfS
  (L2.tTest (L2.tOp (L2.rI0 fun (i j : Int) ↦ L2.V.bl (Decidable.decide (j < i))) (L2.tVar 4) (L2.tC (L2.V.int 12))))
  (tl_L_spoilt_1 K) L2.tNext
noncomputable def tl_L_spoilt_3 (K : PySem.W.Frag) : TS := L2.tRet
  (L2.tOp (L2.rIxL K)
    (L2.tLst
      (L2.tCons
        (L2.tCB
          (fun (xs : List L2.V) (H : L2.Hp) (Q : L2.VK) ↦
            ∃ (p : PySem.Addr),
              ∃ (d : PySem.Addr),
                ∃ (kvs : List (L2.Key × L2.V)),
                  xs = [L2.V.ref p] ∧
                    H p = Option.some (L2.VwO p d) ∧
                      H d = Option.some (L2.HO.dK kvs) ∧
                        ∀ (q : PySem.Addr) (us : List L2.V),
                          H q = Option.none → us.length = kvs.length → Q (L2.V.ref q) (L2.upd H q (L2.HO.lst us)))
          (L2.tCons (L2.tItems (L2.tVar 2)) L2.tNil))
        (L2.tCons (L2.tC L2.V.non)
          (L2.tCons
            (L2.tCB
              (fun (xs : List L2.V) (H : L2.Hp) (Q : L2.VK) ↦
                ∃ (a : PySem.Addr),
                  xs = [L2.V.ref a] ∧
                    ((∃ (kvs : List (L2.Key × L2.V)), L2.Rd H a (L2.HO.dK kvs) ∧ Q (L2.V.int ↑kvs.length) H) ∨
                      ∃ (kvs : List (L2.V × L2.V)),
                        L2.OddOf H a kvs ∧ kvs.length ≤ PySem.sizeLine ∧ Q (L2.V.int ↑kvs.length) H))
              (L2.tCons (L2.tVar 2) L2.tNil))
            L2.tNil))))
    (L2.tOp (L2.rI0 fun (i j : Int) ↦ L2.V.int (i - j)) (L2.tVar 4) (L2.tC (L2.V.int 10))))
noncomputable def tl_L_spoilt_4 (K : PySem.W.Frag) : TS := L2.tIfS
  (L2.tTest (L2.tOp (L2.rI0 fun (i j : Int) ↦ L2.V.bl (Decidable.decide (j < i))) (L2.tVar 4) (L2.tC (L2.V.int 9)))) (tl_L_spoilt_3 K)
  L2.tNext
noncomputable def tl_L_spoilt_5 (K : PySem.W.Frag) : TS := L2.tAsg
  (L2.tComp
    (L2.iRng1
      (L2.tCons
        (L2.tCB
          (fun (xs : List L2.V) (H : L2.Hp) (Q : L2.VK) ↦
            ∃ (p : PySem.Addr),
              ∃ (ys : List L2.V), xs = [L2.V.ref p] ∧ (L2.SqL K H p ys ∨ L2.SqT K H p ys) ∧ Q (L2.V.int ↑ys.length) H)
          (L2.tCons (L2.tVar 0) L2.tNil))
        L2.tNil))
    [Option.none, Option.some 1] (L2.gName 0) (L2.tTest (L2.tOp (L2.rInD K 8 Bool.true) (L2.tVar 0) (L2.tVar 1)))
    (L2.tVar 0))
  (L2.gName 5)
noncomputable def tl_L_spoilt_6 (K : PySem.W.Frag) : TS := L2.tAsg
  (L2.tOp (L2.rI0 fun (i j : Int) ↦ L2.V.int (i + j))
    (L2.tCB
      (fun (xs : List L2.V) (H : L2.Hp) (Q : L2.VK) ↦
        ∃ (p : PySem.Addr),
          ∃ (ys : List L2.V), xs = [L2.V.ref p] ∧ (L2.SqL K H p ys ∨ L2.SqT K H p ys) ∧ Q (L2.V.int ↑ys.length) H)
      (L2.tCons (L2.tVar 0) L2.tNil))
    (L2.tOp (L2.rI (fun (x j : Int) ↦ 0 < j) fun (i j : Int) ↦ L2.V.int (i % j))
      (L2.tOp (L2.rI L2.CDiv fun (i j : Int) ↦ L2.V.int (i / j)) (L2.tVar 3) (L2.tC (L2.V.int 13)))
      (L2.tC (L2.V.int 3))))
  (L2.gName 6)
noncomputable def tl_L_spoilt_7 (K : PySem.W.Frag) : TS := L2.tAsg
  (L2.tOp (L2.rI0 fun (i j : Int) ↦ L2.V.int (i + j)) (L2.tC (L2.V.int 1))
    (L2.tOp (L2.rI (fun (x j : Int) ↦ 0 < j) fun (i j : Int) ↦ L2.V.int (i % j))
      (L2.tOp (L2.rI L2.CDiv fun (i j : Int) ↦ L2.V.int (i / j)) (L2.tVar 3) (L2.tC (L2.V.int 39)))
      (L2.tC (L2.V.int 5))))
  (L2.gName 7)
noncomputable def tl_L_spoilt_8 (K : PySem.W.Frag) : TS := L2.tAsg
  (L2.tOp (L2.rIxL K) (L2.tVar 1)
    (L2.tOp (L2.rI (fun (x j : Int) ↦ 0 < j) fun (i j : Int) ↦ L2.V.int (i % j))
      (L2.tOp (L2.rI L2.CDiv fun (i j : Int) ↦ L2.V.int (i / j)) (L2.tVar 3) (L2.tC (L2.V.int 195)))
      (L2.tCB
        (fun (xs : List L2.V) (H : L2.Hp) (Q : L2.VK) ↦
          ∃ (p : PySem.Addr),
            ∃ (ys : List L2.V), xs = [L2.V.ref p] ∧ (L2.SqL K H p ys ∨ L2.SqT K H p ys) ∧ Q (L2.V.int ↑ys.length) H)
        (L2.tCons (L2.tVar 1) L2.tNil))))
  (L2.gName 6)
noncomputable def tl_L_spoilt_9 (K : PySem.W.Frag) : TS := L2.tAsg
  (L2.tOp (L2.rIxL K)
    (L2.tLst
      (L2.tCons (L2.tC (L2.V.int 0))
        (L2.tCons (L2.tC (L2.V.bl Bool.true))
          (L2.tCons (L2.tC L2.V.non) (L2.tCons (L2.tC (L2.V.str (PySem.Str.ofString "1"))) L2.tNil)))))
    (L2.tVar 4))
  (L2.gName 7)
noncomputable def tl_L_spoilt_10 (K : PySem.W.Frag) : TS := L2.tSeq (tl_L_spoilt_8 K) (tl_L_spoilt_9 K)
noncomputable def tl_L_spoilt_11 (K : PySem.W.Frag) : TS := L2.tIfS
  (L2.tAnd
    (L2.tTest (L2.tOp (L2.rI0 fun (i j : Int) ↦ L2.V.bl (Decidable.decide (i < j))) (L2.tVar 4) (L2.tC (L2.V.int 4))))
    (L2.tTest
      (L2.tOp (L2.rI0 fun (i j : Int) ↦ L2.V.bl (Decidable.decide (j < i)))
        (L2.tCB
          (fun (xs : List L2.V) (H : L2.Hp) (Q : L2.VK) ↦
            ∃ (p : PySem.Addr),
              ∃ (ys : List L2.V), xs = [L2.V.ref p] ∧ (L2.SqL K H p ys ∨ L2.SqT K H p ys) ∧ Q (L2.V.int ↑ys.length) H)
          (L2.tCons (L2.tVar 1) L2.tNil))
        (L2.tC (L2.V.int 0)))))
  (tl_L_spoilt_10 K) L2.tNext
noncomputable def tl_L_spoilt_12 (K : PySem.W.Frag) : TS := L2.tAsg
  (L2.tOp (L2.rIxL K) (L2.tVar 5)
    (L2.tOp (L2.rI (fun (x j : Int) ↦ 0 < j) fun (i j : Int) ↦ L2.V.int (i % j))
      (L2.tOp (L2.rI L2.CDiv fun (i j : Int) ↦ L2.V.int (i / j)) (L2.tVar 3) (L2.tC (L2.V.int 195)))
      (L2.tCB
        (fun (xs : List L2.V) (H : L2.Hp) (Q : L2.VK) ↦
          ∃ (p : PySem.Addr),
            ∃ (ys : List L2.V), xs = [L2.V.ref p] ∧ (L2.SqL K H p ys ∨ L2.SqT K H p ys) ∧ Q (L2.V.int ↑ys.length) H)
        (L2.tCons (L2.tVar 5) L2.tNil))))
  (L2.gName 6)
noncomputable def tl_L_spoilt_13 (K : PySem.W.Frag) : TS := L2.tIfS
  (L2.tAnd (L2.tTest (L2.tOp L2.rEq (L2.tVar 4) (L2.tC (L2.V.int 4))))
    (L2.tAnd
      (L2.tTest
        (L2.tOp (L2.rI0 fun (i j : Int) ↦ L2.V.bl (Decidable.decide (j < i)))
          (L2.tCB
            (fun (xs : List L2.V) (H : L2.Hp) (Q : L2.VK) ↦
              ∃ (p : PySem.Addr),
                ∃ (ys : List L2.V), xs = [L2.V.ref p] ∧ (L2.SqL K H p ys ∨ L2.SqT K H p ys) ∧ Q (L2.V.int ↑ys.length) H)
            (L2.tCons (L2.tVar 5) L2.tNil))
          (L2.tC (L2.V.int 0))))
      (L2.tTest
        (L2.tOp (L2.rI0 fun (i j : Int) ↦ L2.V.bl (Decidable.decide (j < i)))
          (L2.tCB
            (fun (xs : List L2.V) (H : L2.Hp) (Q : L2.VK) ↦
              ∃ (a : PySem.Addr),
                xs = [L2.V.ref a] ∧
                  ((∃ (kvs : List (L2.Key × L2.V)), L2.Rd H a (L2.HO.dK kvs) ∧ Q (L2.V.int ↑kvs.length) H) ∨
                    ∃ (kvs : List (L2.V × L2.V)),
                      L2.OddOf H a kvs ∧ kvs.length ≤ PySem.sizeLine ∧ Q (L2.V.int ↑kvs.length) H))
            (L2.tCons (L2.tVar 2) L2.tNil))
          (L2.tC (L2.V.int 0))))))
  (tl_L_spoilt_12 K) L2.tNext
noncomputable def tl_L_spoilt_14 (K : PySem.W.Frag) : TS := L2.tAsg
  (L2.tOp (L2.rIxL K)
    (L2.tLst
      (L2.tCons
        (L2.tOp (L2.rI0 fun (i j : Int) ↦ L2.V.int (i - j))
          (L2.tUn (L2.rU fun (i : Int) ↦ L2.V.int (-i)) (L2.tC (L2.V.int 1)))
          (L2.tOp (L2.rI (fun (x j : Int) ↦ 0 < j) fun (i j : Int) ↦ L2.V.int (i % j))
            (L2.tOp (L2.rI L2.CDiv fun (i j : Int) ↦ L2.V.int (i / j)) (L2.tVar 3) (L2.tC (L2.V.int 195)))
            (L2.tC (L2.V.int 3))))
        (L2.tCons (L2.tC (L2.V.str (PySem.Str.ofString "a")))
          (L2.tCons (L2.tC L2.V.non)
            (L2.tCons (L2.tOp (L2.rInD K 8 Bool.false) (L2.tC (L2.V.int 1)) (L2.tVar 1)) L2.tNil)))))
    (L2.tOp (L2.rI0 fun (i j : Int) ↦ L2.V.int (i - j)) (L2.tVar 4) (L2.tC (L2.V.int 5))))
  (L2.gName 6)
noncomputable def tl_L_spoilt_15 (K : PySem.W.Frag) : TS := L2.tIfS
  (L2.tAnd
    (L2.tTest (L2.tOp (L2.rI0 fun (i j : Int) ↦ L2.V.bl (Decidable.decide (j < i))) (L2.tVar 4) (L2.tC (L2.V.int 4))))
    (L2.tTest (L2.tOp (L2.rI0 fun (i j : Int) ↦ L2.V.bl (Decidable.decide (i < j))) (L2.tVar 4) (L2.tC (L2.V.int 9)))))
  (tl_L_spoilt_14 K) L2.tNext
noncomputable def tl_L_spoilt_16 (K : PySem.W.Frag) : TS := L2.tAsg (L2.tTup (L2.tCons (L2.tC (L2.V.int 0)) L2.tNil)) (L2.gName 6)
noncomputable def tl_L_spoilt_17 (K : PySem.W.Frag) : TS := L2.tIfS (L2.tTest (L2.tOp L2.rEq (L2.tVar 4) (L2.tC (L2.V.int 9)))) (tl_L_spoilt_16 K) L2.tNext
noncomputable def tl_L_spoilt_18 (K : PySem.W.Frag) : TS := L2.sFrz
  (L2.tFor (L2.iKeys (L2.tVar 2)) (L2.gName 9)
    (L2.tSeq
      (L2.tIfS
        (L2.tTest
          (L2.tOp L2.rEq
            (L2.tCB
              (fun (xs : List L2.V) (H : L2.Hp) (Q : L2.VK) ↦
                ∃ (a : PySem.Addr),
                  xs = [L2.V.ref a] ∧
                    ((∃ (kvs : List (L2.Key × L2.V)), L2.Rd H a (L2.HO.dK kvs) ∧ Q (L2.V.int ↑kvs.length) H) ∨
                      ∃ (kvs : List (L2.V × L2.V)),
                        L2.OddOf H a kvs ∧ kvs.length ≤ PySem.sizeLine ∧ Q (L2.V.int ↑kvs.length) H))
              (L2.tCons (L2.tVar 8) L2.tNil))
            (L2.tOp (L2.rI (fun (x j : Int) ↦ 0 < j) fun (i j : Int) ↦ L2.V.int (i % j))
              (L2.tOp (L2.rI L2.CDiv fun (i j : Int) ↦ L2.V.int (i / j)) (L2.tVar 3) (L2.tC (L2.V.int 975)))
              (L2.tOp (L2.rI0 fun (i j : Int) ↦ L2.V.int (i + j))
                (L2.tCB
                  (fun (xs : List L2.V) (H : L2.Hp) (Q : L2.VK) ↦
                    ∃ (a : PySem.Addr),
                      xs = [L2.V.ref a] ∧
                        ((∃ (kvs : List (L2.Key × L2.V)), L2.Rd H a (L2.HO.dK kvs) ∧ Q (L2.V.int ↑kvs.length) H) ∨
                          ∃ (kvs : List (L2.V × L2.V)),
                            L2.OddOf H a kvs ∧ kvs.length ≤ PySem.sizeLine ∧ Q (L2.V.int ↑kvs.length) H))
                  (L2.tCons (L2.tVar 2) L2.tNil))
                (L2.tC (L2.V.int 1))))))
        (L2.sDPutX (L2.tVar 8) (L2.tVar 6) (L2.tVar 7)) L2.tNext)
      (L2.tIfS (L2.tTest (L2.tOp L2.rNeK (L2.tVar 9) (L2.tVar 6)))
        (L2.sDPutX (L2.tVar 8) (L2.tVar 9) (L2.tDGet (L2.tVar 2) (L2.tVar 9))) L2.tNext)))
noncomputable def tl_L_spoilt_19 (K : PySem.W.Frag) : TS := L2.sDPutX (L2.tVar 8) (L2.tVar 6) (L2.tVar 7)
noncomputable def tl_L_spoilt_20 (K : PySem.W.Frag) : TS := L2.tIfS (L2.tTest (L2.tOp L2.rNotInX (L2.tVar 6) (L2.tVar 8))) (tl_L_spoilt_19 K) L2.tNext
noncomputable def tl_L_spoilt_21 (K : PySem.W.Frag) : TS := L2.tSeq (tl_L_spoilt_20 K) (L2.tRet (L2.tVar 8))
noncomputable def tl_L_spoilt_22 (K : PySem.W.Frag) : TS := L2.tSeq (tl_L_spoilt_18 K) (tl_L_spoilt_21 K)
noncomputable def tl_L_spoilt_23 (K : PySem.W.Frag) : TS := L2.tSeq (L2.tAsg L2.tDNewK (L2.gName 8)) (tl_L_spoilt_22 K)
noncomputable def tl_L_spoilt_24 (K : PySem.W.Frag) : TS := L2.tSeq (tl_L_spoilt_17 K) (tl_L_spoilt_23 K)
noncomputable def tl_L_spoilt_25 (K : PySem.W.Frag) : TS := L2.tSeq (tl_L_spoilt_15 K) (tl_L_spoilt_24 K)
noncomputable def tl_L_spoilt_26 (K : PySem.W.Frag) : TS := L2.tSeq (tl_L_spoilt_13 K) (tl_L_spoilt_25 K)
noncomputable def tl_L_spoilt_27 (K : PySem.W.Frag) : TS := L2.tSeq (tl_L_spoilt_11 K) (tl_L_spoilt_26 K)
noncomputable def tl_L_spoilt_28 (K : PySem.W.Frag) : TS := L2.tSeq (tl_L_spoilt_7 K) (tl_L_spoilt_27 K)
noncomputable def tl_L_spoilt_29 (K : PySem.W.Frag) : TS := L2.tSeq (tl_L_spoilt_6 K) (tl_L_spoilt_28 K)
noncomputable def tl_L_spoilt_30 (K : PySem.W.Frag) : TS := L2.tSeq (tl_L_spoilt_5 K) (tl_L_spoilt_29 K)
noncomputable def tl_L_spoilt_31 (K : PySem.W.Frag) : TS := L2.tSeq (tl_L_spoilt_4 K) (tl_L_spoilt_30 K)
noncomputable def tl_L_spoilt_32 (K : PySem.W.Frag) : TS := L2.tSeq (tl_L_spoilt_2 K) (tl_L_spoilt_31 K)
noncomputable def tl_L_spoilt_33 (K : PySem.W.Frag) : TS := L2.tSeq (tl_L_spoilt_0 K) (tl_L_spoilt_32 K)
theorem ok_L_spoilt {f : Addr} {fd : FuncData} (F : Fun K "_law_spoilt" "_law_spoilt" s_L_spoilt f fd) (T : Txt K mg C_HoleError C_NoShape C_NoLevel C_NoChain C_NoTable C_NoMap C_NoPair C_NoRound)  : FnOk P w K mg base CX0 1 f fd ["_law_shape", "_law_spots", "_law_chain", "_law_cell"] (sp_L_spoilt K) := by
  refine F.ok sc_L_spoilt (fun vs H Q E h => ?_) (fun cdv A outer s H vs Q E hr h => ?_)
  · obtain ⟨a, l, b, xs, k, c, ms, rfl, hL, hshp, hxl, hk0, hl, hb, hnd, hsp, hml, kq⟩ := h
    rfl
  · obtain ⟨a, l, b, xs, k, c, ms, rfl, hL, hshp, hxl, hk0, hl, hb, hnd, hsp, hml, kq⟩ := h
    have hu8 : (A.deeper (PyProof.Rows.envOfC "_law_spoilt" (defScope s_L_spoilt) s.heap.objs.size f cdv)).units + 8 < cLine := by have := hr.units; omega
    refine ⟨tl_L_spoilt_33 K, (pss_cons (ps_set (i := 4) nd_L_spoilt (by rfl) (by first | exact Or.inl rfl | exact Or.inr rfl) (pe_op op_mod (pv 3) pe_int))
      (pss_cons (ps_if (pt_cmpR op_gt (pv 4) pe_int (nomark _)) (pss_one (ps_set (i := 4) nd_L_spoilt (by rfl) (by first | exact Or.inl rfl | exact Or.inr rfl) pe_int)) pss_nil)
      (pss_cons (ps_if (pt_cmpR op_gt (pv 4) pe_int (nomark _)) (pss_one (ps_ret (pe_ix (kix_list (K := K)) (pe_lst (pa_cons (pe_callTy (call_listV (by rfl)) (by rfl) T.n_list boot_listT (pa_cons (pe_itemsV (pv 2)) pa_nil)) (pa_cons pe_non (pa_cons (pe_callB call_lenX (by rfl) T.n_len PySem.boot_len (pa_cons (pv 2) pa_nil)) pa_nil)))) (pe_op op_sub (pv 4) pe_int) (fun _ _ => rfl)))) pss_nil)
      (pss_cons (ps_setC (N' := ["_law_at", "_law_spots"]) (cap := [none, some 1]) (i := 5) nd_L_spoilt (by rfl) (by first | exact Or.inl rfl | exact Or.inr rfl) (by rfl) (by kernel_rfl) (pi_range1 (by rfl) T.n_range (pa_cons (pe_callB (kcall_len_seq (K := K)) (by rfl) T.n_len PySem.boot_len (pa_cons (pv 0) pa_nil)) pa_nil)) (fun _ _ _ _ => (pg_name (i := 0) ndc_8 (by rfl) (by first | exact Or.inl rfl | exact Or.inr rfl))) (fun _ _ _ _ => (pts_one (pt_cmpR (kop_notInD (K := K) hu8) (pv 0) (pv 1) rfl))) (fun _ _ _ _ => (pv 0)))
      (pss_cons (ps_set (i := 6) nd_L_spoilt (by rfl) (by first | exact Or.inl rfl | exact Or.inr rfl) (pe_op op_add (pe_callB (kcall_len_seq (K := K)) (by rfl) T.n_len PySem.boot_len (pa_cons (pv 0) pa_nil)) (pe_op op_mod (pe_op op_fdiv (pv 3) pe_int) pe_int)))
      (pss_cons (ps_set (i := 7) nd_L_spoilt (by rfl) (by first | exact Or.inl rfl | exact Or.inr rfl) (pe_op op_add pe_int (pe_op op_mod (pe_op op_fdiv (pv 3) pe_int) pe_int)))
      (pss_cons (ps_if (PW.pt (pw_and (pt_cmpR op_lt (pv 4) pe_int (nomark _)) (pw_and1 (pt_cmpR op_gt (pe_callB (kcall_len_seq (K := K)) (by rfl) T.n_len PySem.boot_len (pa_cons (pv 1) pa_nil)) pe_int (nomark _))))) (pss_cons (ps_set (i := 6) nd_L_spoilt (by rfl) (by first | exact Or.inl rfl | exact Or.inr rfl) (pe_ix (kix_list (K := K)) (pv 1) (pe_op op_mod (pe_op op_fdiv (pv 3) pe_int) (pe_callB (kcall_len_seq (K := K)) (by rfl) T.n_len PySem.boot_len (pa_cons (pv 1) pa_nil))) (fun _ _ => rfl)))
      (pss_one (ps_set (i := 7) nd_L_spoilt (by rfl) (by first | exact Or.inl rfl | exact Or.inr rfl) (pe_ix (kix_list (K := K)) (pe_lst (pa_cons pe_int (pa_cons pe_bl (pa_cons pe_non (pa_cons pe_str pa_nil))))) (pv 4) (fun _ _ => rfl))))) pss_nil)
      (pss_cons (ps_if (PW.pt (pw_and (pt_cmpR op_eq (pv 4) pe_int (nomark _)) (pw_and (pt_cmpR op_gt (pe_callB (kcall_len_seq (K := K)) (by rfl) T.n_len PySem.boot_len (pa_cons (pv 5) pa_nil)) pe_int (nomark _)) (pw_and1 (pt_cmpR op_gt (pe_callB call_lenX (by rfl) T.n_len PySem.boot_len (pa_cons (pv 2) pa_nil)) pe_int (nomark _)))))) (pss_one (ps_set (i := 6) nd_L_spoilt (by rfl) (by first | exact Or.inl rfl | exact Or.inr rfl) (pe_ix (kix_list (K := K)) (pv 5) (pe_op op_mod (pe_op op_fdiv (pv 3) pe_int) (pe_callB (kcall_len_seq (K := K)) (by rfl) T.n_len PySem.boot_len (pa_cons (pv 5) pa_nil))) (fun _ _ => rfl)))) pss_nil)
      (pss_cons (ps_if (PW.pt (pw_and (pt_cmpR op_gt (pv 4) pe_int (nomark _)) (pw_and1 (pt_cmpR op_lt (pv 4) pe_int (nomark _))))) (pss_one (ps_set (i := 6) nd_L_spoilt (by rfl) (by first | exact Or.inl rfl | exact Or.inr rfl) (pe_ix (kix_list (K := K)) (pe_lst (pa_cons (pe_op op_sub (pe_un un_neg pe_int) (pe_op op_mod (pe_op op_fdiv (pv 3) pe_int) pe_int)) (pa_cons pe_str (pa_cons pe_non (pa_cons (pe_cmpR (kop_inD (K := K) hu8) pe_int (pv 1) rfl) pa_nil))))) (pe_op op_sub (pv 4) pe_int) (fun _ _ => rfl)))) pss_nil)
      (pss_cons (ps_if (pt_cmpR op_eq (pv 4) pe_int (nomark _)) (pss_one (ps_set (i := 6) nd_L_spoilt (by rfl) (by first | exact Or.inl rfl | exact Or.inr rfl) (pe_tup (pa_cons pe_int pa_nil)))) pss_nil)
      (pss_cons (ps_set (i := 8) nd_L_spoilt (by rfl) (by first | exact Or.inl rfl | exact Or.inr rfl) pe_dnewK)
      (pss_cons (ps_frz (ps_for PassesOwn.never rfl (pi_keys (pv 2)) (pg_name (i := 9) nd_L_spoilt (by rfl) (by first | exact Or.inl rfl | exact Or.inr rfl)) (pss_cons (ps_if (pt_cmpR op_eq (pe_callB call_lenX (by rfl) T.n_len PySem.boot_len (pa_cons (pv 8) pa_nil)) (pe_op op_mod (pe_op op_fdiv (pv 3) pe_int) (pe_op op_add (pe_callB call_lenX (by rfl) T.n_len PySem.boot_len (pa_cons (pv 2) pa_nil)) pe_int)) (nomark _)) (pss_one (ps_dputX (u1 hu8) (pv 8) (pv 6) (pv 7) (by rfl))) pss_nil)
      (pss_one (ps_if (pt_cmpR (op_neK hu8) (pv 9) (pv 6) (nomark _)) (pss_one (ps_dputX (u1 hu8) (pv 8) (pv 9) (pe_dget (u1 hu8) (pv 2) (pv 9) (fun _ _ => rfl)) (by rfl))) pss_nil)))))
      (pss_cons (ps_if (pt_cmpR (op_notInX (u1 hu8)) (pv 6) (pv 8) rfl) (pss_one (ps_dputX (u1 hu8) (pv 8) (pv 6) (pv 7) (by rfl))) pss_nil)
      (pss_one (ps_ret (pv 8)))))))))))))))), ?_⟩
    obtain ⟨_, us, z, hqa, ra⟩ := id hL
    cases z
    have usl : us.length = xs.length := by have := ra.length; simpa using this
    have spl : (spots xs k).length ≤ 63 := by have := spN_len xs k xs.length; exact Nat.le_trans this hxl
    refine tSeq_cut (fun σ' H' => ∃ w : Int, σ' = [some (.ref a), some (.ref l), some (.ref b), some (.int c), some (.int w), none, none, none, none, none] ∧ H = H' ∧ 0 ≤ w ∧ w < 16) ?_ fun key => ?_
    rotate_left
    · refine ⟨_, rfl, _, _, rfl, rfl, (by show (0 : Int) < 16; decide), ?_⟩
      exact key _ _ ⟨_, rfl, rfl, Int.emod_nonneg _ (by decide), Int.emod_lt_of_pos _ (by decide)⟩
    rintro _ _ ⟨w0, rfl, rfl, hw0, hw1⟩
    refine tSeq_cut (fun σ' H' => ∃ w : Int, σ' = [some (.ref a), some (.ref l), some (.ref b), some (.int c), some (.int w), none, none, none, none, none] ∧ H = H' ∧ 0 ≤ w ∧ w < 13) ?_ fun key => ?_
    rotate_left
    · refine ⟨_, rfl, _, _, rfl, rfl, _, rfl, ?_⟩
      refine ite2 (fun _ => ?_) (fun h1 => ?_)
      · exact key _ _ ⟨8, rfl, rfl, by decide, by decide⟩
      · have h2 : ¬ w0 > 12 := by simpa using h1
        exact key _ _ ⟨w0, rfl, rfl, hw0, by omega⟩
    rintro _ _ ⟨w, rfl, rfl, hw0, hw1⟩
    have hw13 := hw1
    clear hw1
    refine tSeq_cut (fun σ' H' => σ' = [some (.ref a), some (.ref l), some (.ref b), some (.int c), some (.int w), none, none, none, none, none] ∧ H = H' ∧ w ≤ 9) ?_ fun key => ?_
    rotate_left
    · refine ⟨_, rfl, _, _, rfl, rfl, _, rfl, ?_⟩
      refine ite2 (fun h1 => ?_) (fun h1 => ?_)
      · have h2 : w > 9 := by simpa using h1
        refine ⟨_, rfl, b, _, rfl, hb, fun p hp => ?_⟩
        have s1 : Same H (upd H p (VwO p b)) := Same.new hp
        have hp1 : (upd H p (VwO p b)) p = some (VwO p b) := upd_same
        generalize upd H p (VwO p b) = H1 at s1 hp1
        refine ⟨p, b, cK ms, rfl, hp1, s1 _ _ hb, fun q ws hq hwl => ?_⟩
        have s2 : Same H1 (upd H1 q (.lst ws)) := Same.new hq
        have hq1 : (upd H1 q (.lst ws)) q = some (.lst ws) := upd_same
        generalize upd H1 q (.lst ws) = H2 at s2 hq1
        have s12 := s1.trans s2
        refine ⟨_, rfl, b, rfl, .inl ⟨cK ms, .inl (s12 _ _ hb), ?_⟩⟩
        refine ⟨smallE (by simp), fun z hz => ?_⟩
        have s3 : Same H2 (upd H2 z (.lst [.ref q, .non, .int ((cK ms).length : Int)])) := Same.new hz
        have hz1 : (upd H2 z (.lst [.ref q, .non, .int ((cK ms).length : Int)])) z = some (.lst [.ref q, .non, .int ((cK ms).length : Int)]) := upd_same
        generalize upd H2 z (.lst [.ref q, .non, .int ((cK ms).length : Int)]) = H3 at s3 hz1
        have s13 := s12.trans s3
        have ways := ways3 h2 hw13
        refine ⟨_, rfl, _, _, rfl, rfl, ?_⟩
        rcases ways with rfl | rfl | rfl
        · refine ⟨z, _, _, _, rfl, rfl, .of hz1, rfl, ?_⟩
          exact kq _ .lst H3 s13 ⟨q, ws, rfl, s3 _ _ hq1⟩ fun _ => rfl
        · refine ⟨z, _, _, _, rfl, rfl, .of hz1, rfl, ?_⟩
          exact kq _ (.data .non) H3 s13 ⟨True.intro, rfl⟩ fun _ => rfl
        · refine ⟨z, _, _, _, rfl, rfl, .of hz1, rfl, ?_⟩
          exact kq _ (.data (.int ((cK ms).length : Int))) H3 s13 ⟨True.intro, rfl⟩ fun _ => rfl
      · have h2 : ¬ w > 9 := by simpa using h1
        exact key _ _ ⟨rfl, rfl, by omega⟩
    rintro _ _ ⟨rfl, rfl, hw1⟩
    refine tSeq_cut (fun σ' H' => ∃ (q : Addr) (os : List Int), σ' = [some (.ref a), some (.ref l), some (.ref b), some (.int c), some (.int w), some (.ref q), none, none, none, none] ∧ Same H H' ∧ H' q = some (.lst (os.map V.int)) ∧ os.length ≤ 63 ∧ ∀ x ∈ os, x ∉ spots xs k) ?_ fun key => ?_
    rotate_left
    · refine ⟨_, rfl, a, us, rfl, .inl hqa, _, rfl, by omega, by omega, fun D hD => ?_⟩
      refine comp_range (fun i zs τ H1 => Same H H1 ∧ H1 D = some (.lst zs) ∧ (∃ os : List Int, zs = os.map V.int ∧ os.length ≤ i ∧ ∀ x ∈ os, x ∉ spots xs k) ∧ ∃ o, τ = [o, some (.ref l)])
        ⟨Same.new hD, upd_same, ⟨[], rfl, Nat.le_refl _, fun x hx => by cases hx⟩, none, rfl⟩ ?_ ?_
      · rintro i zs τ H1 hi ⟨s1, hD1, ⟨os, rfl, hol, hos⟩, o, rfl⟩
        refine ⟨_, rfl, _, rfl, .int (0 + (i : Int)), nums (spots xs k), rfl, rep_ints (s1.seq hl), (by rw [deps_nums]; decide), _, rfl, ?_⟩
        refine ite2 (fun h1 => ?_) (fun h1 => ?_)
        · have h2 : (0 + (i : Int)) ∉ spots xs k := by
            have h3 : (!(nums (spots xs k)).any fun e => eqD e (.int (0 + (i : Int)))) = true := h1
            rw [any_numO] at h3
            simpa using h3
          refine ⟨_, rfl, hD1, small (by rw [List.length_map]; omega), s1.turn hD, upd_same, ⟨os ++ [(0 : Int) + (i : Int)], by simp, by rw [List.length_append]; exact Nat.succ_le_succ hol, fun x hx => ?_⟩, _, rfl⟩
          rcases List.mem_append.mp hx with hx | hx
          · exact hos x hx
          · have : x = 0 + (i : Int) := by simpa using hx
            rw [this]
            exact h2
        · exact ⟨s1, hD1, ⟨os, rfl, by omega, hos⟩, _, rfl⟩
      · rintro zs τ H1 ⟨s1, hD1, ⟨os, rfl, hol, hos⟩, _⟩
        exact key _ _ ⟨D, os, rfl, s1, hD1, by omega, hos⟩
    rintro _ H1 ⟨q, os, rfl, s1, hq, hol, hos⟩
    have hL1 := Rep.same s1 hL
    have hb1 := s1 _ _ hb
    have hl1 := s1.seq hl
    have hqa1 := s1.seq hqa
    refine tSeq_cut (fun σ' H' => ∃ i : Int, σ' = [some (.ref a), some (.ref l), some (.ref b), some (.int c), some (.int w), some (.ref q), some (.int i), none, none, none] ∧ H1 = H' ∧ (xs.length : Int) ≤ i) ?_ fun key => ?_
    rotate_left
    · refine ⟨_, rfl, a, us, rfl, .inl hqa1, _, rfl, _, _, rfl, rfl, ⟨by decide, by decide⟩, _, _, rfl, rfl, (by show (0 : Int) < 3; decide), _, _, rfl, rfl, ?_⟩
      refine key _ _ ⟨_, rfl, rfl, ?_⟩
      have := Int.emod_nonneg (c / 13) (show (3 : Int) ≠ 0 by decide)
      omega
    rintro _ _ ⟨i0, rfl, rfl, hi0⟩
    refine tSeq_cut (fun σ' H' => ∃ kv nv : V, σ' = [some (.ref a), some (.ref l), some (.ref b), some (.int c), some (.int w), some (.ref q), some kv, some nv, none, none] ∧ Same H1 H' ∧ KeyX H' kv ∧ Sca nv ∧ Bad xs k ms kv nv) ?_ fun key => ?_
    rotate_left
    · refine ⟨_, rfl, _, _, rfl, rfl, ⟨by decide, by decide⟩, _, _, rfl, rfl, (by show (0 : Int) < 5; decide), _, _, rfl, rfl, ?_⟩
      exact key _ _ ⟨.int i0, _, rfl, Same.refl _, .inl ⟨.inl i0, rfl⟩, True.intro, .inl fun k' => partD_key (place_out (.inr hi0))⟩
    rintro _ H2 ⟨kv, nv, rfl, s2, hkx, hsn, hbad⟩
    have idx := idx_mod
    refine tSeq_cut (fun σ' H' => ∃ kv nv : V, σ' = [some (.ref a), some (.ref l), some (.ref b), some (.int c), some (.int w), some (.ref q), some kv, some nv, none, none] ∧ Same H1 H' ∧ KeyX H' kv ∧ Sca nv ∧ Bad xs k ms kv nv) ?_ fun key => ?_
    rotate_left
    · have stay := key _ _ ⟨kv, nv, rfl, s2, hkx, hsn, hbad⟩
      refine ⟨_, rfl, _, _, rfl, rfl, _, rfl, ?_⟩
      refine ite2 (fun h1 => ?_) (fun h1 => ?_)
      · have h1' : w < 4 := by simpa using h1
        refine ⟨_, rfl, l, _, rfl, .inl (s2.seq hl1), _, _, rfl, rfl, _, rfl, ?_⟩
        refine ite2 (fun h2 => ?_) (fun h2 => stay)
        have h2' : (spots xs k).length ≠ 0 := pos_map (of_decide_eq_true h2)
        obtain ⟨v, hv, hat⟩ := idx (spots xs k) (c / 195) h2'
        refine ⟨_, rfl, _, rfl, _, _, rfl, rfl, ⟨by decide, by decide⟩, _, rfl, l, _, rfl, .inl (s2.seq hl1), _, _, rfl, rfl, map_pos h2', l, _, _, _, rfl, rfl, s2.seq hl1, hat, ?_⟩
        refine ⟨smallE (by simp), fun z hz => ?_⟩
        have s3 : Same H2 (upd H2 z (.lst [.int 0, .bl true, .non, .str (Str.ofString "1")])) := Same.new hz
        have hz1 : (upd H2 z (.lst [.int 0, .bl true, .non, .str (Str.ofString "1")])) z = some (.lst [.int 0, .bl true, .non, .str (Str.ofString "1")]) := upd_same
        generalize upd H2 z (.lst [.int 0, .bl true, .non, .str (Str.ofString "1")]) = H3 at s3 hz1
        have ways := ways4 hw0 h1'
        have fin : ∀ nv' : V, Sca nv' → nzD (vD nv') = false → _ := fun nv' hs' hn' => key _ _ ⟨.int v, nv', rfl, s2.trans s3, .inl ⟨.inl v, rfl⟩, hs', .inl fun k' => partD_num hn'⟩
        rcases ways with rfl | rfl | rfl | rfl
        · exact ⟨_, rfl, z, _, _, _, rfl, rfl, .of hz1, rfl, fin _ True.intro rfl⟩
        · exact ⟨_, rfl, z, _, _, _, rfl, rfl, .of hz1, rfl, fin _ True.intro rfl⟩
        · exact ⟨_, rfl, z, _, _, _, rfl, rfl, .of hz1, rfl, fin _ True.intro rfl⟩
        · exact ⟨_, rfl, z, _, _, _, rfl, rfl, .of hz1, rfl, fin _ True.intro rfl⟩
      · refine ifN (by simp) ?_
        exact stay
    clear hkx hsn hbad
    rintro _ H3 ⟨kv, nv, rfl, s2, hkx, hsn, hbad⟩
    refine tSeq_cut (fun σ' H' => ∃ kv nv : V, σ' = [some (.ref a), some (.ref l), some (.ref b), some (.int c), some (.int w), some (.ref q), some kv, some nv, none, none] ∧ Same H1 H' ∧ KeyX H' kv ∧ Sca nv ∧ Bad xs k ms kv nv) ?_ fun key => ?_
    rotate_left
    · have stay := key _ _ ⟨kv, nv, rfl, s2, hkx, hsn, hbad⟩
      refine ⟨_, rfl, rfl, _, rfl, ?_⟩
      refine ite2 (fun h1 => ?_) (fun h1 => ?_)
      · refine ⟨_, rfl, q, _, rfl, .inl (.of (s2 _ _ hq)), _, _, rfl, rfl, _, rfl, ?_⟩
        refine ite2 (fun h2 => ?_) (fun h2 => ?_)
        · refine ⟨_, rfl, b, rfl, .inl ⟨_, .inl (s2 _ _ hb1), _, _, rfl, rfl, _, rfl, ?_⟩⟩
          refine ite2 (fun h3 => ?_) (fun h3 => stay)
          have h2' : os.length ≠ 0 := pos_map (of_decide_eq_true h2)
          have h3' : ms.length ≠ 0 := pos_cK (of_decide_eq_true h3)
          obtain ⟨v, hv, hat⟩ := idx os (c / 195) h2'
          refine ⟨_, rfl, _, rfl, _, _, rfl, rfl, ⟨by decide, by decide⟩, _, rfl, q, _, rfl, .inl (.of (s2 _ _ hq)), _, _, rfl, rfl, map_pos h2', q, _, _, _, rfl, rfl, .of (s2 _ _ hq), hat, ?_⟩
          exact key _ _ ⟨.int v, nv, rfl, s2, .inl ⟨.inl v, rfl⟩, hsn, .inr ⟨v, rfl, hos v hv, h3'⟩⟩
        · refine ifN (by simp) ?_
          exact stay
      · refine ifN (by simp) ?_
        exact stay
    clear hkx hsn hbad
    rintro _ H4 ⟨kv, nv, rfl, s2, hkx, hsn, hbad⟩
    refine tSeq_cut (fun σ' H' => ∃ kv nv : V, σ' = [some (.ref a), some (.ref l), some (.ref b), some (.int c), some (.int w), some (.ref q), some kv, some nv, none, none] ∧ Same H1 H' ∧ KeyX H' kv ∧ Sca nv ∧ Bad xs k ms kv nv) ?_ fun key => ?_
    rotate_left
    · have stay := key _ _ ⟨kv, nv, rfl, s2, hkx, hsn, hbad⟩
      refine ⟨_, rfl, _, _, rfl, rfl, _, rfl, ?_⟩
      refine ite2 (fun h1 => ?_) (fun h1 => ?_)
      · refine ⟨_, rfl, _, _, rfl, rfl, _, rfl, ?_⟩
        refine ite2 (fun h2 => ?_) (fun h2 => stay)
        have h1' : 4 < w := by simpa using h1
        have h2' : w < 9 := by simpa using h2
        refine ⟨_, rfl, _, rfl, _, _, rfl, rfl, ⟨by decide, by decide⟩, _, _, rfl, rfl, (by show (0 : Int) < 3; decide), _, _, rfl, rfl, _, rfl, .int 1, nums (spots xs k), rfl, rep_ints (s2.seq hl1), (by rw [deps_nums]; decide), ?_⟩
        refine ⟨smallE (by simp), fun z hz => ?_⟩
        have m0 : 0 ≤ c / 195 % 3 := Int.emod_nonneg _ (by decide)
        have ways := ways5 h1' h2'
        rcases ways with rfl | rfl | rfl | rfl
        · refine ⟨_, rfl, _, _, rfl, rfl, z, _, _, _, rfl, rfl, .of upd_same, rfl, ?_⟩
          exact key _ _ ⟨.int (-1 - c / 195 % 3), nv, rfl, s2.trans (Same.new hz), .inl ⟨.inl _, rfl⟩, hsn, .inl fun k' => partD_key (place_out (.inl (by omega)))⟩
        · refine ⟨_, rfl, _, _, rfl, rfl, z, _, _, _, rfl, rfl, .of upd_same, rfl, ?_⟩
          exact key _ _ ⟨.str (Str.ofString "a"), nv, rfl, s2.trans (Same.new hz), .inl ⟨.inr _, rfl⟩, hsn, .inl fun k' => partD_key rfl⟩
        · refine ⟨_, rfl, _, _, rfl, rfl, z, _, _, _, rfl, rfl, .of upd_same, rfl, ?_⟩
          exact key _ _ ⟨.non, nv, rfl, s2.trans (Same.new hz), .inr ⟨.inr (.inr (.inl rfl)), .inl True.intro, fun i e => nomatch e⟩, hsn, .inl fun k' => partD_key rfl⟩
        · refine ⟨_, rfl, _, _, rfl, rfl, z, _, _, _, rfl, rfl, .of upd_same, rfl, ?_⟩
          exact key _ _ ⟨.bl _, nv, rfl, s2.trans (Same.new hz), .inr ⟨.inr (.inl ⟨_, rfl⟩), .inl True.intro, fun i e => nomatch e⟩, hsn, .inl fun k' => partD_key rfl⟩
      · refine ifN (by simp) ?_
        exact stay
    clear hkx hsn hbad
    rintro _ H5 ⟨kv, nv, rfl, s2, hkx, hsn, hbad⟩
    refine tSeq_cut (fun σ' H' => ∃ kv nv : V, σ' = [some (.ref a), some (.ref l), some (.ref b), some (.int c), some (.int w), some (.ref q), some kv, some nv, none, none] ∧ Same H1 H' ∧ KeyX H' kv ∧ Sca nv ∧ Bad xs k ms kv nv) ?_ fun key => ?_
    rotate_left
    · have stay := key _ _ ⟨kv, nv, rfl, s2, hkx, hsn, hbad⟩
      refine ⟨_, rfl, rfl, _, rfl, ?_⟩
      refine ite2 (fun h1 => ?_) (fun h1 => stay)
      refine ⟨smallE (by simp), fun t ht => ?_⟩
      have ht1 : (upd H5 t (.tup [.int 0])) t = some (.tup [.int 0]) := upd_same
      exact key _ _ ⟨.ref t, nv, rfl, s2.trans (Same.new ht), .inr ⟨.inr (.inr (.inr ⟨t, rfl, ht1⟩)), .inr ⟨t, rfl, ht1⟩, fun i e => nomatch e⟩, hsn, .inl fun k' => partD_key rfl⟩
    clear hkx hsn hbad
    rintro _ H6 ⟨kv, nv, rfl, s2, hkx, hsn, hbad⟩
    have s06 := s1.trans s2
    have hb6 := s2 _ _ hb1
    clear hqa1 hl1 hb1 hL1 hq hos hol
    generalize some (V.ref q) = oq
    refine tSeq_cut (fun σ' H' => ∃ D : Addr, σ' = [some (.ref a), some (.ref l), some (.ref b), some (.int c), some (.int w), oq, some kv, some nv, some (.ref D), none] ∧ Same H6 H' ∧ H6 D = none ∧ H' D = some (.dK [])) ?_ fun key => ?_
    rotate_left
    · refine fun D hD => ?_
      exact key _ _ ⟨D, rfl, Same.new hD, hD, upd_same⟩
    rintro _ H7 ⟨D, rfl, s7, hD6, hD7⟩
    have s07 := s06.trans s7
    have hb7 := s7 _ _ hb6
    have nDb : D ≠ b := fun z => by rw [z, hb6] at hD6; cases hD6
    rcases hkx with ⟨kk, rfl⟩ | ⟨hik, hkr, hni⟩
    · -- an int or a text
      refine tSeq_cut (fun σ' H' => ∃ (o9 : Option V) (kvs : List (Key × V)), σ' = [some (.ref a), some (.ref l), some (.ref b), some (.int c), some (.int w), oq, some (kV kk), some nv, some (.ref D), o9] ∧ Same H H' ∧ H' D = some (.dK kvs) ∧ InvA ms kk nv kvs ms.length (2 * ms.length)) ?_ fun key => ?_
      rotate_left
      · refine .inr ⟨b, cK ms, hb7, fun _ o => ?_⟩
        refine ⟨_, rfl, b, o, cK ms, rfl, upd_same, ?_⟩
        refine for_keys (d := b) (o := o) (kvs := cK ms) (fun i σ G => ∃ (o9 : Option V) (kvs : List (Key × V)), σ = [some (.ref a), some (.ref l), some (.ref b), some (.int c), some (.int w), oq, some (kV kk), some nv, some (.ref D), o9] ∧ G b = some (.frz o (.dK (cK ms))) ∧ G D = some (.dK kvs) ∧ (∀ c q, c ≠ b → H c = some q → G c = some q) ∧ InvA ms kk nv kvs i (2 * i))
          ⟨none, [], rfl, upd_same, by rw [upd_ne nDb]; exact hD7, fun c q n1 e => by rw [upd_ne n1]; exact s07 _ _ e, InvA.new ms kk nv⟩ (fun i σ G _ hm_ => by obtain ⟨_, _, _, e, _⟩ := hm_; exact e) ?_ ?_
        · rintro i kx x σ G hx ⟨o9, kvs, rfl, hbG, hDG, hkG, hA⟩
          obtain ⟨q, hq, rfl, rfl⟩ := cK_get hx
          have hlt : i < ms.length := (List.getElem?_eq_some_iff.mp hq).1
          have hat : lookI ms q.1 = some q.2 := lookI_in hnd (List.mem_of_getElem? hq)
          refine tSeq_cut (fun σ' H' => ∃ (kvs : List (Key × V)), σ' = [some (.ref a), some (.ref l), some (.ref b), some (.int c), some (.int w), oq, some (kV kk), some nv, some (.ref D), some (.int q.1)] ∧ H' b = some (.frz o (.dK (cK ms))) ∧ H' D = some (.dK kvs) ∧ (∀ c q, c ≠ b → H c = some q → H' c = some q) ∧ InvA ms kk nv kvs i (2 * i + 1)) ?_ fun key1 => ?_
          rotate_left
          · refine ⟨_, rfl, D, rfl, .inl ⟨kvs, .inl hDG, _, rfl, _, _, rfl, rfl, ⟨by decide, by decide⟩, _, rfl, b, rfl, .inl ⟨cK ms, .inr ⟨o, hbG⟩, _, _, rfl, rfl, _, _, rfl, rfl, cK_pos, rfl, _, rfl, ?_⟩⟩⟩
            have hAl := hA.len
            refine ite2 (fun h1 => ?_) (fun h1 => ?_)
            · refine ⟨_, rfl, _, rfl, _, rfl, D, rfl, .inl ⟨_, DPut.k hDG (sm0 hAl hlt hml), ?_⟩⟩
              refine key1 _ _ ⟨_, rfl, by rw [upd_ne nDb.symm]; exact hbG, upd_same, fun c r n1 e => ?_, hA.key hsn⟩
              rw [upd_ne (fun z => by rw [z] at e; have := s06 _ _ e; rw [hD6] at this; cases this)]
              exact hkG c r n1 e
            · exact key1 _ _ ⟨kvs, rfl, hbG, hDG, hkG, ⟨Nat.le_succ_of_le hAl, hA.sca, hA.own, hA.all⟩⟩
          clear hDG hA hbG hkG
          rintro _ G1 ⟨kvs1, rfl, hbG, hDG, hkG, hA⟩
          have hAl := hA.len
          refine ⟨_, rfl, _, rfl, q.1, vD (kV kk), rfl, kalt_key kk, _, rfl, ?_⟩
          refine ite2 (fun h1 => ?_) (fun h1 => ?_)
          · have hne : (Sum.inl q.1 : Key) ≠ kk := by
              have h2 : (!eqD (.int q.1) (vD (kV kk))) = true := h1
              rw [eq_key] at h2
              simpa using h2
            refine ⟨_, rfl, _, rfl, b, .int q.2, rfl, dget_at (.inr ⟨o, hbG⟩) hat, _, rfl, _, rfl, D, rfl, .inl ⟨_, DPut.k (k := Sum.inl q.1) hDG (sm1 hAl hlt hml), ?_⟩⟩
            refine ⟨_, _, rfl, by rw [upd_ne nDb.symm]; exact hbG, upd_same, fun c r n1 e => ?_, hA.place hq hne⟩
            rw [upd_ne (fun z => by rw [z] at e; have := s06 _ _ e; rw [hD6] at this; cases this)]
            exact hkG c r n1 e
          · have he : (Sum.inl q.1 : Key) = kk := by
              have h2 : ¬ (!eqD (.int q.1) (vD (kV kk))) = true := h1
              rw [eq_key] at h2
              simpa using h2
            exact ⟨_, kvs1, rfl, hbG, hDG, hkG, hA.skip hq he⟩
        · rintro σ G ⟨o9, kvs, rfl, hbG, hDG, hkG, hA⟩
          rw [cK_len] at hA
          refine ⟨hbG, ?_⟩
          refine key _ _ ⟨o9, kvs, rfl, fun c q e => ?_, by rw [upd_ne nDb]; exact hDG, hA⟩
          by_cases z : c = b
          · subst z
            rw [hb] at e
            cases e
            exact upd_same
          · rw [upd_ne z]
            exact hkG c q z e
      rintro _ H8 ⟨o9, kvs, rfl, s8, hD8, hA⟩
      have hAl := hA.len
      refine tSeq_cut (fun σ' H' => ∃ (kvs : List (Key × V)), σ' = [some (.ref a), some (.ref l), some (.ref b), some (.int c), some (.int w), oq, some (kV kk), some nv, some (.ref D), o9] ∧ Same H H' ∧ H' D = some (.dK kvs) ∧ InvA ms kk nv kvs ms.length (2 * ms.length + 1) ∧ ∃ v, (kk, v) ∈ kvs) ?_ fun key => ?_
      rotate_left
      · refine ⟨_, rfl, _, rfl, D, rfl, .inl ⟨kvs, kk, hD8, rfl, _, rfl, ?_⟩⟩
        refine ite2 (fun h1 => ?_) (fun h1 => ?_)
        · refine ⟨_, rfl, _, rfl, _, rfl, D, rfl, .inl ⟨_, DPut.k hD8 (sm2 hAl hml), ?_⟩⟩
          exact key _ _ ⟨_, rfl, s8.turn (s06.free hD6), upd_same, hA.key hsn, nv, putV_self _ _ _⟩
        · have h2 : (valV kvs kk).isSome = true := by
            have h3 : ¬ (!(valV kvs kk).isSome) = true := h1
            cases h4 : (valV kvs kk).isSome with
            | true => rfl
            | false => exact absurd (by rw [h4]; rfl) h3
          exact key _ _ ⟨kvs, rfl, s8, hD8, ⟨Nat.le_succ_of_le hAl, hA.sca, hA.own, hA.all⟩, val_mem h2⟩
      rintro _ H9 ⟨kvs9, rfl, s9, hD9, hA9, hin⟩
      have hAl9 := hA9.len
      exact ⟨_, rfl, kq _ (.dk kvs9) H9 s9 ⟨D, rfl, hD9, sm9 hAl9 hml, hA9.sca⟩ (hA9.bad hshp hk0 hin hsp hbad)⟩
    · -- an odd one
      have hr : ∀ p ∈ ms, 0 ≤ p.1 ∧ p.1 < 1000 := fun p hp => by
        obtain ⟨g1, g2, _⟩ := spN_mem (hsp p hp)
        exact ⟨g1, by omega⟩
      generalize hidx : c / 975 % ((ms.length : Int) + 1) = idx
      refine tSeq_cut (fun σ' H' => ∃ (o9 : Option V) (kvs : List (V × V)), σ' = [some (.ref a), some (.ref l), some (.ref b), some (.int c), some (.int w), oq, some kv, some nv, some (.ref D), o9] ∧ Same H6 H' ∧ OddOf H' D kvs ∧ InvB ms kv nv kvs ms.length (2 * ms.length) idx) ?_ fun key => ?_
      rotate_left
      · refine .inr ⟨b, cK ms, hb7, fun _ o => ?_⟩
        refine ⟨_, rfl, b, o, cK ms, rfl, upd_same, ?_⟩
        refine for_keys (d := b) (o := o) (kvs := cK ms) (fun i σ G => ∃ (o9 : Option V) (kvs : List (V × V)), σ = [some (.ref a), some (.ref l), some (.ref b), some (.int c), some (.int w), oq, some kv, some nv, some (.ref D), o9] ∧ G b = some (.frz o (.dK (cK ms))) ∧ OddOf G D kvs ∧ StayX b H6 G ∧ InvB ms kv nv kvs i (2 * i) idx)
          ⟨none, [], rfl, upd_same, .inr ⟨[], by rw [upd_ne nDb]; exact hD7, (fun p hp => nomatch hp), rfl⟩, fun c q n1 e => by rw [upd_ne n1]; exact s7 _ _ e, InvB.new ms kv nv idx⟩ (fun i σ G _ hm_ => by obtain ⟨_, _, _, e, _⟩ := hm_; exact e) ?_ ?_
        · rintro i kx x σ G hx ⟨o9, kvs, rfl, hbG, hDG, hkG, hA⟩
          obtain ⟨q, hq, rfl, rfl⟩ := cK_get hx
          have hlt : i < ms.length := (List.getElem?_eq_some_iff.mp hq).1
          have hat : lookI ms q.1 = some q.2 := lookI_in hnd (List.mem_of_getElem? hq)
          refine tSeq_cut (fun σ' H' => ∃ (kvs : List (V × V)), σ' = [some (.ref a), some (.ref l), some (.ref b), some (.int c), some (.int w), oq, some kv, some nv, some (.ref D), some (.int q.1)] ∧ H' b = some (.frz o (.dK (cK ms))) ∧ OddOf H' D kvs ∧ StayX b H6 H' ∧ InvB ms kv nv kvs i (2 * i + 1) idx) ?_ fun key1 => ?_
          rotate_left
          · have hAl := hA.len
            refine ⟨_, rfl, D, rfl, .inr ⟨kvs, hDG, Nat.le_of_lt (sm0 hAl hlt hml), _, rfl, _, _, rfl, rfl, ⟨by decide, by decide⟩, _, rfl, b, rfl, .inl ⟨cK ms, .inr ⟨o, hbG⟩, _, _, rfl, rfl, _, _, rfl, rfl, cK_pos, rfl, _, rfl, ?_⟩⟩⟩
            rw [cK_len]
            refine ite2 (fun h1 => ?_) (fun h1 => ?_)
            · have h2 : (kvs.length : Int) = idx := by
                rw [← hidx]
                simpa using h1
              have hn : ¬ ∃ p ∈ kvs, p.1 = kv := fun z => by have := hA.own z; omega
              refine ⟨_, rfl, _, rfl, _, rfl, D, rfl, .inr ⟨kvs, hDG, IsKey.stay hb6 hkG hik, hA.free hn, sm0 hAl hlt hml, fun o' hO' => ?_⟩⟩
              refine key1 _ _ ⟨_, rfl, by rw [upd_ne nDb.symm]; exact hbG, .inl hO', fun c r n1 e => ?_, hA.key hsn hn (by omega)⟩
              rw [upd_ne (fun z => by rw [z, hD6] at e; cases e)]
              exact hkG c r n1 e
            · exact key1 _ _ ⟨kvs, rfl, hbG, hDG, hkG, hA.more (Nat.le_succ _) (Nat.le_refl _)⟩
          clear hDG hA hbG hkG
          rintro _ G1 ⟨kvs1, rfl, hbG, hDG, hkG, hA⟩
          have hAl := hA.len
          obtain ⟨r0, r1⟩ := hr q (List.mem_of_getElem? hq)
          refine ⟨_, rfl, _, rfl, q.1, vD kv, rfl, kalt_odd (IsKey.stay hb6 hkG hik), _, rfl, ?_⟩
          refine ite2 (fun h1 => ?_) (fun h1 => ?_)
          · have he : eqD (.int q.1) (vD kv) = false := by
              have h2 : (!eqD (.int q.1) (vD kv)) = true := h1
              simpa using h2
            have hne := odd_hash hik hni r0 r1 he
            refine ⟨_, rfl, _, rfl, b, .int q.2, rfl, dget_at (.inr ⟨o, hbG⟩) hat, _, rfl, _, rfl, D, rfl, .inr ⟨kvs1, hDG, .inl ⟨_, rfl⟩, hA.fresh hnd hr hq hne, sm1 hAl hlt hml, fun o' hO' => ?_⟩⟩
            refine ⟨_, _, rfl, by rw [upd_ne nDb.symm]; exact hbG, .inl hO', fun c r n1 e => ?_, hA.place hni hnd hr hq hne⟩
            rw [upd_ne (fun z => by rw [z, hD6] at e; cases e)]
            exact hkG c r n1 e
          · exact ⟨_, kvs1, rfl, hbG, hDG, hkG, hA.more (Nat.le_succ (2 * i + 1)) (Nat.le_succ _)⟩
        · rintro σ G ⟨o9, kvs, rfl, hbG, hDG, hkG, hA⟩
          rw [cK_len] at hA
          refine ⟨hbG, ?_⟩
          refine key _ _ ⟨o9, kvs, rfl, fun c q e => ?_, OddOf.at (upd_ne nDb) hDG, hA⟩
          by_cases z : c = b
          · subst z
            rw [hb6] at e
            cases e
            exact upd_same
          · rw [upd_ne z]
            exact hkG c q z e
      rintro _ H8 ⟨o9, kvs, rfl, s8, hD8, hA⟩
      have hAl := hA.len
      have stx : ∀ {G : Hp}, Same H6 G → StayX b H6 G := fun s c q _ e => s c q e
      refine tSeq_cut (fun σ' H' => ∃ (kvs : List (V × V)), σ' = [some (.ref a), some (.ref l), some (.ref b), some (.int c), some (.int w), oq, some kv, some nv, some (.ref D), o9] ∧ Same H6 H' ∧ OddAt H' D kvs ∧ InvB ms kv nv kvs ms.length (2 * ms.length + 1) (-1) ∧ ∃ p ∈ kvs, p.1 = kv) ?_ fun key => ?_
      rotate_left
      · refine ⟨_, rfl, _, rfl, D, rfl, ?_⟩
        by_cases hn : ∃ p ∈ kvs, p.1 = kv
        · obtain ⟨p, hp, ep⟩ := id hn
          obtain ⟨j, hj⟩ := List.mem_iff_getElem?.mp hp
          have hj' : kvs[j]? = some (kv, p.2) := by rw [hj, ← ep]
          refine .inr (.inr ⟨kvs, j, p.2, hD8, IsKey.stay hb6 (stx s8) hik, hni, hj', fun i p' hp' he => ?_, _, rfl, ?_⟩)
          · have k1 : (kvs.map fun p => hsh p.1)[i]? = some (hsh p'.1) := by rw [List.getElem?_map, hp']; rfl
            have k2 : (kvs.map fun p => hsh p.1)[j]? = some (hsh kv) := by rw [List.getElem?_map, hj']; rfl
            exact (List.getElem?_inj (List.getElem?_eq_some_iff.mp k1).1 hA.nod).mp (by rw [k1, k2, he])
          · refine ifN (by decide) ?_
            refine key _ _ ⟨kvs, rfl, s8, OddOf.odd hD8 hn hni, ⟨by omega, hA.sca, hA.keys, hA.nod, fun _ => by omega⟩, hn⟩
        · refine .inr (.inl ⟨kvs, hD8, IsKey.stay hb6 (stx s8) hik, hA.free hn, _, rfl, ?_⟩)
          refine ifP rfl ?_
          refine ⟨_, rfl, _, rfl, _, rfl, D, rfl, .inr ⟨kvs, hD8, IsKey.stay hb6 (stx s8) hik, hA.free hn, sm2 hAl hml, fun o' hO' => ?_⟩⟩
          have hA' : InvB ms kv nv kvs ms.length (2 * ms.length) (-1) := ⟨hA.len, hA.sca, hA.keys, hA.nod, fun _ => by omega⟩
          exact key _ _ ⟨_, rfl, s8.turn hD6, hO', hA'.key hsn hn (by omega), (kv, nv), by simp, rfl⟩
      rintro _ H9 ⟨kvs9, rfl, s9, hD9, hA9, hin⟩
      have hAl9 := hA9.len
      refine ⟨_, rfl, kq _ (.odd kvs9) H9 (s06.trans s9) ⟨D, rfl, hD9, sm9 hAl9 hml, fun p hp => ⟨?_, hA9.sca p hp⟩⟩ (hA9.bad hin hni)⟩
      rcases hA9.keys p hp with e | ⟨_, q, _, _, e, _⟩
      · rw [e]
        exact hkr.stay hb6 (stx s9)
      · rw [e]
        exact .inl True.intro
noncomputable abbrev s_L_other : Stmt := top 38
theorem sc_L_other : FnScope ["_law_error"] ["_law_error"] (defScope s_L_other) := ⟨rfl, rfl, rfl, by decide +kernel, rfl, by decide +kernel, by decide +kernel⟩
theorem ok_L_other {f : Addr} {fd : FuncData} (F : Fun K "_law_other" "_law_other" s_L_other f fd) (T : Txt K mg C_HoleError C_NoShape C_NoLevel C_NoChain C_NoTable C_NoMap C_NoPair C_NoRound)  : FnOkN P w K mg base 1 f fd ["_law_error"] (sp_L_other K C_NoChain) := by
  refine F.okN sc_L_other (fun vs H Q E h => ?_) (fun cdv A outer s H vs Q E hr h => ?_)
  · obtain ⟨e, rfl, he, k⟩ := h
    rfl
  · obtain ⟨e, rfl, he, k⟩ := h
    refine ⟨_, (pss_cons (ps_if (PW.pt (pw_or (pt_val (pe_callB (kcall_isiX (K := K)) (by rfl) T.n_isinstance boot_isinstanceB (pa_cons (pv 0) (pa_cons (pe_glob (v := .ref C_NoLevel) (by rfl) T.m_NoLevel rfl) pa_nil)))) (pw_or (pt_val (pe_callB (kcall_isiX (K := K)) (by rfl) T.n_isinstance boot_isinstanceB (pa_cons (pv 0) (pa_cons (pe_glob (v := .ref C_NoMap) (by rfl) T.m_NoMap rfl) pa_nil)))) (pw_or1 (pt_val (pe_callB (kcall_isiX (K := K)) (by rfl) T.n_isinstance boot_isinstanceB (pa_cons (pv 0) (pa_cons (pe_glob (v := .ref C_NoPair) (by rfl) T.m_NoPair rfl) pa_nil)))))))) (pss_one (ps_ret pe_bl)) pss_nil)
      (pss_one (ps_ret (pe_or (pe_callB (kcall_isiX (K := K)) (by rfl) T.n_isinstance boot_isinstanceB (pa_cons (pv 0) (pa_cons (pe_glob (v := .ref C_NoRound) (by rfl) T.m_NoRound rfl) pa_nil))) (pe_or (pe_callB (kcall_isiX (K := K)) (by rfl) T.n_isinstance boot_isinstanceB (pa_cons (pv 0) (pa_cons (pe_glob (v := .ref C_NoShape) (by rfl) T.m_NoShape rfl) pa_nil))) (pe_one (pe_callB (kcall_isiX (K := K)) (by rfl) T.n_isinstance boot_isinstanceB (pa_cons (pv 0) (pa_cons (pe_glob (v := .ref C_NoTable) (by rfl) T.m_NoTable rfl) pa_nil))))))))), ?_⟩
    refine ⟨_, rfl, e, C_NoChain, _, _, _, rfl, rfl, ref_only, he, T.x_NoChain, T.i_NoChain_NoLevel, _, rfl, ?_⟩
    refine ifN (by simp) ?_
    refine ⟨_, rfl, e, C_NoChain, _, _, _, rfl, rfl, ref_only, he, T.x_NoChain, T.i_NoChain_NoMap, _, rfl, ?_⟩
    refine ifN (by simp) ?_
    refine ⟨_, rfl, e, C_NoChain, _, _, _, rfl, rfl, ref_only, he, T.x_NoChain, T.i_NoChain_NoPair, _, rfl, ?_⟩
    refine ifN (by simp) ?_
    refine ⟨_, rfl, e, C_NoChain, _, _, _, rfl, rfl, ref_only, he, T.x_NoChain, T.i_NoChain_NoRound, _, rfl, ?_⟩
    refine ifN (by simp) ?_
    refine ⟨_, rfl, e, C_NoChain, _, _, _, rfl, rfl, ref_only, he, T.x_NoChain, T.i_NoChain_NoShape, _, rfl, ?_⟩
    refine ifN (by simp) ?_
    exact ⟨_, rfl, e, C_NoChain, _, _, _, rfl, rfl, ref_only, he, T.x_NoChain, T.i_NoChain_NoTable, k⟩
noncomputable abbrev s_is_whole_below : Stmt := top 2
theorem sc_is_whole_below : FnScope ["thing", "bound"] ["thing", "bound"] (defScope s_is_whole_below) := ⟨rfl, rfl, rfl, by decide +kernel, rfl, by decide +kernel, by decide +kernel⟩
theorem ok_is_whole_below {f : Addr} {fd : FuncData} (F : Fun K "is_whole_below" "is_whole_below" s_is_whole_below f fd) (T : Txt K mg C_HoleError C_NoShape C_NoLevel C_NoChain C_NoTable C_NoMap C_NoPair C_NoRound) (h_is_whole : Has P w K mg base "is_whole" ["thing"] 1 (sp_is_whole K)) : FnOk P w K mg base CX0 2 f fd ["thing", "bound"] (sp_is_whole_below K) := by
  refine F.ok sc_is_whole_below (fun vs H Q E h => ?_) (fun cdv A outer s H vs Q E hr h => ?_)
  · obtain ⟨x, d, b, rfl, hx, k⟩ := h
    rfl
  · obtain ⟨x, d, b, rfl, hx, k⟩ := h
    refine ⟨_, (pss_one (ps_ret (pe_and (pe_callH h_is_whole hr (by rfl) (pa_cons (pv 0) pa_nil)) (pe_one (pe_chain op_le op_lt pe_int (pv 0) (pv 1)))))), ?_⟩
    refine ⟨_, rfl, x, d, rfl, hx, _, rfl, ?_⟩
    refine ite2 (fun e => ?_) (fun e => ?_)
    · obtain ⟨i, rfl⟩ := wholeD_int e
      cases (show x = .int i from hx)
      refine ⟨_, rfl, _, _, rfl, rfl, _, rfl, ?_⟩
      refine ite2 (fun e1 => ?_) (fun e1 => ?_)
      · refine ⟨_, rfl, _, _, rfl, rfl, ?_⟩
        have e2 : belowD (.int i) b = decide (i < b) := by show (decide (0 ≤ i) && decide (i < b)) = _; rw [e1]; rfl
        rw [e2] at k
        exact k
      · have e2 : belowD (.int i) b = false := by show (decide (0 ≤ i) && decide (i < b)) = _; simp at e1; simp; omega
        rw [e2] at k
        exact k
    · have e2 : belowD d b = false := by
        cases d <;> first | rfl | (exfalso; exact e rfl)
      rw [e2] at k
      exact k
noncomputable abbrev s_places_of_level : Stmt := top 22
theorem sc_places_of_level : FnScope ["shape", "k"] ["shape", "k"] (defScope s_places_of_level) := ⟨rfl, rfl, rfl, by decide +kernel, rfl, by decide +kernel, by decide +kernel⟩
theorem ok_places_of_level {f : Addr} {fd : FuncData} (F : Fun K "places_of_level" "places_of_level" s_places_of_level f fd) (T : Txt K mg C_HoleError C_NoShape C_NoLevel C_NoChain C_NoTable C_NoMap C_NoPair C_NoRound) (h_level_of : Has P w K mg base "level_of" ["piece"] 1 (sp_level_of K)) : FnOk P w K mg base CX0 2 f fd ["shape", "k"] (sp_places_of_level K) := by
  refine F.ok sc_places_of_level (fun vs H Q E h => ?_) (fun cdv A outer s H vs Q E hr h => ?_)
  · obtain ⟨a, i, xs, rfl, hL, hxl, k⟩ := h
    rfl
  · obtain ⟨a, i, xs, rfl, hL, hxl, k⟩ := h
    refine ⟨_, (pss_one (ps_ret (pe_comp (N' := ["place", "piece", "k"]) (cap := [none, none, some 1]) (by rfl) (by kernel_rfl) (pi_enum (K := K) (by rfl) T.n_enumerate (pa_cons (pv 0) pa_nil)) (fun _ _ _ _ => (kpg_tup (K := K) (n := 2) (by rfl) (pgs_cons (pg_name (i := 0) ndc_2 (by rfl) (by first | exact Or.inl rfl | exact Or.inr rfl)) (pgs_cons (pg_name (i := 1) ndc_2 (by rfl) (by first | exact Or.inl rfl | exact Or.inr rfl)) pgs_nil)))) (fun _ _ _ _ => (pts_one (pt_cmpR op_eq (pe_callH h_level_of hr (by rfl) (pa_cons (pv 1) pa_nil)) (pv 2) (nomark _)))) (fun _ _ _ _ => (pv 0))))), ?_⟩
    obtain ⟨us, hq, hul⟩ := LT.len hL
    obtain ⟨_, us', z, hq', r⟩ := id hL
    cases z
    refine ⟨_, rfl, a, rfl, ⟨us', hq'⟩, fun D hD => ?_⟩
    have hul' : us'.length = xs.length := by have := r.length; simpa using this
    refine comp_enum (K := K) (a := a) (xs := us') (fun j ys τ H1 => j ≤ us'.length ∧ Same H H1 ∧ H1 D = some (.lst ys) ∧ ys = (plcN xs i j).map V.int ∧ ∃ o1 o2, τ = [o1, o2, some (.int i)])
      ⟨Nat.zero_le _, Same.new hD, upd_same, rfl, none, none, rfl⟩ (fun j ys τ H1 _ hm_ => by obtain ⟨_, s1, _⟩ := hm_; exact s1.seq hq') ?_ ?_
    · rintro j v ys τ H1 p hv ⟨hj, s1, hD1, hys, o1, o2, rfl⟩ hp
      have hj2 : j < us'.length := (List.getElem?_eq_some_iff.mp hv).1
      have hj3 : j < xs.length := by omega
      obtain ⟨dv, hdv, rv⟩ := r.getV hv
      have edv : dv = tI (xs.getD j []) := by
        rw [List.getElem?_map, List.getElem?_eq_getElem hj3] at hdv
        rw [List.getD_eq_getElem?_getD, List.getElem?_eq_getElem hj3]
        simpa using hdv.symm
      subst edv
      have sp : Same H1 (upd H1 p (.tup [.int j, v])) := Same.new hp
      refine ⟨p, _, rfl, .of upd_same, rfl, _, _, rfl, _, _, rfl, rfl, ?_⟩
      refine ⟨_, rfl, v, nums (xs.getD j []), rfl, .inr (Rep.same (s1.trans sp) rv), _, rfl, rfl, _, rfl, ?_⟩
      rw [show (nums (xs.getD j [])).length = (xs.getD j []).length from List.length_map ..]
      have hDp : (upd H1 p (.tup [.int j, v])) D = some (.lst ys) := sp _ _ hD1
      have yl : ys.length ≤ j := by rw [hys, List.length_map]; exact plcN_len ..
      refine ite2 (fun h2 => ?_) (fun h2 => ?_)
      · have h3 : levI (xs.getD j []).length = i := by simpa using h2
        refine ⟨_, rfl, hDp, small (by omega), by omega, (s1.trans sp).turn hD, upd_same, ?_, _, _, rfl⟩
        rw [plcN_yes h3, List.map_append, hys]
        rfl
      · have h3 : ¬ levI (xs.getD j []).length = i := by simpa using h2
        refine ⟨by omega, s1.trans sp, hDp, ?_, _, _, rfl⟩
        rw [plcN_no h3]
        exact hys
    · rintro ys τ H1 ⟨_, s1, hD1, hys, _⟩
      rw [hul'] at hys
      refine k D H1 hD s1 ?_
      rw [hD1, hys]
      rfl
noncomputable abbrev s_add_faces : Stmt := top 25
theorem sc_add_faces : FnScope ["chain", "faces", "number", "i", "face"] ["chain", "faces", "number"] (defScope s_add_faces) := ⟨rfl, rfl, rfl, by decide +kernel, rfl, by decide +kernel, by decide +kernel⟩
theorem nd_add_faces : (["chain", "faces", "number", "i", "face"] : List Str).Nodup := by decide +kernel

theorem ok_add_faces {f : Addr} {fd : FuncData} (F : Fun K "add_faces" "add_faces" s_add_faces f fd) (T : Txt K mg C_HoleError C_NoShape C_NoLevel C_NoChain C_NoTable C_NoMap C_NoPair C_NoRound) (h_add_at : Has P w K mg base "add_at" ["chain", "place", "number"] 1 (sp_add_at K)) : FnOk P w K mg base CX0 2 f fd ["chain", "faces", "number"] (sp_add_faces K) := by
  refine F.ok sc_add_faces (fun vs H Q E h => ?_) (fun cdv A outer s H vs Q E hr h => ?_)
  · obtain ⟨a, v, ms, fs, n, rfl, ha, hv, hm, kq⟩ := h
    rfl
  · obtain ⟨a, v, ms, fs, n, rfl, ha, hv, hm, kq⟩ := h
    refine ⟨_, (pss_one (ps_for PassesOwn.never rfl (pi_enumT (K := K) (by rfl) T.n_enumerate (pa_cons (pv 1) pa_nil)) (kpg_tup (K := K) (n := 2) (by rfl) (pgs_cons (pg_name (i := 3) nd_add_faces (by rfl) (by first | exact Or.inl rfl | exact Or.inr rfl)) (pgs_cons (pg_name (i := 4) nd_add_faces (by rfl) (by first | exact Or.inl rfl | exact Or.inr rfl)) pgs_nil))) (pss_one (ps_expr (pe_callH h_add_at hr (by rfl) (pa_cons (pv 0) (pa_cons (pv 4) (pa_cons (pe_ifExp (pt_cmpR op_eq (pe_op op_mod (pv 3) pe_int) pe_int (nomark _)) (pv 2) (pe_un un_neg (pv 2))) pa_nil)))))))), ?_⟩
    obtain ⟨af, rfl, sq⟩ := TI.sq hv
    refine ⟨_, rfl, af, rfl, ⟨_, sq⟩, for_enumT (K := K) (a := af) (xs := fs.map V.int) (fun i σ H1 => ∃ o1 o2, σ = [some (.ref a), some (.ref af), some (.int n), o1, o2] ∧ StayX a H H1 ∧ H1 a = some (.dK (cK (addFN ms fs n i))))
      ⟨none, none, rfl, fun _ _ _ e => e, ha⟩ (fun i σ H1 _ hm_ => by obtain ⟨_, _, _, s1, _⟩ := hm_; exact SqT.x s1 ha sq) ?_ ?_⟩
    · rintro i x σ H1 p hx ⟨o1, o2, rfl, s1, ha1⟩ hp
      have hi : i < fs.length := by have := (List.getElem?_eq_some_iff.mp hx).1; simpa using this
      have hxv : x = .int (fs.getD i 0) := by
        rw [List.getElem?_map, List.getElem?_eq_getElem hi] at hx
        rw [List.getD_eq_getElem?_getD, List.getElem?_eq_getElem hi]
        simpa using hx.symm
      subst hxv
      have sp : Same H1 (upd H1 p (.tup [.int i, .int (fs.getD i 0)])) := Same.new hp
      have ha2 := sp _ _ ha1
      have hl := len_addFN ms fs n i
      refine ⟨p, _, rfl, .of upd_same, rfl, _, _, rfl, _, _, rfl, rfl, ?_⟩
      have fin : ∀ m, m = sgn n i → sp_add_at K [.ref a, .int (fs.getD i 0), .int m] (upd H1 p (.tup [.int i, .int (fs.getD i 0)])) (fun v H' => ∃ o1 o2, ([some (.ref a), some (.ref af), some (.int n), some (.int (i : Int)), some (.int (fs.getD i 0))] : St) = [some (.ref a), some (.ref af), some (.int n), o1, o2] ∧ StayX a H H' ∧ H' a = some (.dK (cK (addFN ms fs n (i + 1))))) E0 := by
        intro m hm2
        subst hm2
        refine ⟨a, addFN ms fs n i, _, _, rfl, ha2, by omega, _, _, rfl, fun c q n1 e => ?_, upd_same⟩
        rw [upd_ne n1]
        exact sp _ _ (s1 c q n1 e)
      refine ⟨_, rfl, _, rfl, _, rfl, _, _, rfl, rfl, (by show (0 : Int) < 2; decide), rfl, _, rfl, ?_⟩
      refine ite2 (fun h1 => ?_) (fun h1 => ?_)
      · have h2 : (i : Int) % 2 = 0 := by simpa using h1
        exact ⟨_, rfl, fin n (by unfold sgn; rw [if_pos h2])⟩
      · have h2 : ¬ (i : Int) % 2 = 0 := by simpa using h1
        exact ⟨_, rfl, _, rfl, fin (-n) (by unfold sgn; rw [if_neg h2])⟩
    · rintro σ H1 ⟨o1, o2, rfl, s1, ha1⟩
      rw [List.length_map] at ha1
      exact kq H1 s1 ha1
noncomputable abbrev s_L_words_with : Stmt := top 32
theorem sc_L_words_with : FnScope ["_law_words", "_law_word", "_law_family", "_law_layer", "_law_rows", "_law_k", "_law_below", "_law_one", "_law_face", "_law_more"] ["_law_words", "_law_word", "_law_family"] (defScope s_L_words_with) := ⟨rfl, rfl, rfl, by decide +kernel, rfl, by decide +kernel, by decide +kernel⟩
theorem nd_L_words_with : (["_law_words", "_law_word", "_law_family", "_law_layer", "_law_rows", "_law_k", "_law_below", "_law_one", "_law_face", "_law_more"] : List Str).Nodup := by decide +kernel

noncomputable def tl_L_words_with_0 (K : PySem.W.Frag) : TS := L2.tAsg (L2.tLst (L2.tCons (L2.tVar 1) L2.tNil)) (L2.gName 3)
noncomputable def tl_L_words_with_1 (K : PySem.W.Frag) : TS := L2.tAsg (L2.tOp (L2.rCatLW K) (L2.tVar 3) (L2.tVar 4)) (L2.gName 4)
noncomputable def tl_L_words_with_2 (K : PySem.W.Frag) : TS := L2.tDrop (L2.tBM K "list" L2.rAppend (L2.tVar 6) (L2.tCons (L2.tVar 8) L2.tNil))
noncomputable def tl_L_words_with_3 (K : PySem.W.Frag) : TS := L2.tIfS
  (L2.tAnd (L2.tTest (L2.tOp (L2.rInD K 8 Bool.true) (L2.tVar 8) (L2.tVar 0)))
    (L2.tTest (L2.tOp (L2.rInD K 8 Bool.true) (L2.tVar 8) (L2.tVar 6))))
  (tl_L_words_with_2 K) L2.tNext
noncomputable def tl_L_words_with_4 (K : PySem.W.Frag) : TS := L2.tFor (L2.iList K (L2.tCall (Hb.sp_L_faces_by K) [] L2.E0 (L2.tCons (L2.tVar 7) (L2.tCons (L2.tVar 2) L2.tNil))))
  (L2.gName 8) (tl_L_words_with_3 K)
noncomputable def tl_L_words_with_5 (K : PySem.W.Frag) : TS := L2.tFor (L2.iList K (L2.tVar 3)) (L2.gName 7) (tl_L_words_with_4 K)
noncomputable def tl_L_words_with_6 (K : PySem.W.Frag) : TS := L2.tSeq (tl_L_words_with_5 K) (L2.tAsg (L2.tVar 6) (L2.gName 3))
noncomputable def tl_L_words_with_7 (K : PySem.W.Frag) : TS := L2.tSeq (L2.tAsg (L2.tLst L2.tNil) (L2.gName 6)) (tl_L_words_with_6 K)
noncomputable def tl_L_words_with_8 (K : PySem.W.Frag) : TS := L2.tSeq (tl_L_words_with_1 K) (tl_L_words_with_7 K)
noncomputable def tl_L_words_with_9 (K : PySem.W.Frag) : TS := L2.tFor (L2.iRng1 (L2.tCons (L2.tC (L2.V.int 4)) L2.tNil)) (L2.gName 5) (tl_L_words_with_8 K)
noncomputable def tl_L_words_with_10 (K : PySem.W.Frag) : TS := L2.tAsg
  (L2.tCB
    (fun (xs : List L2.V) (H : L2.Hp) (Q : L2.VK) ↦
      ∃ (p : PySem.Addr),
        ∃ (ys : List L2.V),
          xs = [L2.V.ref p] ∧
            (L2.SqL K H p ys ∨ L2.SqT K H p ys) ∧
              ∀ (l : PySem.Addr), H l = Option.none → Q (L2.V.ref l) (L2.upd H l (L2.HO.lst ys)))
    (L2.tCons (L2.tVar 0) L2.tNil))
  (L2.gName 9)
noncomputable def tl_L_words_with_11 (K : PySem.W.Frag) : TS := L2.tDrop (L2.tBM K "list" L2.rAppend (L2.tVar 9) (L2.tCons (L2.tVar 7) L2.tNil))
noncomputable def tl_L_words_with_12 (K : PySem.W.Frag) : TS := L2.tIfS (L2.tTest (L2.tOp (L2.rInD K 8 Bool.true) (L2.tVar 7) (L2.tVar 9))) (tl_L_words_with_11 K) L2.tNext
noncomputable def tl_L_words_with_13 (K : PySem.W.Frag) : TS := L2.tFor (L2.iList K (L2.tVar 4)) (L2.gName 7) (tl_L_words_with_12 K)
noncomputable def tl_L_words_with_14 (K : PySem.W.Frag) : TS := L2.tSeq (tl_L_words_with_13 K) (L2.tRet (L2.tVar 9))
noncomputable def tl_L_words_with_15 (K : PySem.W.Frag) : TS := L2.tSeq (tl_L_words_with_10 K) (tl_L_words_with_14 K)
noncomputable def tl_L_words_with_16 (K : PySem.W.Frag) : TS := L2.tSeq (tl_L_words_with_9 K) (tl_L_words_with_15 K)
noncomputable def tl_L_words_with_17 (K : PySem.W.Frag) : TS := L2.tSeq (L2.tAsg (L2.tLst L2.tNil) (L2.gName 4)) (tl_L_words_with_16 K)
noncomputable def tl_L_words_with_18 (K : PySem.W.Frag) : TS := L2.tSeq (tl_L_words_with_0 K) (tl_L_words_with_17 K)
theorem ok_L_words_with {f : Addr} {fd : FuncData} (F : Fun K "_law_words_with" "_law_words_with" s_L_words_with f fd) (T : Txt K mg C_HoleError C_NoShape C_NoLevel C_NoChain C_NoTable C_NoMap C_NoPair C_NoRound) (h_L_faces_by : Has P w K mg base "_law_faces_by" ["_law_word", "_law_family"] 1 (sp_L_faces_by K)) : FnOk P w K mg base CX0 2 f fd ["_law_words", "_law_word", "_law_family"] (sp_L_words_with K) := by
  refine F.ok sc_L_words_with (fun vs H Q E h => ?_) (fun cdv A outer s H vs Q E hr h => ?_)
  · obtain ⟨l, us, v, ws, w, fam, rfl, hl, hr0, hv, hw, hlen, k⟩ := h
    rfl
  · obtain ⟨l, us, v, ws, w, fam, rfl, hl, hr0, hv, hw, hlen, k⟩ := h
    have hu8 : (A.deeper (PyProof.Rows.envOfC "_law_words_with" (defScope s_L_words_with) s.heap.objs.size f cdv)).units + 8 < cLine := by have := hr.units; omega
    refine ⟨tl_L_words_with_18 K, (pss_cons (ps_set (i := 3) nd_L_words_with (by rfl) (by first | exact Or.inl rfl | exact Or.inr rfl) (pe_lst (pa_cons (pv 1) pa_nil)))
      (pss_cons (ps_set (i := 4) nd_L_words_with (by rfl) (by first | exact Or.inl rfl | exact Or.inr rfl) (pe_lst pa_nil))
      (pss_cons (ps_for PassesOwn.never rfl (pi_range1 (by rfl) T.n_range (pa_cons pe_int pa_nil)) (pg_name (i := 5) nd_L_words_with (by rfl) (by first | exact Or.inl rfl | exact Or.inr rfl)) (pss_cons (ps_set (i := 4) nd_L_words_with (by rfl) (by first | exact Or.inl rfl | exact Or.inr rfl) (pe_op (kop_catLW (K := K)) (pv 3) (pv 4)))
      (pss_cons (ps_set (i := 6) nd_L_words_with (by rfl) (by first | exact Or.inl rfl | exact Or.inr rfl) (pe_lst pa_nil))
      (pss_cons (ps_for PassesOwn.never rfl (kpi_list (K := K) (pv 3)) (pg_name (i := 7) nd_L_words_with (by rfl) (by first | exact Or.inl rfl | exact Or.inr rfl)) (pss_one (ps_for PassesOwn.never rfl (kpi_list (K := K) (pe_callH h_L_faces_by hr (by rfl) (pa_cons (pv 7) (pa_cons (pv 2) pa_nil)))) (pg_name (i := 8) nd_L_words_with (by rfl) (by first | exact Or.inl rfl | exact Or.inr rfl)) (pss_one (ps_if (PW.pt (pw_and (pt_cmpR (kop_notInD (K := K) hu8) (pv 8) (pv 0) rfl) (pw_and1 (pt_cmpR (kop_notInD (K := K) hu8) (pv 8) (pv 6) rfl)))) (pss_one (ps_expr (kpe_bm (K := K) PySem.F.plainAttrs_list PySem.F.slot_list_append PySem.F.type_list_append mt_append (pv 6) (pa_cons (pv 8) pa_nil)))) pss_nil)))))
      (pss_one (ps_set (i := 3) nd_L_words_with (by rfl) (by first | exact Or.inl rfl | exact Or.inr rfl) (pv 6)))))))
      (pss_cons (ps_set (i := 9) nd_L_words_with (by rfl) (by first | exact Or.inl rfl | exact Or.inr rfl) (pe_callTy (kcall_list_of (K := K)) (by rfl) T.n_list boot_listT (pa_cons (pv 0) pa_nil)))
      (pss_cons (ps_for PassesOwn.never rfl (kpi_list (K := K) (pv 4)) (pg_name (i := 7) nd_L_words_with (by rfl) (by first | exact Or.inl rfl | exact Or.inr rfl)) (pss_one (ps_if (pt_cmpR (kop_notInD (K := K) hu8) (pv 7) (pv 9) rfl) (pss_one (ps_expr (kpe_bm (K := K) PySem.F.plainAttrs_list PySem.F.slot_list_append PySem.F.type_list_append mt_append (pv 9) (pa_cons (pv 7) pa_nil)))) pss_nil)))
      (pss_one (ps_ret (pv 9)))))))), ?_⟩
    have s0w : ∀ u ∈ [w], Word fam u := fun u hu => by
      have e : u = w := by simpa using hu
      subst e
      exact hw
    refine ⟨_, rfl, smallE (by simp), fun L0 hL0 => ?_⟩
    have s1 : Same H (upd H L0 (.lst [v])) := Same.new hL0
    refine ⟨Nat.zero_le _, fun R0 hR0 => ?_⟩
    have s2 : Same (upd H L0 (.lst [v])) (upd (upd H L0 (.lst [v])) R0 (.lst [])) := Same.new hR0
    refine ⟨_, rfl, by decide, by decide, for_range (lo := 0) (n := (4 : Int).toNat)
      (fun i σ H2 => ∃ (L R : Addr) (lu ru : List V) (layer rows : List (List Int)) (o5 o6 o7 o8 o9 : Option V), σ = [some (.ref l), some v, some (.int fam), some (.ref L), some (.ref R), o5, o6, o7, o8, o9] ∧ Same H H2 ∧
        H2 L = some (.lst lu) ∧ Reps K H2 lu (layer.map tI) ∧ H2 R = some (.lst ru) ∧ Reps K H2 ru (rows.map tI) ∧ (∀ u ∈ layer, Word fam u) ∧ layers ws fam (4 - i) layer rows = layers ws fam 4 [w] [] ∧ layer.length ≤ 4 ^ i ∧ rows.length ≤ 1000 * i)
      ⟨L0, R0, [v], [], [w], [], none, none, none, none, none, rfl, s1.trans s2, s2 _ _ upd_same, Reps.one (TI.same (s1.trans s2) hv), upd_same, rfl, s0w, rfl, by simp, by simp⟩ ?_ ?_⟩
    · rintro i σ H2 hi ⟨L, R, lu, ru, layer, rows, o5, o6, o7, o8, o9, rfl, sH, hL, rL, hR, rR, hWl, hlay, hll, hrl⟩
      have hi4 : i < 4 := by simpa using hi
      have h4i : 4 ^ i ≤ 64 := by
        have : i = 0 ∨ i = 1 ∨ i = 2 ∨ i = 3 := by omega
        rcases this with rfl | rfl | rfl | rfl <;> decide
      have lul : lu.length = layer.length := by have := rL.length; simpa using this
      have rul : ru.length = rows.length := by have := rR.length; simpa using this
      refine ⟨_, rfl, _, rfl, L, R, _, _, rfl, rfl, .of hL, .of hR, smallE (by omega), fun R1 hR1 => ?_⟩
      have sa : Same H2 (upd H2 R1 (.lst (lu ++ ru))) := Same.new hR1
      have hR1a : (upd H2 R1 (.lst (lu ++ ru))) R1 = some (.lst (lu ++ ru)) := upd_same
      have rRa : Reps K (upd H2 R1 (.lst (lu ++ ru))) (lu ++ ru) ((layer ++ rows).map tI) := by
        rw [List.map_append]
        exact (Reps.same sa rL).append (Reps.same sa rR)
      have hLa := sa _ _ hL
      have rLa : Reps K (upd H2 R1 (.lst (lu ++ ru))) lu (layer.map tI) := Reps.same sa rL
      have sHa : Same H (upd H2 R1 (.lst (lu ++ ru))) := sH.trans sa
      refine ⟨Nat.zero_le _, fun B hB => ?_⟩
      have sb : Same (upd H2 R1 (.lst (lu ++ ru))) (upd (upd H2 R1 (.lst (lu ++ ru))) B (.lst [])) := Same.new hB
      have hBH : H B = none := sHa.free hB
      refine ⟨_, rfl, L, rfl, ⟨_, .of (sb _ _ hLa)⟩, for_list (K := K) (a := L) (xs := lu)
        (fun j σ H3 => ∃ (bu : List V) (o7 o8 : Option V), σ = [some (.ref l), some v, some (.int fam), some (.ref L), some (.ref R1), some (.int (0 + i)), some (.ref B), o7, o8, o9] ∧ Same (upd H2 R1 (.lst (lu ++ ru))) H3 ∧ H3 B = some (.lst bu) ∧
          Reps K H3 bu ((below ws fam [] (layer.take j)).map tI))
        ⟨[], _, _, rfl, sb, upd_same, rfl⟩ (fun j σ H3 _ hm_ => by obtain ⟨_, _, _, _, s3, _⟩ := hm_; exact .of (s3 _ _ hLa)) ?_ ?_⟩
      · rintro j x σ H3 hx ⟨bu, o7, o8, rfl, s3, hB3, rB⟩
        have hj : j < lu.length := (List.getElem?_eq_some_iff.mp hx).1
        have hjl : j < layer.length := by omega
        have hjx : (layer.map tI)[j]? = some (tI layer[j]) := by rw [List.getElem?_map, List.getElem?_eq_getElem hjl]; rfl
        obtain ⟨x', hx', tx⟩ := rLa.get hjx
        rw [hx] at hx'
        cases hx'
        have hwj : Word fam layer[j] := hWl _ (List.getElem_mem _)
        refine ⟨_, rfl, _, rfl, x, layer[j], fam, rfl, TI.same s3 tx, hwj, fun p fu H4 hp s4 hp4 r4 => ?_⟩
        have fl := faces_len hwj
        have ful : fu.length = (facesBy layer[j] fam).length := by have := r4.length; simpa using this
        have hpB : p ≠ B := fun z => by rw [z, hB3] at hp; cases hp
        have hB4 := s4 _ _ hB3
        refine ⟨p, rfl, ⟨_, .of hp4⟩, for_list (K := K) (a := p) (xs := fu)
          (fun m σ H5 => ∃ (bu : List V) (o8 : Option V), σ = [some (.ref l), some v, some (.int fam), some (.ref L), some (.ref R1), some (.int (0 + i)), some (.ref B), some x, o8, o9] ∧ SameX B H4 H5 ∧ H5 B = some (.lst bu) ∧
            Reps K H5 bu ((addNew ws (below ws fam [] (layer.take j)) ((facesBy layer[j] fam).take m)).map tI) ∧ (addNew ws (below ws fam [] (layer.take j)) ((facesBy layer[j] fam).take m)).length ≤ 1000)
          ⟨bu, _, rfl, SameX.refl _ _, hB4, (by simpa [addNew] using Reps.same s4 rB), ?_⟩ (fun m σ H5 _ hm_ => by obtain ⟨_, _, _, s5, _⟩ := hm_; exact .of (s5 _ _ hpB hp4)) ?_ ?_⟩
        · have := below_len (ws := ws) (fam := fam) (layer.take j) [] (fun u hu => hWl u (List.mem_of_mem_take hu))
          simp only [List.take_zero, addNew, List.length_nil, List.length_take] at this ⊢
          omega
        · rintro m y σ H5 hy ⟨bu5, o8', rfl, s5, hB5, rB5, hbl5⟩
          have hm : m < fu.length := (List.getElem?_eq_some_iff.mp hy).1
          have hmf : m < (facesBy layer[j] fam).length := by omega
          have hmy : ((facesBy layer[j] fam).map tI)[m]? = some (tI (facesBy layer[j] fam)[m]) := by rw [List.getElem?_map, List.getElem?_eq_getElem hmf]; rfl
          obtain ⟨y', hy', ty⟩ := r4.get hmy
          rw [hy] at hy'
          cases hy'
          generalize hf : (facesBy layer[j] fam)[m] = fc at ty
          have ty5 : TI K H5 y fc := TI.t (s5.t hB4) ty
          have hl5 : H5 l = some (.lst us) := by
            refine s5 l _ (fun z => ?_) (s4 _ _ (s3 _ _ (sHa _ _ hl)))
            rw [z] at hl
            rw [hl] at hBH
            cases hBH
          have rl5 : Rep K H5 (.ref l) (.lst (ws.map tI)) := ⟨l, us, rfl, .of hl5, Reps.t (s5.t hB4) (imms_tIs ws) (Reps.same ((sHa.trans s3).trans s4) hr0)⟩
          have rb5 : Rep K H5 (.ref B) (.lst ((addNew ws (below ws fam [] (layer.take j)) ((facesBy layer[j] fam).take m)).map tI)) := ⟨B, bu5, rfl, .of hB5, rB5⟩
          have e0 : addNew ws (below ws fam [] (layer.take j)) ((facesBy layer[j] fam).take (m + 1)) = (if fc ∉ ws ∧ fc ∉ addNew ws (below ws fam [] (layer.take j)) ((facesBy layer[j] fam).take m) then addNew ws (below ws fam [] (layer.take j)) ((facesBy layer[j] fam).take m) ++ [fc] else addNew ws (below ws fam [] (layer.take j)) ((facesBy layer[j] fam).take m)) := by
            rw [List.take_succ, List.getElem?_eq_getElem hmf, hf]
            exact addNew_snoc _ _ _ _
          have hbu5 : bu5.length = (addNew ws (below ws fam [] (layer.take j)) ((facesBy layer[j] fam).take m)).length := by have := rB5.length; simpa using this
          have hlen6 : (addNew ws (below ws fam [] (layer.take j)) ((facesBy layer[j] fam).take (m + 1))).length ≤ 1000 := by
            have h1 := addNew_len (ws := ws) ((facesBy layer[j] fam).take (m + 1)) (below ws fam [] (layer.take j))
            have h2 := below_len (ws := ws) (fam := fam) (layer.take j) [] (fun u hu => hWl u (List.mem_of_mem_take hu))
            simp only [List.length_nil, List.length_take] at h1 h2
            have h3 : (facesBy layer[j] fam).length ≤ 4 := by have := fl.1; have := fl.2; split at * <;> omega
            omega
          generalize hacc : addNew ws (below ws fam [] (layer.take j)) ((facesBy layer[j] fam).take m) = acc at rB5 rb5 e0 hbu5 hbl5
          refine ⟨_, rfl, _, rfl, tI fc, ws.map tI, ty5, .inl rl5, (by have := deps_tIs ws; omega), _, rfl, ?_⟩
          by_cases h1 : fc ∈ ws
          · refine ifN (by rw [if_pos rfl, any_tI]; simp [h1]) ?_
            refine ifN (by simp) ?_
            refine ⟨bu5, _, rfl, s5, hB5, ?_, hlen6⟩
            rw [e0, if_neg (by simp [h1])]
            exact rB5
          · refine ifP (by rw [if_pos rfl, any_tI]; simp [h1]) ?_
            refine ⟨_, rfl, _, rfl, tI fc, acc.map tI, ty5, .inl rb5, (by have := deps_tIs acc; omega), _, rfl, ?_⟩
            by_cases h2 : fc ∈ acc
            · refine ifN (by rw [if_pos rfl, any_tI]; simp [h2]) ?_
              refine ⟨bu5, _, rfl, s5, hB5, ?_, hlen6⟩
              rw [e0, if_neg (by simp [h2])]
              exact rB5
            · refine ifP (by rw [if_pos rfl, any_tI]; simp [h2]) ?_
              refine ⟨_, rfl, .inl ⟨rfl, _, .of hB5⟩, _, rfl, B, _, _, rfl, rfl, hB5, small (by omega), ?_⟩
              refine ⟨_, _, rfl, s5.upd, upd_same, ?_, hlen6⟩
              rw [e0, if_pos ⟨h1, h2⟩]
              exact push_TI hB5 rB5 ty5
        · rintro σ H5 ⟨bu5, o8', rfl, s5, hB5, rB5, _⟩
          refine ⟨bu5, _, _, rfl, ?_, hB5, ?_⟩
          · exact s5.same (s3.trans s4) hB
          · rw [ful, List.take_length] at rB5
            rw [List.take_succ, List.getElem?_eq_getElem hjl]
            have e1 : below ws fam [] (layer.take j ++ (some layer[j]).toList) = addNew ws (below ws fam [] (layer.take j)) (facesBy layer[j] fam) := below_snoc _ _ _ _ _
            rw [e1]
            exact rB5
      · rintro σ H3 ⟨bu, o7, o8, rfl, s3, hB3, rB⟩
        rw [lul, List.take_length] at rB
        refine ⟨_, rfl, ?_⟩
        refine ⟨B, R1, bu, lu ++ ru, below ws fam [] layer, layer ++ rows, _, _, _, _, _, rfl, sHa.trans s3, hB3, rB, s3 _ _ hR1a, Reps.same s3 rRa, ?_, ?_, ?_, ?_⟩
        · intro u hu
          rcases below_sub _ _ hu with z | ⟨t, ht, z⟩
          · exact nomatch z
          · exact (faces_word (hWl t ht) z).1
        · rw [← hlay, show 4 - i = (4 - (i + 1)) + 1 by omega]
          rfl
        · have := below_len (ws := ws) (fam := fam) layer [] hWl
          simp only [List.length_nil] at this
          rw [Nat.pow_succ]
          omega
        · rw [List.length_append]
          omega
    · rintro σ H2 ⟨L, R, lu, ru, layer, rows, o5, o6, o7, o8, o9, rfl, sH, hL, rL, hR, rR, hWl, hlay, hll, hrl⟩
      have hrows : rows = layers ws fam 4 [w] [] := hlay
      have hrl2 := layers_len (ws := ws) hw
      rw [← hrows] at hrl2
      have rul : ru.length = rows.length := by have := rR.length; simpa using this
      refine ⟨_, rfl, l, _, rfl, .inl (.of (sH _ _ hl)), fun M hM => ?_⟩
      have sm : Same H2 (upd H2 M (.lst us)) := Same.new hM
      have hMH : H M = none := sH.free hM
      have usl : us.length = ws.length := by have := hr0.length; simpa using this
      refine ⟨_, rfl, R, rfl, ⟨_, .of (sm _ _ hR)⟩, for_list (K := K) (a := R) (xs := ru)
        (fun j σ H3 => ∃ (mu : List V) (o7 : Option V), σ = [some (.ref l), some v, some (.int fam), some (.ref L), some (.ref R), o5, o6, o7, o8, some (.ref M)] ∧ Same H2 H3 ∧ H3 M = some (.lst mu) ∧ Reps K H3 mu ((addAll ws (rows.take j)).map tI))
        ⟨us, _, rfl, sm, upd_same, (by simpa [addAll] using Reps.same (sH.trans sm) hr0)⟩ (fun j σ H3 _ hm_ => by obtain ⟨_, _, _, s3, _⟩ := hm_; exact .of (s3 _ _ hR)) ?_ ?_⟩
      · rintro j x σ H3 hx ⟨mu, o7', rfl, s3, hM3, rM⟩
        have hj : j < ru.length := (List.getElem?_eq_some_iff.mp hx).1
        have hjl : j < rows.length := by omega
        have hjx : (rows.map tI)[j]? = some (tI rows[j]) := by rw [List.getElem?_map, List.getElem?_eq_getElem hjl]; rfl
        obtain ⟨x', hx', tx⟩ := rR.get hjx
        rw [hx] at hx'
        cases hx'
        generalize hf : rows[j] = fc at tx
        have tx3 : TI K H3 x fc := TI.same s3 tx
        have e0 : addAll ws (rows.take (j + 1)) = (if fc ∈ addAll ws (rows.take j) then addAll ws (rows.take j) else addAll ws (rows.take j) ++ [fc]) := by
          rw [List.take_succ, List.getElem?_eq_getElem hjl, hf]
          exact addAll_snoc _ _ _
        have hal := addAll_len (rows.take j) ws
        rw [List.length_take] at hal
        have mul : mu.length = (addAll ws (rows.take j)).length := by have := rM.length; simpa using this
        generalize hacc : addAll ws (rows.take j) = acc at rM e0 hal mul
        have rm3 : Rep K H3 (.ref M) (.lst (acc.map tI)) := ⟨M, mu, rfl, .of hM3, rM⟩
        refine ⟨_, rfl, _, rfl, tI fc, acc.map tI, tx3, .inl rm3, (by have := deps_tIs acc; omega), _, rfl, ?_⟩
        by_cases h1 : fc ∈ acc
        · refine ifN (by rw [if_pos rfl, any_tI]; simp [h1]) ?_
          refine ⟨mu, _, rfl, s3, hM3, ?_⟩
          rw [e0, if_pos h1]
          exact rM
        · refine ifP (by rw [if_pos rfl, any_tI]; simp [h1]) ?_
          refine ⟨_, rfl, .inl ⟨rfl, _, .of hM3⟩, _, rfl, M, _, _, rfl, rfl, hM3, small (by omega), ?_⟩
          refine ⟨_, _, rfl, s3.turn hM, upd_same, ?_⟩
          rw [e0, if_neg h1]
          exact push_TI hM3 rM tx3
      · rintro σ H3 ⟨mu, o7', rfl, s3, hM3, rM⟩
        rw [rul, List.take_length, hrows] at rM
        exact ⟨_, rfl, k M mu H3 hMH (sH.trans s3) hM3 rM⟩
noncomputable abbrev s_L_chain_by : Stmt := top 36
theorem sc_L_chain_by : FnScope ["_law_spots", "_law_cells", "_law_made", "_law_cell", "_law_number"] ["_law_spots", "_law_cells"] (defScope s_L_chain_by) := ⟨rfl, rfl, rfl, by decide +kernel, rfl, by decide +kernel, by decide +kernel⟩
theorem nd_L_chain_by : (["_law_spots", "_law_cells", "_law_made", "_law_cell", "_law_number"] : List Str).Nodup := by decide +kernel

noncomputable def tl_L_chain_by_0 (K : PySem.W.Frag) : TS := L2.tAsg
  (L2.tCall (Hb.sp_L_number_by K) [] L2.E0
    (L2.tCons
      (L2.tOp (L2.rI L2.CDiv fun (i j : Int) ↦ L2.V.int (i / j)) (L2.tVar 3)
        (L2.tCB
          (fun (xs : List L2.V) (H : L2.Hp) (Q : L2.VK) ↦
            ∃ (p : PySem.Addr),
              ∃ (ys : List L2.V), xs = [L2.V.ref p] ∧ (L2.SqL K H p ys ∨ L2.SqT K H p ys) ∧ Q (L2.V.int ↑ys.length) H)
          (L2.tCons (L2.tVar 0) L2.tNil)))
      L2.tNil))
  (L2.gName 4)
noncomputable def tl_L_chain_by_1 (K : PySem.W.Frag) : TS := L2.sDPut (L2.tVar 2)
  (L2.tOp (L2.rIxL K) (L2.tVar 0)
    (L2.tOp (L2.rI (fun (x j : Int) ↦ 0 < j) fun (i j : Int) ↦ L2.V.int (i % j)) (L2.tVar 3)
      (L2.tCB
        (fun (xs : List L2.V) (H : L2.Hp) (Q : L2.VK) ↦
          ∃ (p : PySem.Addr),
            ∃ (ys : List L2.V), xs = [L2.V.ref p] ∧ (L2.SqL K H p ys ∨ L2.SqT K H p ys) ∧ Q (L2.V.int ↑ys.length) H)
        (L2.tCons (L2.tVar 0) L2.tNil))))
  (L2.tVar 4)
noncomputable def tl_L_chain_by_2 (K : PySem.W.Frag) : TS := L2.tIfS (L2.tTest (L2.tOp L2.rNe (L2.tVar 4) (L2.tC (L2.V.int 0)))) (tl_L_chain_by_1 K) L2.tNext
noncomputable def tl_L_chain_by_3 (K : PySem.W.Frag) : TS := L2.tSeq (tl_L_chain_by_0 K) (tl_L_chain_by_2 K)
noncomputable def tl_L_chain_by_4 (K : PySem.W.Frag) : TS := L2.tIfS
  (L2.tTest
    (L2.tOp (L2.rI0 fun (i j : Int) ↦ L2.V.bl (Decidable.decide (j < i)))
      (L2.tCB
        (fun (xs : List L2.V) (H : L2.Hp) (Q : L2.VK) ↦
          ∃ (p : PySem.Addr),
            ∃ (ys : List L2.V), xs = [L2.V.ref p] ∧ (L2.SqL K H p ys ∨ L2.SqT K H p ys) ∧ Q (L2.V.int ↑ys.length) H)
        (L2.tCons (L2.tVar 0) L2.tNil))
      (L2.tC (L2.V.int 0))))
  (tl_L_chain_by_3 K) L2.tNext
noncomputable def tl_L_chain_by_5 (K : PySem.W.Frag) : TS := L2.tFor (L2.iList K (L2.tVar 1)) (L2.gName 3) (tl_L_chain_by_4 K)
noncomputable def tl_L_chain_by_6 (K : PySem.W.Frag) : TS := L2.tSeq (tl_L_chain_by_5 K) (L2.tRet (L2.tVar 2))
noncomputable def tl_L_chain_by_7 (K : PySem.W.Frag) : TS := L2.tSeq (L2.tAsg L2.tDNewK (L2.gName 2)) (tl_L_chain_by_6 K)
theorem ok_L_chain_by {f : Addr} {fd : FuncData} (F : Fun K "_law_chain_by" "_law_chain_by" s_L_chain_by f fd) (T : Txt K mg C_HoleError C_NoShape C_NoLevel C_NoChain C_NoTable C_NoMap C_NoPair C_NoRound) (h_L_number_by : Has P w K mg base "_law_number_by" ["_law_cell"] 1 (sp_L_number_by K)) : FnOk P w K mg base CX0 2 f fd ["_law_spots", "_law_cells"] (sp_L_chain_by K) := by
  refine F.ok sc_L_chain_by (fun vs H Q E h => ?_) (fun cdv A outer s H vs Q E hr h => ?_)
  · obtain ⟨l, c, sp, ns, rfl, hsp, hns, hsl, hnl, kq⟩ := h
    rfl
  · obtain ⟨l, c, sp, ns, rfl, hsp, hns, hsl, hnl, kq⟩ := h
    have hu8 : (A.deeper (PyProof.Rows.envOfC "_law_chain_by" (defScope s_L_chain_by) s.heap.objs.size f cdv)).units + 8 < cLine := by have := hr.units; omega
    refine ⟨tl_L_chain_by_7 K, (pss_cons (ps_set (i := 2) nd_L_chain_by (by rfl) (by first | exact Or.inl rfl | exact Or.inr rfl) pe_dnewK)
      (pss_cons (ps_for PassesOwn.never rfl (kpi_list (K := K) (pv 1)) (pg_name (i := 3) nd_L_chain_by (by rfl) (by first | exact Or.inl rfl | exact Or.inr rfl)) (pss_one (ps_if (pt_cmpR op_gt (pe_callB (kcall_len_seq (K := K)) (by rfl) T.n_len PySem.boot_len (pa_cons (pv 0) pa_nil)) pe_int (nomark _)) (pss_cons (ps_set (i := 4) nd_L_chain_by (by rfl) (by first | exact Or.inl rfl | exact Or.inr rfl) (pe_callH h_L_number_by hr (by rfl) (pa_cons (pe_op op_fdiv (pv 3) (pe_callB (kcall_len_seq (K := K)) (by rfl) T.n_len PySem.boot_len (pa_cons (pv 0) pa_nil))) pa_nil)))
      (pss_one (ps_if (pt_cmpR op_ne (pv 4) pe_int (nomark _)) (pss_one (ps_dput (u1 hu8) (pv 2) (pe_ix (kix_list (K := K)) (pv 0) (pe_op op_mod (pv 3) (pe_callB (kcall_len_seq (K := K)) (by rfl) T.n_len PySem.boot_len (pa_cons (pv 0) pa_nil))) (fun _ _ => rfl)) (pv 4) (by rfl))) pss_nil))) pss_nil)))
      (pss_one (ps_ret (pv 2))))), ?_⟩
    refine fun D hD => ?_
    have s0 : Same H (upd H D (.dK [])) := Same.new hD
    refine ⟨_, rfl, c, rfl, ⟨_, s0.seq hns⟩, for_list (K := K) (a := c) (xs := ns.map V.int) (fun i σ G => ∃ (o1 o2 : Option V) (ms : Ms), σ = [some (.ref l), some (.ref c), some (.ref D), o1, o2] ∧ Same H G ∧ G D = some (.dK (cK ms)) ∧ nd ms ∧ nz ms ∧ (∀ p ∈ ms, p.1 ∈ sp ∧ p.2.natAbs < 2 ^ 70) ∧ ms.length ≤ i)
      ⟨none, none, [], rfl, s0, upd_same, List.nodup_nil, (fun p hp => by cases hp), (fun p hp => by cases hp), Nat.le_refl _⟩ (fun i σ G _ hm_ => by obtain ⟨_, _, _, _, s1, _⟩ := hm_; exact s1.seq hns) ?_ ?_⟩
    · rintro i x σ G hx ⟨o1, o2, ms, rfl, s1, hDG, h1, h2, h3, h4⟩
      have hi : i < ns.length := by have := (List.getElem?_eq_some_iff.mp hx).1; simpa using this
      have hxv : x = .int ns[i] := by
        rw [List.getElem?_map, List.getElem?_eq_getElem hi] at hx
        simpa using hx.symm
      subst hxv
      refine ⟨_, rfl, l, _, rfl, .inl (s1.seq hsp), _, _, rfl, rfl, _, rfl, ?_⟩
      rw [List.length_map]
      refine ite2 (fun hp => ?_) (fun hp => ⟨_, _, ms, rfl, s1, hDG, h1, h2, h3, by omega⟩)
      have hpos : (0 : Int) < (sp.length : Int) := by simpa using hp
      refine ⟨_, rfl, _, rfl, l, _, rfl, .inl (s1.seq hsp), _, _, rfl, rfl, (by rw [List.length_map]; exact ⟨hpos, by omega⟩), _, rfl, fun v hv => ?_⟩
      refine ⟨_, rfl, rfl, _, rfl, ?_⟩
      refine ite2 (fun hz => ?_) (fun hz => ⟨_, _, ms, rfl, s1, hDG, h1, h2, h3, by omega⟩)
      have hv0 : ¬ v = 0 := by simpa using hz
      have m0 : 0 ≤ ns[i] % (sp.length : Int) := Int.emod_nonneg _ (by omega)
      have m1 : ns[i] % (sp.length : Int) < (sp.length : Int) := Int.emod_lt_of_pos _ hpos
      obtain ⟨t, ht⟩ := Int.eq_ofNat_of_zero_le m0
      have htl : t < sp.length := by omega
      have hat : atI (sp.map V.int) (ns[i] % ((sp.map V.int).length : Int)) = some (.int sp[t]) := by
        rw [List.length_map, ht]
        exact atI_nat (j := t) (by rw [List.getElem?_map, List.getElem?_eq_getElem htl]; rfl)
      refine ⟨_, rfl, _, rfl, _, rfl, _, rfl, _, rfl, l, _, rfl, .inl (s1.seq hsp), _, _, rfl, rfl, (by rw [List.length_map]; exact hpos), l, _, _, _, rfl, rfl, s1.seq hsp, hat, D, _, rfl, dput_ok hDG (by omega), ?_⟩
      refine ⟨_, _, putI ms sp[t] v, rfl, s1.turn hD, upd_same, nd_put h1 _ _, nz_put h2 hv0, fun p hp => ?_, ?_⟩
      · rcases mem_put hp with q | q
        · exact h3 p q
        · subst q
          exact ⟨List.getElem_mem htl, hv⟩
      · have := len_put ms sp[t] v
        omega
    · rintro σ G ⟨o1, o2, ms, rfl, s1, hDG, h1, h2, h3, h4⟩
      rw [List.length_map] at h4
      exact ⟨_, rfl, kq D G ms hD s1 hDG h1 h2 h3 (by omega)⟩
noncomputable abbrev s_is_place_of_level : Stmt := top 5
theorem sc_is_place_of_level : FnScope ["shape", "thing", "level"] ["shape", "thing", "level"] (defScope s_is_place_of_level) := ⟨rfl, rfl, rfl, by decide +kernel, rfl, by decide +kernel, by decide +kernel⟩
theorem ok_is_place_of_level {f : Addr} {fd : FuncData} (F : Fun K "is_place_of_level" "is_place_of_level" s_is_place_of_level f fd) (T : Txt K mg C_HoleError C_NoShape C_NoLevel C_NoChain C_NoTable C_NoMap C_NoPair C_NoRound) (h_is_whole_below : Has P w K mg base "is_whole_below" ["thing", "bound"] 2 (sp_is_whole_below K)) (h_level_of : Has P w K mg base "level_of" ["piece"] 1 (sp_level_of K)) : FnOk P w K mg base CX0 3 f fd ["shape", "thing", "level"] (sp_is_place_of_level K) := by
  refine F.ok sc_is_place_of_level (fun vs H Q E h => ?_) (fun cdv A outer s H vs Q E hr h => ?_)
  · obtain ⟨a, x, d, l, xs, rfl, hL, hx, k⟩ := h
    rfl
  · obtain ⟨a, x, d, l, xs, rfl, hL, hx, k⟩ := h
    refine ⟨_, (pss_one (ps_ret (pe_and (pe_callH h_is_whole_below hr (by rfl) (pa_cons (pv 1) (pa_cons (pe_callB (kcall_len_seq (K := K)) (by rfl) T.n_len PySem.boot_len (pa_cons (pv 0) pa_nil)) pa_nil))) (pe_one (pe_cmpR op_eq (pe_callH h_level_of hr (by rfl) (pa_cons (pe_ix (kix_list (K := K)) (pv 0) (pv 1) (fun _ _ => rfl)) pa_nil)) (pv 2) (nomark _)))))), ?_⟩
    obtain ⟨us, hq, hul⟩ := LT.len hL
    refine ⟨_, rfl, _, rfl, a, us, rfl, .inl hq, x, d, _, rfl, hx, _, rfl, ?_⟩
    rw [hul]
    refine ite2 (fun e => ?_) (fun e => ?_)
    · obtain ⟨i, rfl⟩ : ∃ i, d = .int i := by cases d <;> first | exact ⟨_, rfl⟩ | (exfalso; simp [belowD] at e)
      cases (show x = .int i from hx)
      have e' : (decide (0 ≤ i) && decide (i < (xs.length : Int))) = true := e
      have h0 : 0 ≤ i ∧ i < (xs.length : Int) := by simpa using e'
      obtain ⟨us', v, hq', hv, tv⟩ := LT.get hL h0.1 h0.2
      refine ⟨_, rfl, _, rfl, a, us', i, v, rfl, rfl, hq', hv, v, _, rfl, .inr tv, _, rfl, rfl, ?_⟩
      have e2 : placeLev xs (.int i) l = decide (levI (nums (xs.getD i.toNat [])).length = l) := by
        show (decide (0 ≤ i) && decide (i < (xs.length : Int)) && decide (levI (xs.getD i.toNat []).length = l)) = _
        rw [e']
        simp [nums]
      rw [e2] at k
      have e3 : decide (V.int (levI (nums (xs.getD i.toNat [])).length) = V.int l) = decide (levI (nums (xs.getD i.toNat [])).length = l) := by
        by_cases z : levI (nums (xs.getD i.toNat [])).length = l
        · simp [z]
        · simp [z]
      rw [e3]
      exact k
    · have e2 : placeLev xs d l = false := by
        cases d with
        | int i =>
          have e' : ¬ (decide (0 ≤ i) && decide (i < (xs.length : Int))) = true := e
          show (decide (0 ≤ i) && decide (i < (xs.length : Int)) && decide (levI (xs.getD i.toNat []).length = l)) = false
          rw [Bool.eq_false_iff.mpr e']
          rfl
        | _ => rfl
      rw [e2] at k
      exact k
noncomputable abbrev s_L_shape_by : Stmt := top 33
theorem sc_L_shape_by : FnScope ["_law_kind", "_law_cells", "_law_most", "_law_family", "_law_words", "_law_cell", "_law_more"] ["_law_kind", "_law_cells", "_law_most"] (defScope s_L_shape_by) := ⟨rfl, rfl, rfl, by decide +kernel, rfl, by decide +kernel, by decide +kernel⟩
theorem nd_L_shape_by : (["_law_kind", "_law_cells", "_law_most", "_law_family", "_law_words", "_law_cell", "_law_more"] : List Str).Nodup := by decide +kernel

noncomputable def tl_L_shape_by_0 (K : PySem.W.Frag) : TS := L2.tAsg (L2.tC (L2.V.int 0)) (L2.gName 3)
noncomputable def tl_L_shape_by_1 (K : PySem.W.Frag) : TS := L2.tAsg (L2.tUn (L2.rU fun (i : Int) ↦ L2.V.int (-i)) (L2.tC (L2.V.int 1))) (L2.gName 3)
noncomputable def tl_L_shape_by_2 (K : PySem.W.Frag) : TS := L2.tIfS
  (L2.tTest
    (L2.tOp L2.rEq
      (L2.tOp (L2.rI (fun (x j : Int) ↦ 0 < j) fun (i j : Int) ↦ L2.V.int (i % j)) (L2.tVar 0) (L2.tC (L2.V.int 3)))
      (L2.tC (L2.V.int 1))))
  (tl_L_shape_by_1 K) L2.tNext
noncomputable def tl_L_shape_by_3 (K : PySem.W.Frag) : TS := L2.tAsg
  (L2.tOp (L2.rI0 fun (i j : Int) ↦ L2.V.int (i + j)) (L2.tC (L2.V.int 1))
    (L2.tOp (L2.rI (fun (x j : Int) ↦ 0 < j) fun (i j : Int) ↦ L2.V.int (i % j))
      (L2.tOp (L2.rI L2.CDiv fun (i j : Int) ↦ L2.V.int (i / j)) (L2.tVar 0) (L2.tC (L2.V.int 18)))
      (L2.tC (L2.V.int 19))))
  (L2.gName 3)
noncomputable def tl_L_shape_by_4 (K : PySem.W.Frag) : TS := L2.tIfS
  (L2.tTest
    (L2.tOp L2.rEq
      (L2.tOp (L2.rI (fun (x j : Int) ↦ 0 < j) fun (i j : Int) ↦ L2.V.int (i % j)) (L2.tVar 0) (L2.tC (L2.V.int 3)))
      (L2.tC (L2.V.int 2))))
  (tl_L_shape_by_3 K) L2.tNext
noncomputable def tl_L_shape_by_5 (K : PySem.W.Frag) : TS := L2.tAsg
  (L2.tCall (Hb.sp_L_words_with K) [] L2.E0
    (L2.tCons (L2.tVar 4)
      (L2.tCons
        (L2.tCall (Hb.sp_L_word_by K) [] L2.E0
          (L2.tCons (L2.tVar 5)
            (L2.tCons (L2.tVar 3)
              (L2.tCons
                (L2.tOp (L2.rI0 fun (i j : Int) ↦ L2.V.int (i + j)) (L2.tC (L2.V.int 1))
                  (L2.tOp (L2.rI (fun (x j : Int) ↦ 0 < j) fun (i j : Int) ↦ L2.V.int (i % j))
                    (L2.tOp (L2.rI L2.CDiv fun (i j : Int) ↦ L2.V.int (i / j)) (L2.tVar 0) (L2.tC (L2.V.int 3)))
                    (L2.tC (L2.V.int 6))))
                L2.tNil))))
        (L2.tCons (L2.tVar 3) L2.tNil))))
  (L2.gName 6)
noncomputable def tl_L_shape_by_6 (K : PySem.W.Frag) : TS := L2.tIfS
  (L2.tTest
    (L2.tOp (L2.rI0 fun (i j : Int) ↦ L2.V.bl (Decidable.decide (i ≤ j)))
      (L2.tCB
        (fun (xs : List L2.V) (H : L2.Hp) (Q : L2.VK) ↦
          ∃ (p : PySem.Addr),
            ∃ (ys : List L2.V), xs = [L2.V.ref p] ∧ (L2.SqL K H p ys ∨ L2.SqT K H p ys) ∧ Q (L2.V.int ↑ys.length) H)
        (L2.tCons (L2.tVar 6) L2.tNil))
      (L2.tVar 2)))
  (L2.tAsg (L2.tVar 6) (L2.gName 4)) L2.tNext
noncomputable def tl_L_shape_by_7 (K : PySem.W.Frag) : TS := L2.tSeq (tl_L_shape_by_5 K) (tl_L_shape_by_6 K)
noncomputable def tl_L_shape_by_8 (K : PySem.W.Frag) : TS := L2.tFor (L2.iList K (L2.tVar 1)) (L2.gName 5) (tl_L_shape_by_7 K)
noncomputable def tl_L_shape_by_9 (K : PySem.W.Frag) : TS := L2.tRet
  (L2.tComp (L2.iList K (L2.tVar 4)) [Option.none, Option.some 3, Option.some 4] (L2.gName 0) L2.tYes
    (L2.tCB
      (fun (xs : List L2.V) (H : L2.Hp) (Q : L2.VK) ↦
        ∃ (p : PySem.Addr),
          ∃ (ys : List L2.V),
            xs = [L2.V.ref p] ∧
              ((L2.SqL K H p ys ∧ ∀ (l : PySem.Addr), H l = Option.none → Q (L2.V.ref l) (L2.upd H l (L2.HO.tup ys))) ∨
                L2.SqT K H p ys ∧ Q (L2.V.ref p) H))
      (L2.tCons
        (L2.tComp
          (L2.iList K (L2.tCall (Hb.sp_L_faces_by K) [] L2.E0 (L2.tCons (L2.tVar 0) (L2.tCons (L2.tVar 1) L2.tNil))))
          [Option.none, Option.some 2] (L2.gName 0) L2.tYes
          (L2.tBM K "list" (L2.rIndex K 8) (L2.tVar 1) (L2.tCons (L2.tVar 0) L2.tNil)))
        L2.tNil)))
noncomputable def tl_L_shape_by_10 (K : PySem.W.Frag) : TS := L2.tSeq (tl_L_shape_by_8 K) (tl_L_shape_by_9 K)
noncomputable def tl_L_shape_by_11 (K : PySem.W.Frag) : TS := L2.tSeq (L2.tAsg (L2.tLst L2.tNil) (L2.gName 4)) (tl_L_shape_by_10 K)
noncomputable def tl_L_shape_by_12 (K : PySem.W.Frag) : TS := L2.tSeq (tl_L_shape_by_4 K) (tl_L_shape_by_11 K)
noncomputable def tl_L_shape_by_13 (K : PySem.W.Frag) : TS := L2.tSeq (tl_L_shape_by_2 K) (tl_L_shape_by_12 K)
noncomputable def tl_L_shape_by_14 (K : PySem.W.Frag) : TS := L2.tSeq (tl_L_shape_by_0 K) (tl_L_shape_by_13 K)
theorem ok_L_shape_by {f : Addr} {fd : FuncData} (F : Fun K "_law_shape_by" "_law_shape_by" s_L_shape_by f fd) (T : Txt K mg C_HoleError C_NoShape C_NoLevel C_NoChain C_NoTable C_NoMap C_NoPair C_NoRound) (h_L_words_with : Has P w K mg base "_law_words_with" ["_law_words", "_law_word", "_law_family"] 2 (sp_L_words_with K)) (h_L_word_by : Has P w K mg base "_law_word_by" ["_law_cell", "_law_family", "_law_letters"] 1 (sp_L_word_by K)) (h_L_faces_by : Has P w K mg base "_law_faces_by" ["_law_word", "_law_family"] 1 (sp_L_faces_by K)) : FnOk P w K mg base CX0 3 f fd ["_law_kind", "_law_cells", "_law_most"] (sp_L_shape_byC K) := by
  refine F.ok sc_L_shape_by (fun vs H Q E h => ?_) (fun cdv A outer s H vs Q E hr h => ?_)
  · obtain ⟨a, ns, kind, most, rfl, hS, hl, hm0, hm1, k⟩ := h
    rfl
  · obtain ⟨a, ns, kind, most, rfl, hS, hl, hm0, hm1, k⟩ := h
    have hu8 : (A.deeper (PyProof.Rows.envOfC "_law_shape_by" (defScope s_L_shape_by) s.heap.objs.size f cdv)).units + 8 < cLine := by have := hr.units; omega
    refine ⟨tl_L_shape_by_14 K, (pss_cons (ps_set (i := 3) nd_L_shape_by (by rfl) (by first | exact Or.inl rfl | exact Or.inr rfl) pe_int)
      (pss_cons (ps_if (pt_cmpR op_eq (pe_op op_mod (pv 0) pe_int) pe_int (nomark _)) (pss_one (ps_set (i := 3) nd_L_shape_by (by rfl) (by first | exact Or.inl rfl | exact Or.inr rfl) (pe_un un_neg pe_int))) pss_nil)
      (pss_cons (ps_if (pt_cmpR op_eq (pe_op op_mod (pv 0) pe_int) pe_int (nomark _)) (pss_one (ps_set (i := 3) nd_L_shape_by (by rfl) (by first | exact Or.inl rfl | exact Or.inr rfl) (pe_op op_add pe_int (pe_op op_mod (pe_op op_fdiv (pv 0) pe_int) pe_int)))) pss_nil)
      (pss_cons (ps_set (i := 4) nd_L_shape_by (by rfl) (by first | exact Or.inl rfl | exact Or.inr rfl) (pe_lst pa_nil))
      (pss_cons (ps_for PassesOwn.never rfl (kpi_list (K := K) (pv 1)) (pg_name (i := 5) nd_L_shape_by (by rfl) (by first | exact Or.inl rfl | exact Or.inr rfl)) (pss_cons (ps_set (i := 6) nd_L_shape_by (by rfl) (by first | exact Or.inl rfl | exact Or.inr rfl) (pe_callH h_L_words_with hr (by rfl) (pa_cons (pv 4) (pa_cons (pe_callH h_L_word_by hr (by rfl) (pa_cons (pv 5) (pa_cons (pv 3) (pa_cons (pe_op op_add pe_int (pe_op op_mod (pe_op op_fdiv (pv 0) pe_int) pe_int)) pa_nil)))) (pa_cons (pv 3) pa_nil)))))
      (pss_one (ps_if (pt_cmpR op_le (pe_callB (kcall_len_seq (K := K)) (by rfl) T.n_len PySem.boot_len (pa_cons (pv 6) pa_nil)) (pv 2) (nomark _)) (pss_one (ps_set (i := 4) nd_L_shape_by (by rfl) (by first | exact Or.inl rfl | exact Or.inr rfl) (pv 6))) pss_nil))))
      (pss_one (ps_ret (pe_comp (N' := ["_law_word", "_law_family", "_law_words"]) (cap := [none, some 3, some 4]) (by rfl) (by kernel_rfl) (kpi_list (K := K) (pv 4)) (fun _ _ _ _ => (pg_name (i := 0) ndc_6 (by rfl) (by first | exact Or.inl rfl | exact Or.inr rfl))) (fun _ _ _ _ => pts_nil) (fun _ _ _ _ => (pe_callTy (kcall_tuple_of (K := K)) (by rfl) T.n_tuple boot_tupleT (pa_cons (pe_comp (N' := ["_law_face", "_law_words"]) (cap := [none, some 2]) (by rfl) (by kernel_rfl) (kpi_list (K := K) (pe_callH h_L_faces_by hr (by rfl) (pa_cons (pv 0) (pa_cons (pv 1) pa_nil)))) (fun _ _ _ _ => (pg_name (i := 0) ndc_7 (by rfl) (by first | exact Or.inl rfl | exact Or.inr rfl))) (fun _ _ _ _ => pts_nil) (fun _ _ _ _ => (kpe_bm (K := K) PySem.F.plainAttrs_list PySem.F.slot_list_index PySem.F.type_list_index (kmt_index (K := K) hu8) (pv 1) (pa_cons (pv 0) pa_nil)))) pa_nil))))))))))), ?_⟩
    refine tSeq_cut (fun σ' H' => σ' = [some (.int kind), some (.ref a), some (.int most), some (.int 0), none, none, none] ∧ H = H') ?_ fun key0 => key0 _ _ ⟨rfl, rfl⟩
    rintro _ _ ⟨rfl, rfl⟩
    refine tSeq_cut (fun σ' H' => ∃ fam : Int, σ' = [some (.int kind), some (.ref a), some (.int most), some (.int fam), none, none, none] ∧ H = H' ∧ fam < 100) ?_ fun key1 => ?_
    rotate_left
    · refine ⟨_, rfl, _, _, rfl, rfl, (by show (0 : Int) < 3; decide), rfl, _, rfl, ?_⟩
      refine ite2 (fun _ => ?_) (fun _ => ?_)
      · exact ⟨_, rfl, key1 _ _ ⟨-1, rfl, rfl, by decide⟩⟩
      · exact key1 _ _ ⟨0, rfl, rfl, by decide⟩
    rintro _ _ ⟨fam0, rfl, rfl, hf0⟩
    refine tSeq_cut (fun σ' H' => ∃ fam : Int, σ' = [some (.int kind), some (.ref a), some (.int most), some (.int fam), none, none, none] ∧ H = H' ∧ fam < 100) ?_ fun key2 => ?_
    rotate_left
    · refine ⟨_, rfl, _, _, rfl, rfl, (by show (0 : Int) < 3; decide), rfl, _, rfl, ?_⟩
      refine ite2 (fun _ => ?_) (fun _ => ?_)
      · refine ⟨_, rfl, _, _, rfl, rfl, ⟨by decide, by decide⟩, _, _, rfl, rfl, (by show (0 : Int) < 19; decide), _, _, rfl, rfl, key2 _ _ ⟨_, rfl, rfl, ?_⟩⟩
        have : kind / 18 % 19 < 19 := Int.emod_lt_of_pos _ (by decide)
        omega
      · exact key2 _ _ ⟨fam0, rfl, rfl, hf0⟩
    rintro _ _ ⟨fam, rfl, rfl, hf⟩
    have l1 : 0 ≤ kind / 3 % 6 := Int.emod_nonneg _ (by decide)
    have l2 : kind / 3 % 6 < 6 := Int.emod_lt_of_pos _ (by decide)
    refine ⟨Nat.zero_le _, fun W0 hW0 => ?_⟩
    have s0 : Same H (upd H W0 (.lst [])) := Same.new hW0
    refine ⟨_, rfl, a, rfl, ⟨_, s0.seq hS⟩, for_list (K := K) (a := a) (xs := ns.map V.int)
      (fun j σ H2 => ∃ (W : Addr) (wu : List V) (ws : List (List Int)) (o5 o6 : Option V), σ = [some (.int kind), some (.ref a), some (.int most), some (.int fam), some (.ref W), o5, o6] ∧ Same H H2 ∧ H W = none ∧ H2 W = some (.lst wu) ∧
        Reps K H2 wu (ws.map tI) ∧ Ord fam ws ∧ (ws.length : Int) ≤ most)
      ⟨W0, [], [], none, none, rfl, s0, hW0, upd_same, rfl, Ord.nil, by simpa using hm0⟩ (fun j σ H2 _ hm_ => by obtain ⟨_, _, _, _, _, _, s2, _⟩ := hm_; exact s2.seq hS) ?_ ?_⟩
    · rintro j x σ H2 hx ⟨W, wu, ws, o5, o6, rfl, s2, hW, hW2, rW, hO, hwl⟩
      have hjn : j < ns.length := by have := (List.getElem?_eq_some_iff.mp hx).1; simpa using this
      have hxv : x = .int ns[j] := by
        rw [List.getElem?_map, List.getElem?_eq_getElem hjn] at hx
        simpa using hx.symm
      subst hxv
      refine ⟨_, rfl, _, rfl, _, rfl, _, rfl, _, _, rfl, rfl, ⟨by decide, by decide⟩, _, _, rfl, rfl, (by show (0 : Int) < 6; decide), _, _, rfl, rfl, ?_⟩
      refine ⟨_, _, _, rfl, by omega, by omega, by omega, fun v H3 w s3 tv hw => ?_⟩
      refine ⟨_, rfl, ?_⟩
      refine ⟨W, wu, v, ws, w, fam, rfl, s3 _ _ hW2, Reps.same s3 rW, tv, hw, by omega, fun M mu H4 hM s4 hM4 rM => ?_⟩
      have s24 := s3.trans s4
      have hMH : H M = none := (s2.trans s3).free hM
      have mul : mu.length = (wordsWith ws w fam).length := by have := rM.length; simpa using this
      refine ⟨_, rfl, M, _, rfl, .inl (.of hM4), _, rfl, _, _, rfl, rfl, _, rfl, ?_⟩
      refine ite2 (fun h1 => ?_) (fun h1 => ?_)
      · have h2 : (mu.length : Int) ≤ most := by simpa using h1
        exact ⟨_, rfl, M, mu, wordsWith ws w fam, _, _, rfl, s2.trans s24, hMH, hM4, rM, wordsWith_ord hO hw, by omega⟩
      · exact ⟨W, wu, ws, _, _, rfl, s2.trans s24, hW, s24 _ _ hW2, Reps.same s24 rW, hO, hwl⟩
    · rintro σ H2 ⟨W, wu, ws, o5, o6, rfl, s2, hW, hW2, rW, hO, hwl⟩
      have wul : wu.length = ws.length := by have := rW.length; simpa using this
      refine ⟨_, rfl, W, rfl, ⟨_, .of hW2⟩, fun D hD => ?_⟩
      have hDH : H D = none := s2.free hD
      refine comp_list0 (K := K) (a := W) (xs := wu) (fun i ys τ H1 => Same H2 H1 ∧ H1 D = some (.lst ys) ∧ Reps K H1 ys (((ws.take i).map fun w => (facesBy w fam).map fun f => (idx ws f : Int)).map tI) ∧ ∃ o, τ = [o, some (.int fam), some (.ref W)])
        ⟨Same.new hD, upd_same, rfl, none, rfl⟩ (fun i ys τ H1 _ hm_ => by obtain ⟨s1, _⟩ := hm_; exact .of (s1 _ _ hW2)) ?_ ?_
      · rintro i x ys τ H1 hx ⟨s1, hD1, r1, o, rfl⟩
        have hi : i < wu.length := (List.getElem?_eq_some_iff.mp hx).1
        have hil : i < ws.length := by omega
        have hix : (ws.map tI)[i]? = some (tI ws[i]) := by rw [List.getElem?_map, List.getElem?_eq_getElem hil]; rfl
        obtain ⟨x', hx', tx⟩ := rW.get hix
        rw [hx] at hx'
        cases hx'
        obtain ⟨hwi, hfi⟩ := hO.mem (List.getElem_mem hil)
        generalize hwe : ws[i] = w at tx hwi hfi
        refine ⟨_, rfl, _, rfl, x, w, fam, rfl, TI.same s1 tx, hwi, fun p fu H3 hp s3 hp3 r3 => ?_⟩
        have ful : fu.length = (facesBy w fam).length := by have := r3.length; simpa using this
        have s13 := s1.trans s3
        refine ⟨p, rfl, ⟨_, .of hp3⟩, fun D2 hD2 => ?_⟩
        refine comp_list0 (K := K) (a := p) (xs := fu) (fun m zs τ H4 => Same H3 H4 ∧ H4 D2 = some (.lst zs) ∧ zs = ((facesBy w fam).take m).map (fun f => V.int (idx ws f : Int)) ∧ ∃ o, τ = [o, some (.ref W)])
          ⟨Same.new hD2, upd_same, rfl, none, rfl⟩ (fun m zs τ H4 _ hm_ => by obtain ⟨s4, _⟩ := hm_; exact .of (s4 _ _ hp3)) ?_ ?_
        · rintro m y zs τ H4 hy ⟨s4, hD4, hzs, o, rfl⟩
          have hm : m < fu.length := (List.getElem?_eq_some_iff.mp hy).1
          have hmf : m < (facesBy w fam).length := by omega
          have hmy : ((facesBy w fam).map tI)[m]? = some (tI (facesBy w fam)[m]) := by rw [List.getElem?_map, List.getElem?_eq_getElem hmf]; rfl
          obtain ⟨y', hy', ty⟩ := r3.get hmy
          rw [hy] at hy'
          cases hy'
          have hfm : (facesBy w fam)[m] ∈ ws := hfi _ (List.getElem_mem _)
          have s14 := s13.trans s4
          have rw4 : Rep K H4 (.ref W) (.lst (ws.map tI)) := ⟨W, wu, rfl, .of (s14 _ _ hW2), Reps.same s14 rW⟩
          have hfl := (faces_len hwi)
          have hzl : zs.length ≤ 4 := by
            rw [hzs, List.length_map, List.length_take]
            have := hfl.2
            have := hfl.1
            split at this <;> omega
          refine ⟨_, rfl, .inl ⟨rfl, _, .of (s14 _ _ hW2)⟩, _, rfl, ws.map tI, y, tI (facesBy w fam)[m], idx ws (facesBy w fam)[m], rfl, rw4, TI.same s4 ty, (by have := deps_tIs ws; omega), findIdx_tI hfm, ?_⟩
          refine ⟨hD4, small (by omega), s4.turn hD2, upd_same, ?_, _, rfl⟩
          rw [List.take_succ, List.getElem?_eq_getElem hmf, List.map_append, hzs]
          rfl
        · rintro zs τ H4 ⟨s4, hD4, hzs, _⟩
          rw [ful, List.take_length] at hzs
          have s14 := s13.trans s4
          refine ⟨D2, _, rfl, .inl ⟨.of hD4, fun T hT => ?_⟩⟩
          have s5 : Same H4 (upd H4 T (.tup zs)) := Same.new hT
          have hD5 := (s3.trans (s4.trans s5)) _ _ hD1
          have t5 : TI K (upd H4 T (.tup zs)) (.ref T) ((facesBy w fam).map fun f => (idx ws f : Int)) := by
            refine TI.mk (.of ?_)
            rw [List.map_map, upd_same, hzs]
            rfl
          have hyl : ys.length = i := by have := r1.length; simp at this; omega
          refine ⟨hD5, small (by omega), (s14.trans s5).turn hD, upd_same, ?_, _, rfl⟩
          have e2 : (ws.take (i + 1)).map (fun w => (facesBy w fam).map fun f => (idx ws f : Int)) = (ws.take i).map (fun w => (facesBy w fam).map fun f => (idx ws f : Int)) ++ [(facesBy w fam).map fun f => (idx ws f : Int)] := by
            rw [List.take_succ, List.getElem?_eq_getElem hil, hwe, List.map_append]
            rfl
          rw [e2]
          exact push_TI hD5 (Reps.same (s3.trans (s4.trans s5)) r1) t5
      · rintro ys τ H1 ⟨s1, hD1, r1, _⟩
        rw [wul, List.take_length] at r1
        exact k D ys H1 (shapeOf ws fam) hDH (s2.trans s1) hD1 r1 (shapeOf_cnt hO) (by unfold shapeOf; rw [List.length_map]; exact hwl)
noncomputable abbrev s_is_part : Stmt := top 8
theorem sc_is_part : FnScope ["shape", "k", "place", "number"] ["shape", "k", "place", "number"] (defScope s_is_part) := ⟨rfl, rfl, rfl, by decide +kernel, rfl, by decide +kernel, by decide +kernel⟩
theorem ok_is_part {f : Addr} {fd : FuncData} (F : Fun K "is_part" "is_part" s_is_part f fd) (T : Txt K mg C_HoleError C_NoShape C_NoLevel C_NoChain C_NoTable C_NoMap C_NoPair C_NoRound) (h_is_place_of_level : Has P w K mg base "is_place_of_level" ["shape", "thing", "level"] 3 (sp_is_place_of_level K)) (h_is_whole : Has P w K mg base "is_whole" ["thing"] 1 (sp_is_whole K)) : FnOk P w K mg base CX0 4 f fd ["shape", "k", "place", "number"] (sp_is_partX K) := by
  refine F.ok sc_is_part (fun vs H Q E h => ?_) (fun cdv A outer s H vs Q E hr h => ?_)
  · obtain ⟨a, xs, k, x, y, d, e, rfl, hL, hx, hy, kq⟩ := h
    rfl
  · obtain ⟨a, xs, k, x, y, d, e, rfl, hL, hx, hy, kq⟩ := h
    refine ⟨_, (pss_one (ps_ret (pe_and (pe_callH h_is_place_of_level hr (by rfl) (pa_cons (pv 0) (pa_cons (pv 2) (pa_cons (pv 1) pa_nil)))) (pe_and (pe_callH h_is_whole hr (by rfl) (pa_cons (pv 3) pa_nil)) (pe_one (pe_cmpR op_ne (pv 3) pe_int (nomark _))))))), ?_⟩
    refine ⟨_, rfl, _, rfl, _, rfl, a, x, d, k, xs, rfl, hL, hx, _, rfl, ?_⟩
    refine ite2 (fun e1 => ?_) (fun e1 => ?_)
    · refine ⟨_, rfl, y, e, rfl, hy, _, rfl, ?_⟩
      refine ite2 (fun e2 => ?_) (fun e2 => ?_)
      · obtain ⟨n, rfl⟩ := whole_num e2
        cases (show y = .int n from hy)
        refine ⟨_, rfl, rfl, ?_⟩
        have e3 : partD xs k d (.int n) = !decide (V.int n = V.int 0) := by
          unfold partD nzD
          rw [e1]
          by_cases z : n = 0
          · subst z; simp
          · simp [z]
        rw [e3] at kq
        exact kq
      · have e2' : wholeD e = false := by simpa using e2
        rw [partD_num (nz_whole e2')] at kq
        exact kq
    · have e1' : placeLev xs d k = false := by simpa using e1
      rw [partD_key e1'] at kq
      exact kq
noncomputable abbrev s_is_chain : Stmt := top 7
theorem sc_is_chain : FnScope ["shape", "k", "thing"] ["shape", "k", "thing"] (defScope s_is_chain) := ⟨rfl, rfl, rfl, by decide +kernel, rfl, by decide +kernel, by decide +kernel⟩
theorem ok_is_chain {f : Addr} {fd : FuncData} (F : Fun K "is_chain" "is_chain" s_is_chain f fd) (T : Txt K mg C_HoleError C_NoShape C_NoLevel C_NoChain C_NoTable C_NoMap C_NoPair C_NoRound) (h_is_part : Has P w K mg base "is_part" ["shape", "k", "place", "number"] 4 (sp_is_partX K)) : FnOk P w K mg base CX0 5 f fd ["shape", "k", "thing"] (sp_is_chainX K) := by
  refine F.ok sc_is_chain (fun vs H Q E h => ?_) (fun cdv A outer s H vs Q E hr h => ?_)
  · obtain ⟨a, xs, k, x, t, rfl, hL, hT, kq⟩ := h
    rfl
  · obtain ⟨a, xs, k, x, t, rfl, hL, hT, kq⟩ := h
    refine ⟨_, (pss_cons (ps_if (pt_not (pt_val (pe_callB (call_isiO (K := K)) (by rfl) T.n_isinstance boot_isinstanceB (pa_cons (pv 2) (pa_cons (pe_bltn (v := .ty "dict") rfl T.n_dict boot_dictT rfl) pa_nil))))) (pss_one (ps_ret pe_bl)) pss_nil)
      (pss_one (ps_ret (pe_callB (kcall_allB (K := K) (by rfl)) (by rfl) T.n_all boot_allB (pa_cons (pe_frz (pe_comp (N' := ["place", "number", "shape", "k"]) (cap := [none, none, some 0, some 1]) (by rfl) (by kernel_rfl) (pi_itemsX (pv 2)) (fun _ _ _ _ => (kpg_tup (K := K) (n := 2) (by rfl) (pgs_cons (pg_name (i := 0) ndc_0 (by rfl) (by first | exact Or.inl rfl | exact Or.inr rfl)) (pgs_cons (pg_name (i := 1) ndc_0 (by rfl) (by first | exact Or.inl rfl | exact Or.inr rfl)) pgs_nil)))) (fun _ _ _ _ => pts_nil) (fun _ _ _ _ => (pe_callH h_is_part hr (by rfl) (pa_cons (pv 2) (pa_cons (pv 3) (pa_cons (pv 0) (pa_cons (pv 1) pa_nil)))))))) pa_nil))))), ?_⟩
    cases t with
    | data d =>
      refine ⟨_, rfl, x, "dict", rfl, .inr (.inr (.inr (.inr (.inr rfl)))), .inl ⟨.d (vD x), hT.1.rep, _, rfl, ?_⟩⟩
      rw [sca_dict hT.1]
      refine ifP rfl ?_
      exact kq _ (Same.refl _)
    | lst =>
      obtain ⟨b, us, rfl, hb⟩ := hT
      refine ⟨_, rfl, _, "dict", rfl, .inr (.inr (.inr (.inr (.inr rfl)))), .inr (.inr ⟨b, us, rfl, hb, _, rfl, ?_⟩)⟩
      refine ifP (by decide) ?_
      exact kq _ (Same.refl _)
    | dk kvs =>
      obtain ⟨b, rfl, hb, hm, hv⟩ := hT
      refine ⟨_, rfl, _, "dict", rfl, .inr (.inr (.inr (.inr (.inr rfl)))), .inl ⟨.dic, ⟨b, kvs, rfl, .inl hb⟩, _, rfl, ?_⟩⟩
      refine ifN (by decide) ?_
      refine .inr ⟨b, kvs, hb, fun hnd o => ?_⟩
      refine ⟨_, rfl, .inl ⟨b, o, kvs, rfl, upd_same, fun D hD => ?_⟩⟩
      obtain ⟨hD0, nDb⟩ := frz_free hD
      refine comp_items (d := b) (o := o) (kvs := kvs) (fun i zs τ H1 => zs = ((kvs.take i).map fun p => partD xs k (vD (kV p.1)) (vD p.2)).map V.bl ∧ H1 b = some (.frz o (.dK kvs)) ∧ H1 D = some (.lst zs) ∧ StayX b H H1 ∧ ∃ o1 o2, τ = [o1, o2, some (.ref a), some (.int k)])
        ⟨rfl, ?_, upd_same, ?_, none, none, rfl⟩ (fun i zs τ H1 _ hm_ => by obtain ⟨_, e, _⟩ := hm_; exact e) ?_ ?_
      · rw [upd_ne nDb.symm]; exact upd_same
      · intro c q n1 e2
        rw [upd_ne (ne_of_none e2 hD0), upd_ne n1]
        exact e2
      · rintro i kk x zs τ H1 p hx ⟨rfl, hb1, hD1, hk1, o1, o2, rfl⟩ hp
        have hlt : i < kvs.length := (List.getElem?_eq_some_iff.mp hx).1
        have sp : Same H1 (upd H1 p (.tup [kV kk, x])) := Same.new hp
        refine ⟨p, _, rfl, .of upd_same, rfl, _, _, rfl, _, _, rfl, rfl, ?_⟩
        refine ⟨_, rfl, _, rfl, _, rfl, _, rfl, a, xs, k, kV kk, x, _, _, rfl, Rep.same sp (Rep.x hk1 hb hL), (sca_key kk).rep, (hv _ (List.mem_of_getElem? hx)).rep, ?_⟩
        refine ⟨sp _ _ hD1, small (by simp; omega), ?_, ?_, upd_same, fun c r n1 e2 => ?_, _, _, rfl⟩
        · rw [List.take_add_one, hx, List.map_append, List.map_append]
          rfl
        · rw [upd_ne nDb.symm]; exact sp _ _ hb1
        · rw [upd_ne (fun z => by rw [z, hD0] at e2; cases e2)]
          exact sp _ _ (hk1 c r n1 e2)
      · rintro zs τ H1 ⟨rfl, hb1, hD1, hk1, _⟩
        rw [List.take_length] at hD1
        refine ⟨hb1, D, kvs.map fun p => partD xs k (vD (kV p.1)) (vD p.2), rfl, .of (by rw [upd_ne nDb]; exact hD1), ?_⟩
        rw [List.all_map]
        refine kq _ fun c q e2 => ?_
        by_cases z : c = b
        · subst z
          rw [hb] at e2
          cases e2
          exact upd_same
        · rw [upd_ne z]
          exact hk1 c q z e2
    | odd kvs =>
      obtain ⟨b, rfl, hO, hm, hv⟩ := hT
      refine ⟨_, rfl, _, "dict", rfl, .inr (.inr (.inr (.inr (.inr rfl)))), .inr (.inl ⟨b, kvs, rfl, hO, _, rfl, ?_⟩)⟩
      refine ifN (by decide) ?_
      obtain ⟨hsys, o, hb, hOb⟩ := hO
      refine .inl ⟨_, rfl, .inr ⟨b, o, kvs, rfl, hsys, hb, hOb, fun D hD => ?_⟩⟩
      refine comp_itemsX (d := b) (o := o) (kvs := kvs) (fun i zs τ H1 => zs = ((kvs.take i).map fun p => partD xs k (vD p.1) (vD p.2)).map V.bl ∧ H1 D = some (.lst zs) ∧ Same H H1 ∧ ∃ o1 o2, τ = [o1, o2, some (.ref a), some (.int k)])
        ⟨rfl, upd_same, Same.new hD, none, none, rfl⟩ (fun i zs τ H1 _ hm_ => by obtain ⟨_, _, s1, _⟩ := hm_; exact s1 _ _ hb) ?_ ?_
      · rintro i kk x zs τ H1 p hx ⟨rfl, hD1, s1, o1, o2, rfl⟩ hp
        have hlt : i < kvs.length := (List.getElem?_eq_some_iff.mp hx).1
        have sp : Same H1 (upd H1 p (.tup [kk, x])) := Same.new hp
        obtain ⟨hv1, hv2⟩ := hv _ (List.mem_of_getElem? hx)
        refine ⟨p, _, rfl, .of upd_same, rfl, _, _, rfl, _, _, rfl, rfl, ?_⟩
        refine ⟨_, rfl, _, rfl, _, rfl, _, rfl, a, xs, k, kk, x, _, _, rfl, Rep.same (s1.trans sp) hL, (hv1.same (s1.trans sp)).rep, hv2.rep, ?_⟩
        refine ⟨sp _ _ hD1, small (by simp; omega), ?_, upd_same, (s1.trans sp).turn hD, _, _, rfl⟩
        rw [List.take_add_one, hx, List.map_append, List.map_append]
        rfl
      · rintro zs τ H1 ⟨rfl, hD1, s1, _⟩
        rw [List.take_length] at hD1
        refine ⟨D, kvs.map fun p => partD xs k (vD p.1) (vD p.2), rfl, .of hD1, ?_⟩
        rw [List.all_map]
        exact kq _ s1
noncomputable abbrev s_is_chain_of_some_level : Stmt := top 9
theorem sc_is_chain_of_some_level : FnScope ["shape", "thing", "bound"] ["shape", "thing", "bound"] (defScope s_is_chain_of_some_level) := ⟨rfl, rfl, rfl, by decide +kernel, rfl, by decide +kernel, by decide +kernel⟩
theorem ok_is_chain_of_some_level {f : Addr} {fd : FuncData} (F : Fun K "is_chain_of_some_level" "is_chain_of_some_level" s_is_chain_of_some_level f fd) (T : Txt K mg C_HoleError C_NoShape C_NoLevel C_NoChain C_NoTable C_NoMap C_NoPair C_NoRound) (h_is_chain : Has P w K mg base "is_chain" ["shape", "k", "thing"] 5 (sp_is_chainX K)) : FnOk P w K mg base CX0 6 f fd ["shape", "thing", "bound"] (sp_some_levelX K) := by
  refine F.ok sc_is_chain_of_some_level (fun vs H Q E h => ?_) (fun cdv A outer s H vs Q E hr h => ?_)
  · obtain ⟨a, x, xs, n, t, rfl, hL, hT, hn, kq⟩ := h
    rfl
  · obtain ⟨a, x, xs, n, t, rfl, hL, hT, hn, kq⟩ := h
    refine ⟨_, (pss_one (ps_ret (pe_callB (kcall_anyB (K := K) (by rfl)) (by rfl) T.n_any boot_anyB (pa_cons (pe_comp (N' := ["k", "shape", "thing"]) (cap := [none, some 0, some 1]) (by rfl) (by kernel_rfl) (pi_range1 (by rfl) T.n_range (pa_cons (pv 2) pa_nil)) (fun _ _ _ _ => (pg_name (i := 0) ndc_1 (by rfl) (by first | exact Or.inl rfl | exact Or.inr rfl))) (fun _ _ _ _ => pts_nil) (fun _ _ _ _ => (pe_callH h_is_chain hr (by rfl) (pa_cons (pv 1) (pa_cons (pv 0) (pa_cons (pv 2) pa_nil)))))) pa_nil)))), ?_⟩
    refine ⟨_, rfl, _, rfl, by omega, by omega, fun D hD => ?_⟩
    refine comp_range0 (fun i zs τ H1 => Same H H1 ∧ H1 D = some (.lst zs) ∧ zs = ((List.range i).map fun (k : Nat) => chainT xs (k : Int) t).map V.bl ∧ ∃ o, τ = [o, some (.ref a), some x])
      ⟨Same.new hD, upd_same, rfl, none, rfl⟩ ?_ ?_
    · rintro i zs τ H1 hi ⟨s1, hD1, hzs, o, rfl⟩
      have hi2 : i < n := by omega
      refine ⟨_, rfl, _, rfl, _, rfl, a, xs, _, x, t, rfl, Rep.same s1 hL, hT.same s1, fun H2 s2 => ?_⟩
      refine ⟨s2 _ _ hD1, small (by rw [hzs, List.length_map, List.length_map, List.length_range]; omega), (s1.trans s2).turn hD, upd_same, ?_, _, rfl⟩
      rw [List.range_succ, List.map_append, List.map_append, hzs, show ((0 : Int) + (i : Int)) = (i : Int) by omega]
      rfl
    · rintro zs τ H1 ⟨s1, hD1, hzs, _⟩
      rw [Int.toNat_natCast] at hzs
      refine ⟨D, (List.range n).map fun (k : Nat) => chainT xs (k : Int) t, rfl, .of (by rw [hD1, hzs]), ?_⟩
      rw [List.any_map]
      exact kq _ s1
noncomputable abbrev s_row_of : Stmt := top 27
theorem sc_row_of : FnScope ["shape", "k", "chain"] ["shape", "k", "chain"] (defScope s_row_of) := ⟨rfl, rfl, rfl, by decide +kernel, rfl, by decide +kernel, by decide +kernel⟩
theorem ok_row_of {f : Addr} {fd : FuncData} (F : Fun K "row_of" "row_of" s_row_of f fd) (T : Txt K mg C_HoleError C_NoShape C_NoLevel C_NoChain C_NoTable C_NoMap C_NoPair C_NoRound) (h_numbers_at : Has P w K mg base "numbers_at" ["spots", "chain"] 1 (sp_numbers_at K)) (h_is_chain : Has P w K mg base "is_chain" ["shape", "k", "thing"] 5 (sp_is_chainX K)) (h_places_of_level : Has P w K mg base "places_of_level" ["shape", "k"] 2 (sp_places_of_level K)) : FnOk P w K mg base (CX1 P w) 6 f fd ["shape", "k", "chain"] (sp_row_ofX K C_NoChain) := by
  refine F.okX sc_row_of (fun vs H Q E h => ?_) (fun cdv A outer s H vs Q E hr h => ?_)
  · obtain ⟨a, x, xs, k, rfl, hL, hxl, hk0, hk1, hc⟩ := h
    rfl
  · obtain ⟨a, x, xs, k, rfl, hL, hxl, hk0, hk1, hc⟩ := h
    refine ⟨_, (pss_cons (ps_if (pt_not (pt_val (pe_callH h_is_chain hr (by rfl) (pa_cons (pv 0) (pa_cons (pv 1) (pa_cons (pv 2) pa_nil)))))) (pss_one (ps_raise makes_def (by rfl) (by rfl) T.m_NoChain T.e_NoChain (pa_cons (pe_fstr (pj_cons pe_str (pj_cons (pe_fmt (pv 1)) pj_nil))) pa_nil))) pss_nil)
      (pss_one (ps_ret (pe_callH h_numbers_at hr (by rfl) (pa_cons (pe_callH h_places_of_level hr (by rfl) (pa_cons (pv 0) (pa_cons (pv 1) pa_nil))) (pa_cons (pv 2) pa_nil)))))), ?_⟩
    rcases hc with ⟨⟨b, ms, rfl, hb, hm, hch⟩, kq⟩ | ⟨⟨t, hT, hF⟩, kq⟩
    · refine ⟨_, rfl, _, rfl, _, rfl, a, xs, k, .ref b, .dk (cK ms), rfl, hL, thing_cK hb hm, fun H1 s1 => ?_⟩
      rw [chainT_cK, hch]
      refine ⟨_, rfl, ?_⟩
      refine ifN (by simp) ?_
      refine ⟨_, rfl, _, rfl, a, k, xs, rfl, Rep.same s1 hL, hxl, fun D1 H2 hD1 s2 hD12 => ?_⟩
      have pl : (plc xs k).length ≤ 1000 := Nat.le_trans (plcN_len ..) hxl
      refine ⟨_, rfl, D1, b, plc xs k, ms, rfl, .of hD12, .inl ((s1.trans s2) _ _ hb), pl, fun D H3 hD s3 hD3 => ?_⟩
      exact kq _ H3 ((s1.trans s2).trans s3)
    · refine ⟨_, rfl, _, rfl, _, rfl, a, xs, k, x, t, rfl, hL, hT, fun H1 s1 => ?_⟩
      rw [hF]
      refine ⟨_, rfl, ?_⟩
      refine ifP rfl ?_
      refine ⟨_, rfl, by decide +kernel, _, rfl, .inl ⟨k, rfl, log_small hk0 hk1, fun x2 hx2 => ⟨_, rfl, hx2, fun x3 hx3 => ?_⟩⟩⟩
      exact ⟨smallE (by simp), kq H1 s1⟩
noncomputable abbrev s_border : Stmt := top 24
theorem sc_border : FnScope ["shape", "chain", "told", "place", "number"] ["shape", "chain"] (defScope s_border) := ⟨rfl, rfl, rfl, by decide +kernel, rfl, by decide +kernel, by decide +kernel⟩
theorem nd_border : (["shape", "chain", "told", "place", "number"] : List Str).Nodup := by decide +kernel

theorem ok_border {f : Addr} {fd : FuncData} (F : Fun K "border" "border" s_border f fd) (T : Txt K mg C_HoleError C_NoShape C_NoLevel C_NoChain C_NoTable C_NoMap C_NoPair C_NoRound) (h_is_chain_of_some_level : Has P w K mg base "is_chain_of_some_level" ["shape", "thing", "bound"] 6 (sp_some_levelX K)) (h_add_faces : Has P w K mg base "add_faces" ["chain", "faces", "number"] 2 (sp_add_faces K)) : FnOk P w K mg base (CX1 P w) 7 f fd ["shape", "chain"] (sp_borderX K C_NoChain) := by
  refine F.okX sc_border (fun vs H Q E h => ?_) (fun cdv A outer s H vs Q E hr h => ?_)
  · obtain ⟨a, x, xs, rfl, hL, h4, hc⟩ := h
    rfl
  · obtain ⟨a, x, xs, rfl, hL, h4, hc⟩ := h
    obtain ⟨t_LEVELS, c_LEVELS⟩ := T.x_LEVELS
    refine ⟨_, (pss_cons (ps_if (pt_not (pt_val (pe_callH h_is_chain_of_some_level hr (by rfl) (pa_cons (pv 0) (pa_cons (pv 1) (pa_cons (pe_glob (v := .int 4) (by rfl) c_LEVELS ⟨_, rfl⟩) pa_nil)))))) (pss_one (ps_raise makes_def (by rfl) (by rfl) T.m_NoChain T.e_NoChain (pa_cons pe_str pa_nil))) pss_nil)
      (pss_cons (ps_set (i := 2) nd_border (by rfl) (by first | exact Or.inl rfl | exact Or.inr rfl) pe_dnewK)
      (pss_cons (ps_quiet (ps_frz (ps_for PassesOwn.never rfl (pi_items (pv 1)) (kpg_tup (K := K) (n := 2) (by rfl) (pgs_cons (pg_name (i := 3) nd_border (by rfl) (by first | exact Or.inl rfl | exact Or.inr rfl)) (pgs_cons (pg_name (i := 4) nd_border (by rfl) (by first | exact Or.inl rfl | exact Or.inr rfl)) pgs_nil))) (pss_one (ps_expr (pe_callH h_add_faces hr (by rfl) (pa_cons (pv 2) (pa_cons (pe_ix (kix_list (K := K)) (pv 0) (pv 3) (fun _ _ => rfl)) (pa_cons (pv 4) pa_nil)))))))))
      (pss_one (ps_ret (pv 2)))))), ?_⟩
    rcases hc with ⟨⟨kc, hk4, b, ms, rfl, hb, hm, hch⟩, kq⟩ | ⟨⟨t, hT, hF⟩, kq⟩
    · refine ⟨_, rfl, _, rfl, a, .ref b, xs, 4, .dk (cK ms), rfl, hL, thing_cK hb hm, by decide, fun H1 s1 => ?_⟩
      have hany : ((List.range 4).any fun (k : Nat) => chainT xs (k : Int) (.dk (cK ms))) = true := List.any_eq_true.mpr ⟨kc, List.mem_range.mpr hk4, by rw [chainT_cK]; exact hch⟩
      refine ⟨_, rfl, ?_⟩
      rw [hany]
      refine ifN (by simp) ?_
      have hL1 := Rep.same s1 hL
      have hb1 := s1 _ _ hb
      refine fun D hD => ?_
      have nDb : b ≠ D := ne_of_none hb1 hD
      have s2 : Same H1 (upd H1 D (.dK [])) := Same.new hD
      have hL2 := Rep.same s2 hL1
      have hb2 := s2 _ _ hb1
      generalize hH2 : upd H1 D (.dK []) = H2 at s2 hL2 hb2
      have hD2 : H2 D = some (.dK []) := by rw [← hH2]; exact upd_same
      refine .inr ⟨b, cK ms, hb2, fun hnd o => ?_⟩
      refine ⟨_, rfl, b, o, cK ms, rfl, upd_same, ?_⟩
      refine for_items (d := b) (o := o) (kvs := cK ms) (fun i σ G => ∃ o1 o2, σ = [some (.ref a), some (.ref b), some (.ref D), o1, o2] ∧ G b = some (.frz o (.dK (cK ms))) ∧ G D = some (.dK (cK (bordN xs ms i))) ∧ (∀ c q, c ≠ b → c ≠ D → H2 c = some q → G c = some q))
        ⟨none, none, rfl, upd_same, ?_, ?_⟩ (fun i σ G _ hm_ => by obtain ⟨_, _, _, e, _⟩ := hm_; exact e) ?_ ?_
      · rw [upd_ne nDb.symm]
        exact hD2
      · intro c q n1 n2 e
        rw [upd_ne n1]
        exact e
      · rintro i kk x σ G p hx ⟨o1, o2, rfl, hbG, hDG, hkG⟩ hp
        obtain ⟨q, hq, rfl, rfl⟩ := cK_get hx
        have npb : b ≠ p := ne_of_none hbG hp
        have npD : D ≠ p := ne_of_none hDG hp
        have hlt : i < ms.length := (List.getElem?_eq_some_iff.mp hq).1
        have hqd : ms.getD i (0, 0) = q := by rw [List.getD_eq_getElem?_getD, hq]; rfl
        have hpart := List.all_eq_true.mp hch q (List.mem_of_getElem? hq)
        have hin : 0 ≤ q.1 ∧ q.1 < (xs.length : Int) := by
          unfold partB at hpart
          rw [Bool.and_eq_true] at hpart
          exact placeLev_in hpart.1
        have sp : Same G (upd G p (.tup [.int q.1, .int q.2])) := Same.new hp
        have hLG : LT K G (.ref a) xs := by
          have e1 : StayX b H2 (upd H2 b (.frz o (.dK (cK ms)))) := fun c r n e => by rw [upd_ne n]; exact e
          have l1 := Rep.x e1 hb2 hL2
          have d1 : (upd H2 b (.frz o (.dK (cK ms)))) D = some (.dK []) := by rw [upd_ne nDb.symm]; exact hD2
          have e2 : StayX D (upd H2 b (.frz o (.dK (cK ms)))) G := fun c r n e => by
            by_cases z : c = b
            · subst z
              rw [upd_same] at e
              cases e
              exact hbG
            · rw [upd_ne z] at e
              exact hkG c r z n e
          exact Rep.x (m := []) e2 d1 l1
        obtain ⟨us, v, hus, hat, tv⟩ := LT.get (Rep.same sp hLG) hin.1 hin.2
        refine ⟨p, _, rfl, .of upd_same, rfl, _, _, rfl, _, _, rfl, rfl, ?_⟩
        have hfl : (xs.getD q.1.toNat []).length ≤ 4 := by
          rcases mem_getD_or (l := xs) (i := q.1.toNat) (d := []) with z | z
          · exact h4 _ z
          · rw [z]; exact Nat.zero_le _
        have hbl := len_bordN h4 ms i
        refine ⟨_, rfl, _, rfl, _, rfl, a, us, _, v, rfl, rfl, hus, hat, _, rfl, D, v, bordN xs ms i, xs.getD q.1.toNat [], q.2, rfl, sp _ _ hDG, tv, by omega, fun G2 sG2 hDG2 => ?_⟩
        refine ⟨_, _, rfl, sG2 _ _ nDb (sp _ _ hbG), ?_, fun c r n1 n2 e => ?_⟩
        · rw [hDG2]
          show _ = some (HO.dK (cK (addF (bordN xs ms i) (xs.getD (ms.getD i (0, 0)).1.toNat []) (ms.getD i (0, 0)).2)))
          rw [hqd]
        · exact sG2 c r n2 (sp _ _ (hkG c r n1 n2 e))
      · rintro σ G ⟨o1, o2, rfl, hbG, hDG, hkG⟩
        rw [cK_len] at hDG
        refine ⟨hbG, _, rfl, kq _ _ (fun c q e => ?_)⟩
        by_cases z : c = b
        · subst z
          rw [hb] at e
          cases e
          exact upd_same
        · rw [upd_ne z]
          exact hkG c q z (ne_of_none (s1 _ _ e) hD) (s2 _ _ (s1 _ _ e))
    · refine ⟨_, rfl, _, rfl, a, x, xs, 4, t, rfl, hL, hT, by decide, fun H1 s1 => ?_⟩
      have hany : ((List.range 4).any fun (k : Nat) => chainT xs (k : Int) t) = false := by
        rw [List.any_eq_false]
        intro k' _
        rw [hF]
        decide
      refine ⟨_, rfl, ?_⟩
      rw [hany]
      refine ifP rfl ?_
      exact ⟨smallE (by simp), kq H1 s1⟩
noncomputable abbrev s_L_row_refused : Stmt := top 40
theorem sc_L_row_refused : FnScope ["_law_shape", "_law_level", "_law_thing", "_law_marks", "e"] ["_law_shape", "_law_level", "_law_thing"] (defScope s_L_row_refused) := ⟨rfl, rfl, rfl, by decide +kernel, rfl, by decide +kernel, by decide +kernel⟩
theorem nd_L_row_refused : (["_law_shape", "_law_level", "_law_thing", "_law_marks", "e"] : List Str).Nodup := by decide +kernel

theorem ok_L_row_refused {f : Addr} {fd : FuncData} (F : Fun K "_law_row_refused" "_law_row_refused" s_L_row_refused f fd) (T : Txt K mg C_HoleError C_NoShape C_NoLevel C_NoChain C_NoTable C_NoMap C_NoPair C_NoRound) (hx_row_of : HasX P w K mg base "row_of" ["shape", "k", "chain"] 6 (sp_row_ofX K C_NoChain)) (hn_L_other : HasN P w K mg base "_law_other" ["_law_error"] 1 (sp_L_other K C_NoChain)) : FnOk P w K mg base CX0 7 f fd ["_law_shape", "_law_level", "_law_thing"] (sp_L_row_refused K) := by
  refine F.ok sc_L_row_refused (fun vs H Q E h => ?_) (fun cdv A outer s H vs Q E hr h => ?_)
  · obtain ⟨a, x, xs, k, rfl, hL, hxl, hk0, hk1, hc⟩ := h
    rfl
  · obtain ⟨a, x, xs, k, rfl, hL, hxl, hk0, hk1, hc⟩ := h
    have hu8 : (A.deeper (PyProof.Rows.envOfC "_law_row_refused" (defScope s_L_row_refused) s.heap.objs.size f cdv)).units + 8 < cLine := by have := hr.units; omega
    refine ⟨_, (pss_cons (ps_set (i := 3) nd_L_row_refused (by rfl) (by first | exact Or.inl rfl | exact Or.inr rfl) pe_non)
      (pss_cons (ps_try (fun _ _ => (pss_one (ps_expr (pe_callX flies_tried hx_row_of hr (by rfl) (pa_cons (pv 0) (pa_cons (pv 1) (pa_cons (pv 2) pa_nil)))))))
      (ph_as (i := 4) nd_L_row_refused (by rfl) (by rfl) (by rfl) T.m_NoChain T.k_NoChain (fun _ => (pss_one (ps_set (i := 3) nd_L_row_refused (by rfl) (by first | exact Or.inl rfl | exact Or.inr rfl) (pe_tup (pa_cons (pe_callB (kcall_isiX (K := K)) (by rfl) T.n_isinstance boot_isinstanceB (pa_cons (pv 4) (pa_cons (pe_glob (v := .ref C_HoleError) (by rfl) T.m_HoleError rfl) pa_nil))) (pa_cons (pe_callB (kcall_isiX (K := K)) (by rfl) T.n_isinstance boot_isinstanceB (pa_cons (pv 4) (pa_cons (pe_bltn (v := .ty "ValueError") rfl T.n_ValueError boot_ValueErrorT rfl) pa_nil))) (pa_cons (pe_callN hn_L_other hr.n (by rfl) (pa_cons (pv 4) pa_nil)) pa_nil)))))))
      ph_none))
      (pss_cons (ps_if (pt_cmpR op_isN (pv 3) pe_non (nomark _)) (pss_one (ps_ret pe_str)) pss_nil)
      (pss_one (ps_ret (pe_ix (kix_list (K := K)) (pe_lst (pa_cons pe_str (pa_cons pe_str pa_nil))) (pe_callTy call_int1 (by rfl) T.n_int boot_intT (pa_cons (pe_cmpR (kop_eqD (K := K) hu8) (pv 3) (pe_tup (pa_cons pe_bl (pa_cons pe_bl (pa_cons pe_bl pa_nil)))) (nomark _)) pa_nil)) (fun _ _ => rfl))))))), ?_⟩
    rcases hc with ⟨hc, kq⟩ | ⟨hc, kq⟩
    · refine ⟨_, rfl, _, rfl, _, rfl, a, x, xs, k, rfl, hL, hxl, hk0, hk1, .inl ⟨hc, fun v H1 s1 => ?_⟩⟩
      refine ⟨_, rfl, rfl, _, rfl, ?_⟩
      refine ifP rfl ?_
      exact kq H1 s1
    · refine ⟨_, rfl, _, rfl, _, rfl, a, x, xs, k, rfl, hL, hxl, hk0, hk1, .inr ⟨hc, fun G1 g1 => ?_⟩⟩
      refine ⟨C_NoChain, true, rfl, T.s_NoChain_NoChain, ?_⟩
      refine ifP rfl fun e he => ?_
      have g2 : Same G1 (upd G1 e (excO e (.ref C_NoChain))) := Same.new he
      refine ⟨_, rfl, e, C_NoChain, _, _, _, rfl, rfl, ref_only, upd_same, T.x_NoChain, T.i_NoChain_HoleError, _, rfl, e, C_NoChain, _, _, _, rfl, rfl, ty_only, upd_same, T.x_NoChain, T.iv_NoChain, _, rfl, e, rfl, upd_same, smallE (by simp), fun m hm => ?_⟩
      have g3 : Same (upd G1 e (excO e (.ref C_NoChain))) (upd (upd G1 e (excO e (.ref C_NoChain))) m (.tup [.bl true, .bl true, .bl false])) := Same.new hm
      have gg1 := (g1.trans g2).trans g3
      have rm : Rep K (upd (upd G1 e (excO e (.ref C_NoChain))) m (.tup [.bl true, .bl true, .bl false])) (.ref m) (.tup [.bl true, .bl true, .bl false]) := three_repO (.of upd_same)
      generalize upd (upd G1 e (excO e (.ref C_NoChain))) m (.tup [.bl true, .bl true, .bl false]) = G2 at gg1 rm
      refine ⟨_, rfl, rfl, _, rfl, ?_⟩
      refine ifN (by simp) ?_
      refine ⟨smallE (by simp), fun L hL2 => ?_⟩
      have g4 : Same G2 (upd G2 L (.lst [.str (Str.ofString "other"), .str (Str.ofString "refused")])) := Same.new hL2
      have hLL : (upd G2 L (.lst [.str (Str.ofString "other"), .str (Str.ofString "refused")])) L = some (.lst [.str (Str.ofString "other"), .str (Str.ofString "refused")]) := upd_same
      generalize upd G2 L (.lst [.str (Str.ofString "other"), .str (Str.ofString "refused")]) = G3 at g4 hLL
      refine ⟨_, rfl, smallE (by simp), fun T1 hT1 => ?_⟩
      have g5 : Same G3 (upd G3 T1 (.tup [.bl true, .bl true, .bl false])) := Same.new hT1
      refine ⟨_, .tup [.bl true, .bl true, .bl false], Rep.same (g4.trans g5) rm, three_repO (.of upd_same), by decide, .inr ⟨true, by rw [eqD_refl], ?_⟩⟩
      exact ⟨L, _, _, _, rfl, rfl, .of (g5 _ _ hLL), rfl, kq _ ((gg1.trans g4).trans g5)⟩
noncomputable abbrev s_L_border_refused : Stmt := top 39
theorem sc_L_border_refused : FnScope ["_law_shape", "_law_thing", "_law_marks", "e"] ["_law_shape", "_law_thing"] (defScope s_L_border_refused) := ⟨rfl, rfl, rfl, by decide +kernel, rfl, by decide +kernel, by decide +kernel⟩
theorem nd_L_border_refused : (["_law_shape", "_law_thing", "_law_marks", "e"] : List Str).Nodup := by decide +kernel

theorem ok_L_border_refused {f : Addr} {fd : FuncData} (F : Fun K "_law_border_refused" "_law_border_refused" s_L_border_refused f fd) (T : Txt K mg C_HoleError C_NoShape C_NoLevel C_NoChain C_NoTable C_NoMap C_NoPair C_NoRound) (hx_border : HasX P w K mg base "border" ["shape", "chain"] 7 (sp_borderX K C_NoChain)) (hn_L_other : HasN P w K mg base "_law_other" ["_law_error"] 1 (sp_L_other K C_NoChain)) : FnOk P w K mg base CX0 8 f fd ["_law_shape", "_law_thing"] (sp_L_border_refused K) := by
  refine F.ok sc_L_border_refused (fun vs H Q E h => ?_) (fun cdv A outer s H vs Q E hr h => ?_)
  · obtain ⟨a, x, xs, rfl, hL, h4, hc⟩ := h
    rfl
  · obtain ⟨a, x, xs, rfl, hL, h4, hc⟩ := h
    have hu8 : (A.deeper (PyProof.Rows.envOfC "_law_border_refused" (defScope s_L_border_refused) s.heap.objs.size f cdv)).units + 8 < cLine := by have := hr.units; omega
    refine ⟨_, (pss_cons (ps_set (i := 2) nd_L_border_refused (by rfl) (by first | exact Or.inl rfl | exact Or.inr rfl) pe_non)
      (pss_cons (ps_try (fun _ _ => (pss_one (ps_expr (pe_callX flies_tried hx_border hr (by rfl) (pa_cons (pv 0) (pa_cons (pv 1) pa_nil))))))
      (ph_as (i := 3) nd_L_border_refused (by rfl) (by rfl) (by rfl) T.m_HoleError T.k_HoleError (fun _ => (pss_one (ps_set (i := 2) nd_L_border_refused (by rfl) (by first | exact Or.inl rfl | exact Or.inr rfl) (pe_tup (pa_cons (pe_callB (kcall_isiX (K := K)) (by rfl) T.n_isinstance boot_isinstanceB (pa_cons (pv 3) (pa_cons (pe_glob (v := .ref C_NoChain) (by rfl) T.m_NoChain rfl) pa_nil))) (pa_cons (pe_callB (kcall_isiX (K := K)) (by rfl) T.n_isinstance boot_isinstanceB (pa_cons (pv 3) (pa_cons (pe_bltn (v := .ty "ValueError") rfl T.n_ValueError boot_ValueErrorT rfl) pa_nil))) (pa_cons (pe_callN hn_L_other hr.n (by rfl) (pa_cons (pv 3) pa_nil)) pa_nil)))))))
      ph_none))
      (pss_cons (ps_if (pt_cmpR op_isN (pv 2) pe_non (nomark _)) (pss_one (ps_ret pe_str)) pss_nil)
      (pss_one (ps_ret (pe_ix (kix_list (K := K)) (pe_lst (pa_cons pe_str (pa_cons pe_str pa_nil))) (pe_callTy call_int1 (by rfl) T.n_int boot_intT (pa_cons (pe_cmpR (kop_eqD (K := K) hu8) (pv 2) (pe_tup (pa_cons pe_bl (pa_cons pe_bl (pa_cons pe_bl pa_nil)))) (nomark _)) pa_nil)) (fun _ _ => rfl))))))), ?_⟩
    rcases hc with ⟨hc, kq⟩ | ⟨hc, kq⟩
    · refine ⟨_, rfl, _, rfl, a, x, xs, rfl, hL, h4, .inl ⟨hc, fun v H1 s1 => ?_⟩⟩
      refine ⟨_, rfl, rfl, _, rfl, ?_⟩
      refine ifP rfl ?_
      exact kq H1 s1
    · refine ⟨_, rfl, _, rfl, a, x, xs, rfl, hL, h4, .inr ⟨hc, fun G1 g1 => ?_⟩⟩
      refine ⟨C_NoChain, true, rfl, T.s_NoChain_HoleError, ?_⟩
      refine ifP rfl fun e he => ?_
      have g2 : Same G1 (upd G1 e (excO e (.ref C_NoChain))) := Same.new he
      refine ⟨_, rfl, e, C_NoChain, _, _, _, rfl, rfl, ref_only, upd_same, T.x_NoChain, T.i_NoChain_NoChain, _, rfl, e, C_NoChain, _, _, _, rfl, rfl, ty_only, upd_same, T.x_NoChain, T.iv_NoChain, _, rfl, e, rfl, upd_same, smallE (by simp), fun m hm => ?_⟩
      have g3 : Same (upd G1 e (excO e (.ref C_NoChain))) (upd (upd G1 e (excO e (.ref C_NoChain))) m (.tup [.bl true, .bl true, .bl false])) := Same.new hm
      have gg1 := (g1.trans g2).trans g3
      have rm : Rep K (upd (upd G1 e (excO e (.ref C_NoChain))) m (.tup [.bl true, .bl true, .bl false])) (.ref m) (.tup [.bl true, .bl true, .bl false]) := three_repO (.of upd_same)
      generalize upd (upd G1 e (excO e (.ref C_NoChain))) m (.tup [.bl true, .bl true, .bl false]) = G2 at gg1 rm
      refine ⟨_, rfl, rfl, _, rfl, ?_⟩
      refine ifN (by simp) ?_
      refine ⟨smallE (by simp), fun L hL2 => ?_⟩
      have g4 : Same G2 (upd G2 L (.lst [.str (Str.ofString "other"), .str (Str.ofString "refused")])) := Same.new hL2
      have hLL : (upd G2 L (.lst [.str (Str.ofString "other"), .str (Str.ofString "refused")])) L = some (.lst [.str (Str.ofString "other"), .str (Str.ofString "refused")]) := upd_same
      generalize upd G2 L (.lst [.str (Str.ofString "other"), .str (Str.ofString "refused")]) = G3 at g4 hLL
      refine ⟨_, rfl, smallE (by simp), fun T1 hT1 => ?_⟩
      have g5 : Same G3 (upd G3 T1 (.tup [.bl true, .bl true, .bl false])) := Same.new hT1
      refine ⟨_, .tup [.bl true, .bl true, .bl false], Rep.same (g4.trans g5) rm, three_repO (.of upd_same), by decide, .inr ⟨true, by rw [eqD_refl], ?_⟩⟩
      exact ⟨L, _, _, _, rfl, rfl, .of (g5 _ _ hLL), rfl, kq _ ((gg1.trans g4).trans g5)⟩
noncomputable abbrev s_law : Stmt := top 41
theorem sc_law : FnScope ["_law_script", "_law_many", "_law_most", "_law_shape", "_law_level", "_law_spots", "_law_chain", "_law_spoilt_here", "_law_handed", "_law_turn"] ["_law_script"] (defScope s_law) := ⟨rfl, rfl, rfl, by decide +kernel, rfl, by decide +kernel, by decide +kernel⟩
theorem nd_law : (["_law_script", "_law_many", "_law_most", "_law_shape", "_law_level", "_law_spots", "_law_chain", "_law_spoilt_here", "_law_handed", "_law_turn"] : List Str).Nodup := by decide +kernel

noncomputable def tl_law_0 (K : PySem.W.Frag) : TS := L2.tAsg
  (L2.tOp (L2.rI0 fun (i j : Int) ↦ L2.V.int (i + j)) (L2.tC (L2.V.int 1))
    (L2.tOp (L2.rI (fun (x j : Int) ↦ 0 < j) fun (i j : Int) ↦ L2.V.int (i % j))
      (L2.tCall (Hb.sp_L_cell_at K) [] L2.E0 (L2.tCons (L2.tVar 0) (L2.tCons (L2.tC (L2.V.int 1)) L2.tNil)))
      (L2.tC (L2.V.int 20))))
  (L2.gName 1)
noncomputable def tl_law_1 (K : PySem.W.Frag) : TS := L2.tAsg (L2.tC (L2.V.int 14)) (L2.gName 2)
noncomputable def tl_law_2 (K : PySem.W.Frag) : TS := L2.tAsg (L2.tC (L2.V.int 40)) (L2.gName 2)
noncomputable def tl_law_3 (K : PySem.W.Frag) : TS := L2.tIfS
  (L2.tTest
    (L2.tOp L2.rEq
      (L2.tOp (L2.rI (fun (x j : Int) ↦ 0 < j) fun (i j : Int) ↦ L2.V.int (i % j))
        (L2.tOp (L2.rI L2.CDiv fun (i j : Int) ↦ L2.V.int (i / j))
          (L2.tCall (Hb.sp_L_cell_at K) [] L2.E0 (L2.tCons (L2.tVar 0) (L2.tCons (L2.tC (L2.V.int 1)) L2.tNil)))
          (L2.tC (L2.V.int 20)))
        (L2.tC (L2.V.int 4)))
      (L2.tC (L2.V.int 1))))
  (tl_law_2 K) L2.tNext
noncomputable def tl_law_4 (K : PySem.W.Frag) : TS := L2.tAsg
  (L2.tCall (Hb.sp_L_shape_byC K) [] L2.E0
    (L2.tCons (L2.tCall (Hb.sp_L_cell_at K) [] L2.E0 (L2.tCons (L2.tVar 0) (L2.tCons (L2.tC (L2.V.int 0)) L2.tNil)))
      (L2.tCons
        (L2.tSl (L2.rSlL K) (L2.tVar 0) (L2.tPart (L2.tC (L2.V.int 4)))
          (L2.tPart (L2.tOp (L2.rI0 fun (i j : Int) ↦ L2.V.int (i + j)) (L2.tC (L2.V.int 4)) (L2.tVar 1))))
        (L2.tCons (L2.tVar 2) L2.tNil))))
  (L2.gName 3)
noncomputable def tl_law_5 (K : PySem.W.Frag) : TS := L2.tAsg
  (L2.tOp (L2.rI (fun (x j : Int) ↦ 0 < j) fun (i j : Int) ↦ L2.V.int (i % j))
    (L2.tCall (Hb.sp_L_cell_at K) [] L2.E0 (L2.tCons (L2.tVar 0) (L2.tCons (L2.tC (L2.V.int 2)) L2.tNil)))
    (L2.tC (L2.V.int 4)))
  (L2.gName 4)
noncomputable def tl_law_6 (K : PySem.W.Frag) : TS := L2.tAsg (L2.tCall (Hb.sp_L_spots_of K) [] L2.E0 (L2.tCons (L2.tVar 3) (L2.tCons (L2.tVar 4) L2.tNil))) (L2.gName 5)
noncomputable def tl_law_7 (K : PySem.W.Frag) : TS := L2.tAsg
  (L2.tCall (Hb.sp_L_chain_by K) [] L2.E0
    (L2.tCons (L2.tVar 5)
      (L2.tCons
        (L2.tSl (L2.rSlL K) (L2.tVar 0)
          (L2.tPart (L2.tOp (L2.rI0 fun (i j : Int) ↦ L2.V.int (i + j)) (L2.tC (L2.V.int 4)) (L2.tVar 1)))
          (L2.tPart (L2.tOp (L2.rI0 fun (i j : Int) ↦ L2.V.int (i + j)) (L2.tC (L2.V.int 15)) (L2.tVar 1))))
        L2.tNil)))
  (L2.gName 6)
noncomputable def tl_law_8 (K : PySem.W.Frag) : TS := L2.tAsg
  (L2.tCall (Hb.sp_L_spoilt K) [] L2.E0
    (L2.tCons (L2.tVar 3)
      (L2.tCons (L2.tVar 5)
        (L2.tCons (L2.tVar 6)
          (L2.tCons
            (L2.tCall (Hb.sp_L_cell_at K) [] L2.E0 (L2.tCons (L2.tVar 0) (L2.tCons (L2.tC (L2.V.int 3)) L2.tNil)))
            L2.tNil)))))
  (L2.gName 7)
noncomputable def tl_law_9 (K : PySem.W.Frag) : TS := L2.tAsg
  (L2.tLst
    (L2.tCons
      (L2.tCB
        (fun (xs : List L2.V) (H : L2.Hp) (Q : L2.VK) ↦
          ∃ (p : PySem.Addr),
            ∃ (ys : List L2.V),
              xs = [L2.V.ref p] ∧
                (L2.SqL K H p ys ∨ L2.SqT K H p ys) ∧
                  ∀ (l : PySem.Addr), H l = Option.none → Q (L2.V.ref l) (L2.upd H l (L2.HO.lst ys)))
        (L2.tCons (L2.tVar 3) L2.tNil))
      (L2.tCons
        (L2.tCB
          (fun (xs : List L2.V) (H : L2.Hp) (Q : L2.VK) ↦
            ∃ (a : PySem.Addr),
              ∃ (kvs : List (L2.Key × L2.V)),
                xs = [L2.V.ref a] ∧
                  L2.Rd H a (L2.HO.dK kvs) ∧
                    ∀ (p : PySem.Addr), H p = Option.none → Q (L2.V.ref p) (L2.upd H p (L2.HO.dK kvs)))
          (L2.tCons (L2.tVar 6) L2.tNil))
        L2.tNil)))
  (L2.gName 8)
noncomputable def tl_law_10 (K : PySem.W.Frag) : TS := L2.tIfS
  (L2.tTest
    (L2.tOp L2.rNe
      (L2.tCall (Hb.sp_L_border_refused K) [] L2.E0
        (L2.tCons (L2.tOp (L2.rIxL K) (L2.tVar 8) (L2.tC (L2.V.int 0)))
          (L2.tCons (L2.tOp (L2.rIxL K) (L2.tVar 8) (L2.tC (L2.V.int 1))) L2.tNil)))
      (L2.tC (L2.V.str (PySem.Str.ofString "taken")))))
  (L2.tRet (L2.tC (L2.V.bl Bool.false))) L2.tNext
noncomputable def tl_law_11 (K : PySem.W.Frag) : TS := L2.tIfS
  (L2.tTest
    (L2.tOp L2.rNe
      (L2.tCall (Hb.sp_L_row_refused K) [] L2.E0
        (L2.tCons (L2.tOp (L2.rIxL K) (L2.tVar 8) (L2.tC (L2.V.int 0)))
          (L2.tCons (L2.tVar 4) (L2.tCons (L2.tOp (L2.rIxL K) (L2.tVar 8) (L2.tC (L2.V.int 1))) L2.tNil))))
      (L2.tC (L2.V.str (PySem.Str.ofString "taken")))))
  (L2.tRet (L2.tC (L2.V.bl Bool.false))) L2.tNext
noncomputable def tl_law_12 (K : PySem.W.Frag) : TS := L2.tIfS
  (L2.tTest
    (L2.tOp L2.rNe
      (L2.tCall (Hb.sp_L_border_refused K) [] L2.E0
        (L2.tCons (L2.tOp (L2.rIxL K) (L2.tVar 8) (L2.tC (L2.V.int 0))) (L2.tCons (L2.tVar 7) L2.tNil)))
      (L2.tC (L2.V.str (PySem.Str.ofString "refused")))))
  (L2.tRet (L2.tC (L2.V.bl Bool.false))) L2.tNext
noncomputable def tl_law_13 (K : PySem.W.Frag) : TS := L2.tIfS
  (L2.tTest
    (L2.tOp L2.rNe
      (L2.tCall (Hb.sp_L_row_refused K) [] L2.E0
        (L2.tCons (L2.tOp (L2.rIxL K) (L2.tVar 8) (L2.tC (L2.V.int 0)))
          (L2.tCons (L2.tVar 4) (L2.tCons (L2.tVar 7) L2.tNil))))
      (L2.tC (L2.V.str (PySem.Str.ofString "refused")))))
  (L2.tRet (L2.tC (L2.V.bl Bool.false))) L2.tNext
noncomputable def tl_law_14 (K : PySem.W.Frag) : TS := L2.tIfS
  (L2.tAnd
    (L2.tTest
      (L2.tOp (L2.rI0 fun (i j : Int) ↦ L2.V.bl (Decidable.decide (j < i)))
        (L2.tCB
          (fun (xs : List L2.V) (H : L2.Hp) (Q : L2.VK) ↦
            ∃ (a : PySem.Addr),
              ∃ (kvs : List (L2.Key × L2.V)),
                xs = [L2.V.ref a] ∧ H a = Option.some (L2.HO.dK kvs) ∧ Q (L2.V.int ↑kvs.length) H)
          (L2.tCons (L2.tVar 6) L2.tNil))
        (L2.tC (L2.V.int 0))))
    (L2.tTest
      (L2.tOp L2.rNe
        (L2.tCall (Hb.sp_L_row_refused K) [] L2.E0
          (L2.tCons (L2.tOp (L2.rIxL K) (L2.tVar 8) (L2.tC (L2.V.int 0)))
            (L2.tCons (L2.tC (L2.V.int 4)) (L2.tCons (L2.tOp (L2.rIxL K) (L2.tVar 8) (L2.tC (L2.V.int 1))) L2.tNil))))
        (L2.tC (L2.V.str (PySem.Str.ofString "refused"))))))
  (L2.tRet (L2.tC (L2.V.bl Bool.false))) L2.tNext
noncomputable def tl_law_15 (K : PySem.W.Frag) : TS := L2.tSeq (tl_law_13 K) (tl_law_14 K)
noncomputable def tl_law_16 (K : PySem.W.Frag) : TS := L2.tSeq (tl_law_12 K) (tl_law_15 K)
noncomputable def tl_law_17 (K : PySem.W.Frag) : TS := L2.tSeq (tl_law_11 K) (tl_law_16 K)
noncomputable def tl_law_18 (K : PySem.W.Frag) : TS := L2.tSeq (tl_law_10 K) (tl_law_17 K)
noncomputable def tl_law_19 (K : PySem.W.Frag) : TS := L2.tFor (L2.iRng1 (L2.tCons (L2.tC (L2.V.int 2)) L2.tNil)) (L2.gName 9) (tl_law_18 K)
noncomputable def tl_law_20 (K : PySem.W.Frag) : TS := L2.tRet (L2.tOp (L2.rMix K Bool.true) (L2.tVar 8) (L2.tLst (L2.tCons (L2.tVar 3) (L2.tCons (L2.tVar 6) L2.tNil))))
noncomputable def tl_law_21 (K : PySem.W.Frag) : TS := L2.tSeq (tl_law_19 K) (tl_law_20 K)
noncomputable def tl_law_22 (K : PySem.W.Frag) : TS := L2.tSeq (tl_law_9 K) (tl_law_21 K)
noncomputable def tl_law_23 (K : PySem.W.Frag) : TS := L2.tSeq (tl_law_8 K) (tl_law_22 K)
noncomputable def tl_law_24 (K : PySem.W.Frag) : TS := L2.tSeq (tl_law_7 K) (tl_law_23 K)
noncomputable def tl_law_25 (K : PySem.W.Frag) : TS := L2.tSeq (tl_law_6 K) (tl_law_24 K)
noncomputable def tl_law_26 (K : PySem.W.Frag) : TS := L2.tSeq (tl_law_5 K) (tl_law_25 K)
noncomputable def tl_law_27 (K : PySem.W.Frag) : TS := L2.tSeq (tl_law_4 K) (tl_law_26 K)
noncomputable def tl_law_28 (K : PySem.W.Frag) : TS := L2.tSeq (tl_law_3 K) (tl_law_27 K)
noncomputable def tl_law_29 (K : PySem.W.Frag) : TS := L2.tSeq (tl_law_1 K) (tl_law_28 K)
noncomputable def tl_law_30 (K : PySem.W.Frag) : TS := L2.tSeq (tl_law_0 K) (tl_law_29 K)
theorem ok_law {f : Addr} {fd : FuncData} (F : Fun K "law" "law" s_law f fd) (T : Txt K mg C_HoleError C_NoShape C_NoLevel C_NoChain C_NoTable C_NoMap C_NoPair C_NoRound) (h_L_shape_by : Has P w K mg base "_law_shape_by" ["_law_kind", "_law_cells", "_law_most"] 3 (sp_L_shape_byC K)) (h_L_spots_of : Has P w K mg base "_law_spots_of" ["_law_shape", "_law_k"] 1 (sp_L_spots_of K)) (h_L_chain_by : Has P w K mg base "_law_chain_by" ["_law_spots", "_law_cells"] 2 (sp_L_chain_by K)) (h_L_spoilt : Has P w K mg base "_law_spoilt" ["_law_shape", "_law_spots", "_law_chain", "_law_cell"] 1 (sp_L_spoilt K)) (h_L_cell_at : Has P w K mg base "_law_cell_at" ["_law_script", "_law_k"] 1 (sp_L_cell_at K)) (h_L_border_refused : Has P w K mg base "_law_border_refused" ["_law_shape", "_law_thing"] 8 (sp_L_border_refused K)) (h_L_row_refused : Has P w K mg base "_law_row_refused" ["_law_shape", "_law_level", "_law_thing"] 7 (sp_L_row_refused K)) : FnOk P w K mg base CX0 9 f fd ["_law_script"] (sp_law K) := by
  refine F.ok sc_law (fun vs H Q E h => ?_) (fun cdv A outer s H vs Q E hr h => ?_)
  · obtain ⟨a, ns, rfl, hS, hl, k⟩ := h
    rfl
  · obtain ⟨a, ns, rfl, hS, hl, k⟩ := h
    have hu8 : (A.deeper (PyProof.Rows.envOfC "law" (defScope s_law) s.heap.objs.size f cdv)).units + 8 < cLine := by have := hr.units; omega
    refine ⟨tl_law_30 K, (pss_cons (ps_set (i := 1) nd_law (by rfl) (by first | exact Or.inl rfl | exact Or.inr rfl) (pe_op op_add pe_int (pe_op op_mod (pe_callH h_L_cell_at hr (by rfl) (pa_cons (pv 0) (pa_cons pe_int pa_nil))) pe_int)))
      (pss_cons (ps_set (i := 2) nd_law (by rfl) (by first | exact Or.inl rfl | exact Or.inr rfl) pe_int)
      (pss_cons (ps_if (pt_cmpR op_eq (pe_op op_mod (pe_op op_fdiv (pe_callH h_L_cell_at hr (by rfl) (pa_cons (pv 0) (pa_cons pe_int pa_nil))) pe_int) pe_int) pe_int (nomark _)) (pss_one (ps_set (i := 2) nd_law (by rfl) (by first | exact Or.inl rfl | exact Or.inr rfl) pe_int)) pss_nil)
      (pss_cons (ps_set (i := 3) nd_law (by rfl) (by first | exact Or.inl rfl | exact Or.inr rfl) (pe_callH h_L_shape_by hr (by rfl) (pa_cons (pe_callH h_L_cell_at hr (by rfl) (pa_cons (pv 0) (pa_cons pe_int pa_nil))) (pa_cons (pe_slice (ksl_list (K := K)) (pv 0) (po_some pe_int) (po_some (pe_op op_add pe_int (pv 1)))) (pa_cons (pv 2) pa_nil)))))
      (pss_cons (ps_set (i := 4) nd_law (by rfl) (by first | exact Or.inl rfl | exact Or.inr rfl) (pe_op op_mod (pe_callH h_L_cell_at hr (by rfl) (pa_cons (pv 0) (pa_cons pe_int pa_nil))) pe_int))
      (pss_cons (ps_set (i := 5) nd_law (by rfl) (by first | exact Or.inl rfl | exact Or.inr rfl) (pe_callH h_L_spots_of hr (by rfl) (pa_cons (pv 3) (pa_cons (pv 4) pa_nil))))
      (pss_cons (ps_set (i := 6) nd_law (by rfl) (by first | exact Or.inl rfl | exact Or.inr rfl) (pe_callH h_L_chain_by hr (by rfl) (pa_cons (pv 5) (pa_cons (pe_slice (ksl_list (K := K)) (pv 0) (po_some (pe_op op_add pe_int (pv 1))) (po_some (pe_op op_add pe_int (pv 1)))) pa_nil))))
      (pss_cons (ps_set (i := 7) nd_law (by rfl) (by first | exact Or.inl rfl | exact Or.inr rfl) (pe_callH h_L_spoilt hr (by rfl) (pa_cons (pv 3) (pa_cons (pv 5) (pa_cons (pv 6) (pa_cons (pe_callH h_L_cell_at hr (by rfl) (pa_cons (pv 0) (pa_cons pe_int pa_nil))) pa_nil))))))
      (pss_cons (ps_set (i := 8) nd_law (by rfl) (by first | exact Or.inl rfl | exact Or.inr rfl) (pe_lst (pa_cons (pe_callTy (kcall_list_of (K := K)) (by rfl) T.n_list boot_listT (pa_cons (pv 3) pa_nil)) (pa_cons (pe_callTy call_dictC (by rfl) T.n_dict boot_dictT (pa_cons (pv 6) pa_nil)) pa_nil))))
      (pss_cons (ps_for PassesOwn.never rfl (pi_range1 (by rfl) T.n_range (pa_cons pe_int pa_nil)) (pg_name (i := 9) nd_law (by rfl) (by first | exact Or.inl rfl | exact Or.inr rfl)) (pss_cons (ps_if (pt_cmpR op_ne (pe_callH h_L_border_refused hr (by rfl) (pa_cons (pe_ix (kix_list (K := K)) (pv 8) pe_int (fun _ _ => rfl)) (pa_cons (pe_ix (kix_list (K := K)) (pv 8) pe_int (fun _ _ => rfl)) pa_nil))) pe_str (nomark _)) (pss_one (ps_ret pe_bl)) pss_nil)
      (pss_cons (ps_if (pt_cmpR op_ne (pe_callH h_L_row_refused hr (by rfl) (pa_cons (pe_ix (kix_list (K := K)) (pv 8) pe_int (fun _ _ => rfl)) (pa_cons (pv 4) (pa_cons (pe_ix (kix_list (K := K)) (pv 8) pe_int (fun _ _ => rfl)) pa_nil)))) pe_str (nomark _)) (pss_one (ps_ret pe_bl)) pss_nil)
      (pss_cons (ps_if (pt_cmpR op_ne (pe_callH h_L_border_refused hr (by rfl) (pa_cons (pe_ix (kix_list (K := K)) (pv 8) pe_int (fun _ _ => rfl)) (pa_cons (pv 7) pa_nil))) pe_str (nomark _)) (pss_one (ps_ret pe_bl)) pss_nil)
      (pss_cons (ps_if (pt_cmpR op_ne (pe_callH h_L_row_refused hr (by rfl) (pa_cons (pe_ix (kix_list (K := K)) (pv 8) pe_int (fun _ _ => rfl)) (pa_cons (pv 4) (pa_cons (pv 7) pa_nil)))) pe_str (nomark _)) (pss_one (ps_ret pe_bl)) pss_nil)
      (pss_one (ps_if (PW.pt (pw_and (pt_cmpR op_gt (pe_callB call_lenD (by rfl) T.n_len PySem.boot_len (pa_cons (pv 6) pa_nil)) pe_int (nomark _)) (pw_and1 (pt_cmpR op_ne (pe_callH h_L_row_refused hr (by rfl) (pa_cons (pe_ix (kix_list (K := K)) (pv 8) pe_int (fun _ _ => rfl)) (pa_cons pe_int (pa_cons (pe_ix (kix_list (K := K)) (pv 8) pe_int (fun _ _ => rfl)) pa_nil)))) pe_str (nomark _))))) (pss_one (ps_ret pe_bl)) pss_nil)))))))
      (pss_one (ps_ret (pe_cmpR (kop_eqMix (K := K) hu8) (pv 8) (pe_lst (pa_cons (pv 3) (pa_cons (pv 6) pa_nil))) (nomark _)))))))))))))), ?_⟩
    refine tSeq_cut (fun σ' H' => ∃ many : Int, σ' = [some (.ref a), some (.int many), none, none, none, none, none, none, none, none] ∧ H = H' ∧ 0 ≤ many ∧ many ≤ 63) ?_ fun key => ?_
    rotate_left
    · refine ⟨_, rfl, a, ns, 1, rfl, hS, by decide, hl, _, _, rfl, rfl, (by show (0 : Int) < 20; decide), _, _, rfl, rfl, ?_⟩
      have q0 : 0 ≤ cellAt ns 1 % 20 := Int.emod_nonneg _ (by decide)
      have q1 : cellAt ns 1 % 20 < 20 := Int.emod_lt_of_pos _ (by decide)
      exact key _ _ ⟨_, rfl, rfl, by omega, by omega⟩
    rintro _ _ ⟨many, rfl, rfl, hmn0, hmn1⟩
    refine tSeq_cut (fun σ' H' => σ' = [some (.ref a), some (.int many), some (.int 14), none, none, none, none, none, none, none] ∧ H = H') ?_ fun key0 => key0 _ _ ⟨rfl, rfl⟩
    rintro _ _ ⟨rfl, rfl⟩
    refine tSeq_cut (fun σ' H' => ∃ most : Int, σ' = [some (.ref a), some (.int many), some (.int most), none, none, none, none, none, none, none] ∧ H = H' ∧ 0 ≤ most ∧ most ≤ 40) ?_ fun key => ?_
    rotate_left
    · refine ⟨_, rfl, a, ns, 1, rfl, hS, by decide, hl, _, _, rfl, rfl, ⟨by decide, by decide⟩, _, _, rfl, rfl, (by show (0 : Int) < 4; decide), rfl, _, rfl, ?_⟩
      exact ite2 (fun _ => key _ _ ⟨40, rfl, rfl, by decide, by decide⟩) (fun _ => key _ _ ⟨14, rfl, rfl, by decide, by decide⟩)
    rintro _ _ ⟨most, rfl, rfl, hm0, hm1⟩
    refine tSeq_cut (fun σ' H' => ∃ (p : Addr) (us : List V) (xs : List (List Int)), σ' = [some (.ref a), some (.int many), some (.int most), some (.ref p), none, none, none, none, none, none] ∧ Same H H' ∧ H' p = some (.lst us) ∧ Reps K H' us (xs.map tI) ∧ CntOk xs ∧ xs.length ≤ 63) ?_ fun key => ?_
    rotate_left
    · refine ⟨_, rfl, a, ns, 0, rfl, hS, by decide, hl, _, rfl, _, rfl, _, rfl, _, _, rfl, rfl, _, rfl, a, _, rfl, hS, fun C hC => ?_⟩
      have sC : Same H (upd H C (.lst (cutV (ns.map V.int) (some 4) (some (4 + many))))) := Same.new hC
      have hcl := cutS_len ns (some 4) (some (4 + many))
      refine ⟨_, rfl, C, cutS ns (some 4) (some (4 + many)), _, most, rfl, ?_, by omega, hm0, by omega, fun p1 us1 H1 zs hp1 s1 hp1' r1 hsh hzl => ?_⟩
      · rw [← cutV_map]
        exact .of upd_same
      · exact key _ _ ⟨p1, us1, zs, rfl, sC.trans s1, hp1', r1, hsh, by omega⟩
    rintro _ H1 ⟨p, us, xs, rfl, s1, hp1, r1, hsh, hxl⟩
    have hS1 := s1.seq hS
    have usl : us.length = xs.length := by have := r1.length; simpa using this
    refine tSeq_cut (fun σ' H' => ∃ lv : Int, σ' = [some (.ref a), some (.int many), some (.int most), some (.ref p), some (.int lv), none, none, none, none, none] ∧ H1 = H' ∧ 0 ≤ lv ∧ lv < 4) ?_ fun key => ?_
    rotate_left
    · refine ⟨_, rfl, a, ns, 2, rfl, hS1, by decide, hl, _, _, rfl, rfl, (by show (0 : Int) < 4; decide), ?_⟩
      exact key _ _ ⟨_, rfl, rfl, Int.emod_nonneg _ (by decide), Int.emod_lt_of_pos _ (by decide)⟩
    rintro _ _ ⟨lv, rfl, rfl, lv0, lv5⟩
    refine tSeq_cut (fun σ' H' => ∃ ps : Addr, σ' = [some (.ref a), some (.int many), some (.int most), some (.ref p), some (.int lv), some (.ref ps), none, none, none, none] ∧ Same H1 H' ∧ H' ps = some (.lst ((spots xs lv).map V.int))) ?_ fun key => ?_
    rotate_left
    · refine ⟨_, rfl, _, rfl, p, xs, _, rfl, ⟨p, us, rfl, .of hp1, r1⟩, lv0, by omega, by omega, fun D H' hD s' hD' => ?_⟩
      exact key _ _ ⟨D, rfl, s', hD'⟩
    rintro _ H2 ⟨ps, rfl, s2, hps⟩
    have spl : (spots xs lv).length ≤ 1000 := Nat.le_trans (spN_len _ _ _) (by omega)
    have hS2 := s2.seq hS1
    refine tSeq_cut (fun σ' H' => ∃ (e : Addr) (ms : Ms), σ' = [some (.ref a), some (.int many), some (.int most), some (.ref p), some (.int lv), some (.ref ps), some (.ref e), none, none, none] ∧ Same H2 H' ∧ H' e = some (.dK (cK ms)) ∧ nd ms ∧ nz ms ∧ (∀ q ∈ ms, q.1 ∈ spots xs lv) ∧ ms.length ≤ 63) ?_ fun key => ?_
    rotate_left
    · refine ⟨_, rfl, _, rfl, _, rfl, _, _, rfl, rfl, _, rfl, _, rfl, _, _, rfl, rfl, _, rfl, a, _, rfl, hS2, fun C hC => ?_⟩
      have sC : Same H2 (upd H2 C (.lst (cutV (ns.map V.int) (some (4 + many)) (some (15 + many))))) := Same.new hC
      have hcl := cutS_len ns (some (4 + many)) (some (15 + many))
      refine ⟨ps, C, spots xs lv, cutS ns (some (4 + many)) (some (15 + many)), rfl, .of (sC _ _ hps), ?_, spl, by omega, fun D H' ms hD s' hD' b1 b2 b3 b4 => ?_⟩
      · rw [← cutV_map]
        exact .of upd_same
      · exact key _ _ ⟨D, ms, rfl, sC.trans s', hD', b1, b2, fun q hq => (b3 q hq).1, b4⟩
    rintro _ H3 ⟨e, ms, rfl, s3, he, ndm, nzm, inm, lnm⟩
    have hp3 := (s2.trans s3) _ _ hp1
    have hps3 := s3 _ _ hps
    have hS3 := s3.seq hS2
    have r3 := Reps.same (s2.trans s3) r1
    obtain ⟨hchain, hlev⟩ := chain_of_spotsC hsh lv0 nzm inm
    clear s1 s2 s3 hp1 hps r1 hS hS1 hS2
    
    refine tSeq_cut (fun σ' H' => ∃ (x : V), σ' = [some (.ref a), some (.int many), some (.int most), some (.ref p), some (.int lv), some (.ref ps), some (.ref e), some x, none, none] ∧ Same H3 H' ∧ NoCh H' xs x) ?_ fun key => ?_
    rotate_left
    · refine ⟨_, rfl, _, rfl, _, rfl, _, rfl, a, ns, 3, rfl, hS3, by decide, hl, p, ps, e, xs, lv, _, ms, rfl, ⟨p, us, rfl, .of hp3, r3⟩, hsh, hxl, lv0, .of hps3, he, ndm, inm, lnm, fun x t H' s' hT hF => ?_⟩
      exact key _ _ ⟨x, rfl, s', t, hT, hF⟩
    rintro _ H4 ⟨x, rfl, s4, hno⟩
    have r4 := Reps.same s4 r3
    have he4 := s4 _ _ he
    have hp4 := s4 _ _ hp3
    clear s4 he hp3 hps3 r3 hS3
    refine tSeq_cut (fun σ' H' => ∃ (c0 c1 h : Addr), σ' = [some (.ref a), some (.int many), some (.int most), some (.ref p), some (.int lv), some (.ref ps), some (.ref e), some x, some (.ref h), none] ∧ Same H4 H' ∧ H' c0 = some (.lst us) ∧ H' c1 = some (.dK (cK ms)) ∧ H' h = some (.lst [.ref c0, .ref c1])) ?_ fun key => ?_
    rotate_left
    · refine ⟨_, rfl, p, us, rfl, .inl (.of hp4), fun c0 hc0 => ?_⟩
      have g0 : Same H4 (upd H4 c0 (.lst us)) := Same.new hc0
      have f0 : (upd H4 c0 (.lst us)) c0 = some (.lst us) := upd_same
      generalize upd H4 c0 (.lst us) = G0 at g0 f0
      refine ⟨_, rfl, e, _, rfl, .inl (g0 _ _ he4), fun c1 hc1 => ⟨smallE (by simp), fun h hh => ?_⟩⟩
      have g1 : Same G0 (upd G0 c1 (.dK (cK ms))) := Same.new hc1
      have f1 : (upd G0 c1 (.dK (cK ms))) c1 = some (.dK (cK ms)) := upd_same
      generalize upd G0 c1 (.dK (cK ms)) = G1 at g1 f1 hh
      have g2 : Same G1 (upd G1 h (.lst [.ref c0, .ref c1])) := Same.new hh
      exact key _ _ ⟨c0, c1, h, rfl, (g0.trans g1).trans g2, (g1.trans g2) _ _ f0, g2 _ _ f1, upd_same⟩
    rintro _ H5 ⟨c0, c1, h, rfl, s5, hc0, hc1, hh⟩
    have r5 := Reps.same s5 r4
    have hL5 : LT K H5 (.ref c0) xs := ⟨c0, us, rfl, .of hc0, r5⟩
    have hno5 := hno.same s5
    have he5 := s5 _ _ he4
    have hp5 := s5 _ _ hp4
    have h4 := cnt_le4 hsh
    have hx3 : xs.length ≤ 1000 := Nat.le_trans hxl (by decide)
    have lv9 : lv ≤ 100 := by omega
    have hm3 : ms.length ≤ 1000 := Nat.le_trans lnm (by decide)
    obtain ⟨kl, hkl⟩ := Int.eq_ofNat_of_zero_le lv0
    have hkl4 : kl < 4 := by omega
    have his : IsCh H5 xs lv (.ref c1) := ⟨c1, ms, rfl, hc1, hm3, hchain⟩
    have n4 : ms.length ≠ 0 → ∃ t, ThingAt H5 (.ref c1) t ∧ chainT xs 4 t = false := fun z => ⟨_, thing_cK hc1 hm3, by rw [chainT_cK]; exact chain_other (k := lv) (Int.ne_of_lt lv5) z hlev⟩
    clear s5 hno r4 he4 hp4
    refine ⟨_, rfl, (by decide), (by decide), ?_⟩
    refine for_range (lo := 0) (n := 2) (fun j σ G => ∃ (o1 : Option V), σ = [some (.ref a), some (.int many), some (.int most), some (.ref p), some (.int lv), some (.ref ps), some (.ref e), some x, some (.ref h), o1] ∧ Same H5 G) ⟨_, rfl, Same.refl _⟩ ?_ ?_
    · rintro j σ G hj ⟨o1, rfl, g⟩
      refine tSeq_cut (fun σ' H' => σ' = [some (.ref a), some (.int many), some (.int most), some (.ref p), some (.int lv), some (.ref ps), some (.ref e), some x, some (.ref h), some (.int (0 + (j : Int)))] ∧ Same H5 H') ?_ fun key => ?_
      rotate_left
      · refine ⟨_, rfl, h, _, _, _, rfl, rfl, .of (g _ _ hh), rfl, _, rfl, h, _, _, _, rfl, rfl, .of (g _ _ hh), rfl, c0, _, xs, rfl, Rep.same g hL5, h4, .inl ⟨⟨kl, hkl4, by rw [← hkl]; exact his.same g⟩, fun G2 g2 => ?_⟩⟩
        refine ⟨rfl, _, rfl, ?_⟩
        refine ifN (by simp) ?_
        exact key _ _ ⟨rfl, g.trans g2⟩
      clear g
      rintro _ G1 ⟨rfl, g⟩
      refine tSeq_cut (fun σ' H' => σ' = [some (.ref a), some (.int many), some (.int most), some (.ref p), some (.int lv), some (.ref ps), some (.ref e), some x, some (.ref h), some (.int (0 + (j : Int)))] ∧ Same H5 H') ?_ fun key => ?_
      rotate_left
      · refine ⟨_, rfl, h, _, _, _, rfl, rfl, .of (g _ _ hh), rfl, _, rfl, _, rfl, h, _, _, _, rfl, rfl, .of (g _ _ hh), rfl, c0, _, xs, lv, rfl, Rep.same g hL5, hx3, lv0, lv9, .inl ⟨his.same g, fun G2 g2 => ?_⟩⟩
        refine ⟨rfl, _, rfl, ?_⟩
        refine ifN (by simp) ?_
        exact key _ _ ⟨rfl, g.trans g2⟩
      clear g
      rintro _ G1 ⟨rfl, g⟩
      refine tSeq_cut (fun σ' H' => σ' = [some (.ref a), some (.int many), some (.int most), some (.ref p), some (.int lv), some (.ref ps), some (.ref e), some x, some (.ref h), some (.int (0 + (j : Int)))] ∧ Same H5 H') ?_ fun key => ?_
      rotate_left
      · refine ⟨_, rfl, h, _, _, _, rfl, rfl, .of (g _ _ hh), rfl, _, rfl, c0, x, xs, rfl, Rep.same g hL5, h4, .inr ⟨hno5.same g, fun G2 g2 => ?_⟩⟩
        refine ⟨rfl, _, rfl, ?_⟩
        refine ifN (by simp) ?_
        exact key _ _ ⟨rfl, g.trans g2⟩
      clear g
      rintro _ G1 ⟨rfl, g⟩
      refine tSeq_cut (fun σ' H' => σ' = [some (.ref a), some (.int many), some (.int most), some (.ref p), some (.int lv), some (.ref ps), some (.ref e), some x, some (.ref h), some (.int (0 + (j : Int)))] ∧ Same H5 H') ?_ fun key => ?_
      rotate_left
      · obtain ⟨t, hT, hF⟩ := hno5.same g
        refine ⟨_, rfl, h, _, _, _, rfl, rfl, .of (g _ _ hh), rfl, _, rfl, _, rfl, c0, x, xs, lv, rfl, Rep.same g hL5, hx3, lv0, lv9, .inr ⟨⟨t, hT, hF lv⟩, fun G2 g2 => ?_⟩⟩
        refine ⟨rfl, _, rfl, ?_⟩
        refine ifN (by simp) ?_
        exact key _ _ ⟨rfl, g.trans g2⟩
      clear g
      rintro _ G1 ⟨rfl, g⟩
      refine ⟨_, rfl, e, _, rfl, g _ _ he5, _, _, rfl, rfl, _, rfl, ?_⟩
      refine ite2 (fun h1 => ?_) (fun h1 => ?_)
      · have z : ms.length ≠ 0 := pos_cK (of_decide_eq_true h1)
        obtain ⟨t, hT, hF⟩ := n4 z
        refine ⟨_, rfl, h, _, _, _, rfl, rfl, .of (g _ _ hh), rfl, _, rfl, h, _, _, _, rfl, rfl, .of (g _ _ hh), rfl, c0, _, xs, 4, rfl, Rep.same g hL5, hx3, by decide, by decide, .inr ⟨⟨t, hT.same g, hF⟩, fun G2 g2 => ?_⟩⟩
        refine ⟨rfl, _, rfl, ?_⟩
        refine ifN (by simp) ?_
        exact ⟨_, rfl, g.trans g2⟩
      · refine ifN (by simp) ?_
        exact ⟨_, rfl, g⟩
    · rintro σ G ⟨o1, rfl, t3⟩
      refine ⟨_, rfl, _, rfl, _, rfl, smallE (by simp), fun L hL => ?_⟩
      have g3 : Same G (upd G L (.lst [.ref p, .ref e])) := Same.new hL
      have t4 := t3.trans g3
      have dx : dep (.lst (xs.map tI)) ≤ 6 := by
        have := deps_tIs xs
        show deps (xs.map tI) + 1 ≤ 6
        omega
      refine ⟨h, L, [.ref c0, .ref c1], [.ref p, .ref e], rfl, rfl, .of (t4 _ _ hh), .of upd_same, ⟨rfl, fun i v w hv hw => ?_⟩, k _⟩
      match i, hv, hw with
      | 0, hv, hw =>
        cases hv; cases hw
        exact ⟨.d (.lst (xs.map tI)), .d (.lst (xs.map tI)), ⟨⟨c0, us, rfl, .of (t4 _ _ hc0), Reps.same t4 r5⟩, dx⟩, ⟨⟨p, us, rfl, .of (t4 _ _ hp5), Reps.same t4 r5⟩, dx⟩, eqD_refl _⟩
      | 1, hv, hw =>
        cases hv; cases hw
        exact ⟨.c ms, .c ms, ⟨c1, rfl, .inl (t4 _ _ hc1)⟩, ⟨e, rfl, .inl (t4 _ _ he5)⟩, sameC_refl ndm⟩
      | i + 2, hv, hw => simp at hv
end
end Hb
namespace Hb
open PySem L2
theorem elim1 {α : Type} {P : List α → Prop} (h : ∀ a0, P [a0]) (us : List α) (hl : us.length = 1) : P us := by
  cases us with
  | nil => exact nomatch hl
  | cons a0 u0 =>
    cases u0 with
    | nil => exact h a0
    | cons _ _ => simp at hl
theorem elim2 {α : Type} {P : List α → Prop} (h : ∀ a0 a1, P [a0, a1]) (us : List α) (hl : us.length = 2) : P us := by
  cases us with
  | nil => exact nomatch hl
  | cons a0 u0 =>
    cases u0 with
    | nil => exact nomatch hl
    | cons a1 u1 =>
      cases u1 with
      | nil => exact h a0 a1
      | cons _ _ => simp at hl
theorem elim3 {α : Type} {P : List α → Prop} (h : ∀ a0 a1 a2, P [a0, a1, a2]) (us : List α) (hl : us.length = 3) : P us := by
  cases us with
  | nil => exact nomatch hl
  | cons a0 u0 =>
    cases u0 with
    | nil => exact nomatch hl
    | cons a1 u1 =>
      cases u1 with
      | nil => exact nomatch hl
      | cons a2 u2 =>
        cases u2 with
        | nil => exact h a0 a1 a2
        | cons _ _ => simp at hl
theorem elim4 {α : Type} {P : List α → Prop} (h : ∀ a0 a1 a2 a3, P [a0, a1, a2, a3]) (us : List α) (hl : us.length = 4) : P us := by
  cases us with
  | nil => exact nomatch hl
  | cons a0 u0 =>
    cases u0 with
    | nil => exact nomatch hl
    | cons a1 u1 =>
      cases u1 with
      | nil => exact nomatch hl
      | cons a2 u2 =>
        cases u2 with
        | nil => exact nomatch hl
        | cons a3 u3 =>
          cases u3 with
          | nil => exact h a0 a1 a2 a3
          | cons _ _ => simp at hl
set_option maxHeartbeats 4000000 in
theorem all_mk {l : PySem.W.OpenLaw} {w : World} {K : PySem.W.Frag} {h : Heap} {mg : Str → Option Value} {fa : Addr} {C_HoleError : Addr}
    {C_NoShape : Addr}
    {C_NoLevel : Addr}
    {C_NoChain : Addr}
    {C_NoTable : Addr}
    {C_NoMap : Addr}
    {C_NoPair : Addr}
    {C_NoRound : Addr}
    {f_is_whole : Addr} {od_is_whole an_is_whole : Option Addr} {sl_is_whole : Array (Option Value)} {oc_is_whole kV_is_whole dc_is_whole pm_is_whole cd_is_whole ct_is_whole : Value}
    {f_level_of : Addr} {od_level_of an_level_of : Option Addr} {sl_level_of : Array (Option Value)} {oc_level_of kV_level_of dc_level_of pm_level_of cd_level_of ct_level_of : Value}
    {f_add_at : Addr} {od_add_at an_add_at : Option Addr} {sl_add_at : Array (Option Value)} {oc_add_at kV_add_at dc_add_at pm_add_at cd_add_at ct_add_at : Value}
    {f_numbers_at : Addr} {od_numbers_at an_numbers_at : Option Addr} {sl_numbers_at : Array (Option Value)} {oc_numbers_at kV_numbers_at dc_numbers_at pm_numbers_at cd_numbers_at ct_numbers_at : Value}
    {f_L_cell_at : Addr} {od_L_cell_at an_L_cell_at : Option Addr} {sl_L_cell_at : Array (Option Value)} {oc_L_cell_at kV_L_cell_at dc_L_cell_at pm_L_cell_at cd_L_cell_at ct_L_cell_at : Value}
    {f_L_faces_by : Addr} {od_L_faces_by an_L_faces_by : Option Addr} {sl_L_faces_by : Array (Option Value)} {oc_L_faces_by kV_L_faces_by dc_L_faces_by pm_L_faces_by cd_L_faces_by ct_L_faces_by : Value}
    {f_L_word_by : Addr} {od_L_word_by an_L_word_by : Option Addr} {sl_L_word_by : Array (Option Value)} {oc_L_word_by kV_L_word_by dc_L_word_by pm_L_word_by cd_L_word_by ct_L_word_by : Value}
    {f_L_number_by : Addr} {od_L_number_by an_L_number_by : Option Addr} {sl_L_number_by : Array (Option Value)} {oc_L_number_by kV_L_number_by dc_L_number_by pm_L_number_by cd_L_number_by ct_L_number_by : Value}
    {f_L_spots_of : Addr} {od_L_spots_of an_L_spots_of : Option Addr} {sl_L_spots_of : Array (Option Value)} {oc_L_spots_of kV_L_spots_of dc_L_spots_of pm_L_spots_of cd_L_spots_of ct_L_spots_of : Value}
    {f_L_spoilt : Addr} {od_L_spoilt an_L_spoilt : Option Addr} {sl_L_spoilt : Array (Option Value)} {oc_L_spoilt kV_L_spoilt dc_L_spoilt pm_L_spoilt cd_L_spoilt ct_L_spoilt : Value}
    {f_L_other : Addr} {od_L_other an_L_other : Option Addr} {sl_L_other : Array (Option Value)} {oc_L_other kV_L_other dc_L_other pm_L_other cd_L_other ct_L_other : Value}
    {f_is_whole_below : Addr} {od_is_whole_below an_is_whole_below : Option Addr} {sl_is_whole_below : Array (Option Value)} {oc_is_whole_below kV_is_whole_below dc_is_whole_below pm_is_whole_below cd_is_whole_below ct_is_whole_below : Value}
    {f_places_of_level : Addr} {od_places_of_level an_places_of_level : Option Addr} {sl_places_of_level : Array (Option Value)} {oc_places_of_level kV_places_of_level dc_places_of_level pm_places_of_level cd_places_of_level ct_places_of_level : Value}
    {f_add_faces : Addr} {od_add_faces an_add_faces : Option Addr} {sl_add_faces : Array (Option Value)} {oc_add_faces kV_add_faces dc_add_faces pm_add_faces cd_add_faces ct_add_faces : Value}
    {f_L_words_with : Addr} {od_L_words_with an_L_words_with : Option Addr} {sl_L_words_with : Array (Option Value)} {oc_L_words_with kV_L_words_with dc_L_words_with pm_L_words_with cd_L_words_with ct_L_words_with : Value}
    {f_L_chain_by : Addr} {od_L_chain_by an_L_chain_by : Option Addr} {sl_L_chain_by : Array (Option Value)} {oc_L_chain_by kV_L_chain_by dc_L_chain_by pm_L_chain_by cd_L_chain_by ct_L_chain_by : Value}
    {f_is_place_of_level : Addr} {od_is_place_of_level an_is_place_of_level : Option Addr} {sl_is_place_of_level : Array (Option Value)} {oc_is_place_of_level kV_is_place_of_level dc_is_place_of_level pm_is_place_of_level cd_is_place_of_level ct_is_place_of_level : Value}
    {f_L_shape_by : Addr} {od_L_shape_by an_L_shape_by : Option Addr} {sl_L_shape_by : Array (Option Value)} {oc_L_shape_by kV_L_shape_by dc_L_shape_by pm_L_shape_by cd_L_shape_by ct_L_shape_by : Value}
    {f_is_part : Addr} {od_is_part an_is_part : Option Addr} {sl_is_part : Array (Option Value)} {oc_is_part kV_is_part dc_is_part pm_is_part cd_is_part ct_is_part : Value}
    {f_is_chain : Addr} {od_is_chain an_is_chain : Option Addr} {sl_is_chain : Array (Option Value)} {oc_is_chain kV_is_chain dc_is_chain pm_is_chain cd_is_chain ct_is_chain : Value}
    {f_is_chain_of_some_level : Addr} {od_is_chain_of_some_level an_is_chain_of_some_level : Option Addr} {sl_is_chain_of_some_level : Array (Option Value)} {oc_is_chain_of_some_level kV_is_chain_of_some_level dc_is_chain_of_some_level pm_is_chain_of_some_level cd_is_chain_of_some_level ct_is_chain_of_some_level : Value}
    {f_row_of : Addr} {od_row_of an_row_of : Option Addr} {sl_row_of : Array (Option Value)} {oc_row_of kV_row_of dc_row_of pm_row_of cd_row_of ct_row_of : Value}
    {f_border : Addr} {od_border an_border : Option Addr} {sl_border : Array (Option Value)} {oc_border kV_border dc_border pm_border cd_border ct_border : Value}
    {f_L_row_refused : Addr} {od_L_row_refused an_L_row_refused : Option Addr} {sl_L_row_refused : Array (Option Value)} {oc_L_row_refused kV_L_row_refused dc_L_row_refused pm_L_row_refused cd_L_row_refused ct_L_row_refused : Value}
    {f_L_border_refused : Addr} {od_L_border_refused an_L_border_refused : Option Addr} {sl_L_border_refused : Array (Option Value)} {oc_L_border_refused kV_L_border_refused dc_L_border_refused pm_L_border_refused cd_L_border_refused ct_L_border_refused : Value}
    {f_law : Addr} {od_law an_law : Option Addr} {sl_law : Array (Option Value)} {oc_law kV_law dc_law pm_law cd_law ct_law : Value}
    {t_LEVELS : Tok}
    (X : K.In h) (G : h.Ns mainGlobals mg) (hfa : mg "law" = some (.ref fa))
    (ac_HoleError : PySem.W.nsIn K mainGlobals "HoleError" = some (some (.ref C_HoleError)))
    (ac_NoShape : PySem.W.nsIn K mainGlobals "NoShape" = some (some (.ref C_NoShape)))
    (ac_NoLevel : PySem.W.nsIn K mainGlobals "NoLevel" = some (some (.ref C_NoLevel)))
    (ac_NoChain : PySem.W.nsIn K mainGlobals "NoChain" = some (some (.ref C_NoChain)))
    (ac_NoTable : PySem.W.nsIn K mainGlobals "NoTable" = some (some (.ref C_NoTable)))
    (ac_NoMap : PySem.W.nsIn K mainGlobals "NoMap" = some (some (.ref C_NoMap)))
    (ac_NoPair : PySem.W.nsIn K mainGlobals "NoPair" = some (some (.ref C_NoPair)))
    (ac_NoRound : PySem.W.nsIn K mainGlobals "NoRound" = some (some (.ref C_NoRound)))
    (a_is_whole : PySem.W.nsIn K mainGlobals "is_whole" = some (some (.ref f_is_whole)))
    (l_is_whole : K.lookup f_is_whole = some ⟨oc_is_whole, od_is_whole, .func (PySem.W.fnOf "is_whole" "is_whole" (defArgs s_is_whole) (defBody s_is_whole) (defScope s_is_whole) .none kV_is_whole dc_is_whole pm_is_whole an_is_whole cd_is_whole ct_is_whole), sl_is_whole⟩)
    (c_is_whole : PySem.W.codeIn K cd_is_whole "is_whole" = true)
    (k_is_whole : PySem.W.keepIn K (.ref f_is_whole) = true)
    (a_level_of : PySem.W.nsIn K mainGlobals "level_of" = some (some (.ref f_level_of)))
    (l_level_of : K.lookup f_level_of = some ⟨oc_level_of, od_level_of, .func (PySem.W.fnOf "level_of" "level_of" (defArgs s_level_of) (defBody s_level_of) (defScope s_level_of) .none kV_level_of dc_level_of pm_level_of an_level_of cd_level_of ct_level_of), sl_level_of⟩)
    (c_level_of : PySem.W.codeIn K cd_level_of "level_of" = true)
    (k_level_of : PySem.W.keepIn K (.ref f_level_of) = true)
    (a_add_at : PySem.W.nsIn K mainGlobals "add_at" = some (some (.ref f_add_at)))
    (l_add_at : K.lookup f_add_at = some ⟨oc_add_at, od_add_at, .func (PySem.W.fnOf "add_at" "add_at" (defArgs s_add_at) (defBody s_add_at) (defScope s_add_at) .none kV_add_at dc_add_at pm_add_at an_add_at cd_add_at ct_add_at), sl_add_at⟩)
    (c_add_at : PySem.W.codeIn K cd_add_at "add_at" = true)
    (k_add_at : PySem.W.keepIn K (.ref f_add_at) = true)
    (a_numbers_at : PySem.W.nsIn K mainGlobals "numbers_at" = some (some (.ref f_numbers_at)))
    (l_numbers_at : K.lookup f_numbers_at = some ⟨oc_numbers_at, od_numbers_at, .func (PySem.W.fnOf "numbers_at" "numbers_at" (defArgs s_numbers_at) (defBody s_numbers_at) (defScope s_numbers_at) .none kV_numbers_at dc_numbers_at pm_numbers_at an_numbers_at cd_numbers_at ct_numbers_at), sl_numbers_at⟩)
    (c_numbers_at : PySem.W.codeIn K cd_numbers_at "numbers_at" = true)
    (k_numbers_at : PySem.W.keepIn K (.ref f_numbers_at) = true)
    (a_L_cell_at : PySem.W.nsIn K mainGlobals "_law_cell_at" = some (some (.ref f_L_cell_at)))
    (l_L_cell_at : K.lookup f_L_cell_at = some ⟨oc_L_cell_at, od_L_cell_at, .func (PySem.W.fnOf "_law_cell_at" "_law_cell_at" (defArgs s_L_cell_at) (defBody s_L_cell_at) (defScope s_L_cell_at) .none kV_L_cell_at dc_L_cell_at pm_L_cell_at an_L_cell_at cd_L_cell_at ct_L_cell_at), sl_L_cell_at⟩)
    (c_L_cell_at : PySem.W.codeIn K cd_L_cell_at "_law_cell_at" = true)
    (k_L_cell_at : PySem.W.keepIn K (.ref f_L_cell_at) = true)
    (a_L_faces_by : PySem.W.nsIn K mainGlobals "_law_faces_by" = some (some (.ref f_L_faces_by)))
    (l_L_faces_by : K.lookup f_L_faces_by = some ⟨oc_L_faces_by, od_L_faces_by, .func (PySem.W.fnOf "_law_faces_by" "_law_faces_by" (defArgs s_L_faces_by) (defBody s_L_faces_by) (defScope s_L_faces_by) .none kV_L_faces_by dc_L_faces_by pm_L_faces_by an_L_faces_by cd_L_faces_by ct_L_faces_by), sl_L_faces_by⟩)
    (c_L_faces_by : PySem.W.codeIn K cd_L_faces_by "_law_faces_by" = true)
    (k_L_faces_by : PySem.W.keepIn K (.ref f_L_faces_by) = true)
    (a_L_word_by : PySem.W.nsIn K mainGlobals "_law_word_by" = some (some (.ref f_L_word_by)))
    (l_L_word_by : K.lookup f_L_word_by = some ⟨oc_L_word_by, od_L_word_by, .func (PySem.W.fnOf "_law_word_by" "_law_word_by" (defArgs s_L_word_by) (defBody s_L_word_by) (defScope s_L_word_by) .none kV_L_word_by dc_L_word_by pm_L_word_by an_L_word_by cd_L_word_by ct_L_word_by), sl_L_word_by⟩)
    (c_L_word_by : PySem.W.codeIn K cd_L_word_by "_law_word_by" = true)
    (k_L_word_by : PySem.W.keepIn K (.ref f_L_word_by) = true)
    (a_L_number_by : PySem.W.nsIn K mainGlobals "_law_number_by" = some (some (.ref f_L_number_by)))
    (l_L_number_by : K.lookup f_L_number_by = some ⟨oc_L_number_by, od_L_number_by, .func (PySem.W.fnOf "_law_number_by" "_law_number_by" (defArgs s_L_number_by) (defBody s_L_number_by) (defScope s_L_number_by) .none kV_L_number_by dc_L_number_by pm_L_number_by an_L_number_by cd_L_number_by ct_L_number_by), sl_L_number_by⟩)
    (c_L_number_by : PySem.W.codeIn K cd_L_number_by "_law_number_by" = true)
    (k_L_number_by : PySem.W.keepIn K (.ref f_L_number_by) = true)
    (a_L_spots_of : PySem.W.nsIn K mainGlobals "_law_spots_of" = some (some (.ref f_L_spots_of)))
    (l_L_spots_of : K.lookup f_L_spots_of = some ⟨oc_L_spots_of, od_L_spots_of, .func (PySem.W.fnOf "_law_spots_of" "_law_spots_of" (defArgs s_L_spots_of) (defBody s_L_spots_of) (defScope s_L_spots_of) .none kV_L_spots_of dc_L_spots_of pm_L_spots_of an_L_spots_of cd_L_spots_of ct_L_spots_of), sl_L_spots_of⟩)
    (c_L_spots_of : PySem.W.codeIn K cd_L_spots_of "_law_spots_of" = true)
    (k_L_spots_of : PySem.W.keepIn K (.ref f_L_spots_of) = true)
    (a_L_spoilt : PySem.W.nsIn K mainGlobals "_law_spoilt" = some (some (.ref f_L_spoilt)))
    (l_L_spoilt : K.lookup f_L_spoilt = some ⟨oc_L_spoilt, od_L_spoilt, .func (PySem.W.fnOf "_law_spoilt" "_law_spoilt" (defArgs s_L_spoilt) (defBody s_L_spoilt) (defScope s_L_spoilt) .none kV_L_spoilt dc_L_spoilt pm_L_spoilt an_L_spoilt cd_L_spoilt ct_L_spoilt), sl_L_spoilt⟩)
    (c_L_spoilt : PySem.W.codeIn K cd_L_spoilt "_law_spoilt" = true)
    (k_L_spoilt : PySem.W.keepIn K (.ref f_L_spoilt) = true)
    (a_L_other : PySem.W.nsIn K mainGlobals "_law_other" = some (some (.ref f_L_other)))
    (l_L_other : K.lookup f_L_other = some ⟨oc_L_other, od_L_other, .func (PySem.W.fnOf "_law_other" "_law_other" (defArgs s_L_other) (defBody s_L_other) (defScope s_L_other) .none kV_L_other dc_L_other pm_L_other an_L_other cd_L_other ct_L_other), sl_L_other⟩)
    (c_L_other : PySem.W.codeIn K cd_L_other "_law_other" = true)
    (k_L_other : PySem.W.keepIn K (.ref f_L_other) = true)
    (a_is_whole_below : PySem.W.nsIn K mainGlobals "is_whole_below" = some (some (.ref f_is_whole_below)))
    (l_is_whole_below : K.lookup f_is_whole_below = some ⟨oc_is_whole_below, od_is_whole_below, .func (PySem.W.fnOf "is_whole_below" "is_whole_below" (defArgs s_is_whole_below) (defBody s_is_whole_below) (defScope s_is_whole_below) .none kV_is_whole_below dc_is_whole_below pm_is_whole_below an_is_whole_below cd_is_whole_below ct_is_whole_below), sl_is_whole_below⟩)
    (c_is_whole_below : PySem.W.codeIn K cd_is_whole_below "is_whole_below" = true)
    (k_is_whole_below : PySem.W.keepIn K (.ref f_is_whole_below) = true)
    (a_places_of_level : PySem.W.nsIn K mainGlobals "places_of_level" = some (some (.ref f_places_of_level)))
    (l_places_of_level : K.lookup f_places_of_level = some ⟨oc_places_of_level, od_places_of_level, .func (PySem.W.fnOf "places_of_level" "places_of_level" (defArgs s_places_of_level) (defBody s_places_of_level) (defScope s_places_of_level) .none kV_places_of_level dc_places_of_level pm_places_of_level an_places_of_level cd_places_of_level ct_places_of_level), sl_places_of_level⟩)
    (c_places_of_level : PySem.W.codeIn K cd_places_of_level "places_of_level" = true)
    (k_places_of_level : PySem.W.keepIn K (.ref f_places_of_level) = true)
    (a_add_faces : PySem.W.nsIn K mainGlobals "add_faces" = some (some (.ref f_add_faces)))
    (l_add_faces : K.lookup f_add_faces = some ⟨oc_add_faces, od_add_faces, .func (PySem.W.fnOf "add_faces" "add_faces" (defArgs s_add_faces) (defBody s_add_faces) (defScope s_add_faces) .none kV_add_faces dc_add_faces pm_add_faces an_add_faces cd_add_faces ct_add_faces), sl_add_faces⟩)
    (c_add_faces : PySem.W.codeIn K cd_add_faces "add_faces" = true)
    (k_add_faces : PySem.W.keepIn K (.ref f_add_faces) = true)
    (a_L_words_with : PySem.W.nsIn K mainGlobals "_law_words_with" = some (some (.ref f_L_words_with)))
    (l_L_words_with : K.lookup f_L_words_with = some ⟨oc_L_words_with, od_L_words_with, .func (PySem.W.fnOf "_law_words_with" "_law_words_with" (defArgs s_L_words_with) (defBody s_L_words_with) (defScope s_L_words_with) .none kV_L_words_with dc_L_words_with pm_L_words_with an_L_words_with cd_L_words_with ct_L_words_with), sl_L_words_with⟩)
    (c_L_words_with : PySem.W.codeIn K cd_L_words_with "_law_words_with" = true)
    (k_L_words_with : PySem.W.keepIn K (.ref f_L_words_with) = true)
    (a_L_chain_by : PySem.W.nsIn K mainGlobals "_law_chain_by" = some (some (.ref f_L_chain_by)))
    (l_L_chain_by : K.lookup f_L_chain_by = some ⟨oc_L_chain_by, od_L_chain_by, .func (PySem.W.fnOf "_law_chain_by" "_law_chain_by" (defArgs s_L_chain_by) (defBody s_L_chain_by) (defScope s_L_chain_by) .none kV_L_chain_by dc_L_chain_by pm_L_chain_by an_L_chain_by cd_L_chain_by ct_L_chain_by), sl_L_chain_by⟩)
    (c_L_chain_by : PySem.W.codeIn K cd_L_chain_by "_law_chain_by" = true)
    (k_L_chain_by : PySem.W.keepIn K (.ref f_L_chain_by) = true)
    (a_is_place_of_level : PySem.W.nsIn K mainGlobals "is_place_of_level" = some (some (.ref f_is_place_of_level)))
    (l_is_place_of_level : K.lookup f_is_place_of_level = some ⟨oc_is_place_of_level, od_is_place_of_level, .func (PySem.W.fnOf "is_place_of_level" "is_place_of_level" (defArgs s_is_place_of_level) (defBody s_is_place_of_level) (defScope s_is_place_of_level) .none kV_is_place_of_level dc_is_place_of_level pm_is_place_of_level an_is_place_of_level cd_is_place_of_level ct_is_place_of_level), sl_is_place_of_level⟩)
    (c_is_place_of_level : PySem.W.codeIn K cd_is_place_of_level "is_place_of_level" = true)
    (k_is_place_of_level : PySem.W.keepIn K (.ref f_is_place_of_level) = true)
    (a_L_shape_by : PySem.W.nsIn K mainGlobals "_law_shape_by" = some (some (.ref f_L_shape_by)))
    (l_L_shape_by : K.lookup f_L_shape_by = some ⟨oc_L_shape_by, od_L_shape_by, .func (PySem.W.fnOf "_law_shape_by" "_law_shape_by" (defArgs s_L_shape_by) (defBody s_L_shape_by) (defScope s_L_shape_by) .none kV_L_shape_by dc_L_shape_by pm_L_shape_by an_L_shape_by cd_L_shape_by ct_L_shape_by), sl_L_shape_by⟩)
    (c_L_shape_by : PySem.W.codeIn K cd_L_shape_by "_law_shape_by" = true)
    (k_L_shape_by : PySem.W.keepIn K (.ref f_L_shape_by) = true)
    (a_is_part : PySem.W.nsIn K mainGlobals "is_part" = some (some (.ref f_is_part)))
    (l_is_part : K.lookup f_is_part = some ⟨oc_is_part, od_is_part, .func (PySem.W.fnOf "is_part" "is_part" (defArgs s_is_part) (defBody s_is_part) (defScope s_is_part) .none kV_is_part dc_is_part pm_is_part an_is_part cd_is_part ct_is_part), sl_is_part⟩)
    (c_is_part : PySem.W.codeIn K cd_is_part "is_part" = true)
    (k_is_part : PySem.W.keepIn K (.ref f_is_part) = true)
    (a_is_chain : PySem.W.nsIn K mainGlobals "is_chain" = some (some (.ref f_is_chain)))
    (l_is_chain : K.lookup f_is_chain = some ⟨oc_is_chain, od_is_chain, .func (PySem.W.fnOf "is_chain" "is_chain" (defArgs s_is_chain) (defBody s_is_chain) (defScope s_is_chain) .none kV_is_chain dc_is_chain pm_is_chain an_is_chain cd_is_chain ct_is_chain), sl_is_chain⟩)
    (c_is_chain : PySem.W.codeIn K cd_is_chain "is_chain" = true)
    (k_is_chain : PySem.W.keepIn K (.ref f_is_chain) = true)
    (a_is_chain_of_some_level : PySem.W.nsIn K mainGlobals "is_chain_of_some_level" = some (some (.ref f_is_chain_of_some_level)))
    (l_is_chain_of_some_level : K.lookup f_is_chain_of_some_level = some ⟨oc_is_chain_of_some_level, od_is_chain_of_some_level, .func (PySem.W.fnOf "is_chain_of_some_level" "is_chain_of_some_level" (defArgs s_is_chain_of_some_level) (defBody s_is_chain_of_some_level) (defScope s_is_chain_of_some_level) .none kV_is_chain_of_some_level dc_is_chain_of_some_level pm_is_chain_of_some_level an_is_chain_of_some_level cd_is_chain_of_some_level ct_is_chain_of_some_level), sl_is_chain_of_some_level⟩)
    (c_is_chain_of_some_level : PySem.W.codeIn K cd_is_chain_of_some_level "is_chain_of_some_level" = true)
    (k_is_chain_of_some_level : PySem.W.keepIn K (.ref f_is_chain_of_some_level) = true)
    (a_row_of : PySem.W.nsIn K mainGlobals "row_of" = some (some (.ref f_row_of)))
    (l_row_of : K.lookup f_row_of = some ⟨oc_row_of, od_row_of, .func (PySem.W.fnOf "row_of" "row_of" (defArgs s_row_of) (defBody s_row_of) (defScope s_row_of) .none kV_row_of dc_row_of pm_row_of an_row_of cd_row_of ct_row_of), sl_row_of⟩)
    (c_row_of : PySem.W.codeIn K cd_row_of "row_of" = true)
    (k_row_of : PySem.W.keepIn K (.ref f_row_of) = true)
    (a_border : PySem.W.nsIn K mainGlobals "border" = some (some (.ref f_border)))
    (l_border : K.lookup f_border = some ⟨oc_border, od_border, .func (PySem.W.fnOf "border" "border" (defArgs s_border) (defBody s_border) (defScope s_border) .none kV_border dc_border pm_border an_border cd_border ct_border), sl_border⟩)
    (c_border : PySem.W.codeIn K cd_border "border" = true)
    (k_border : PySem.W.keepIn K (.ref f_border) = true)
    (a_L_row_refused : PySem.W.nsIn K mainGlobals "_law_row_refused" = some (some (.ref f_L_row_refused)))
    (l_L_row_refused : K.lookup f_L_row_refused = some ⟨oc_L_row_refused, od_L_row_refused, .func (PySem.W.fnOf "_law_row_refused" "_law_row_refused" (defArgs s_L_row_refused) (defBody s_L_row_refused) (defScope s_L_row_refused) .none kV_L_row_refused dc_L_row_refused pm_L_row_refused an_L_row_refused cd_L_row_refused ct_L_row_refused), sl_L_row_refused⟩)
    (c_L_row_refused : PySem.W.codeIn K cd_L_row_refused "_law_row_refused" = true)
    (k_L_row_refused : PySem.W.keepIn K (.ref f_L_row_refused) = true)
    (a_L_border_refused : PySem.W.nsIn K mainGlobals "_law_border_refused" = some (some (.ref f_L_border_refused)))
    (l_L_border_refused : K.lookup f_L_border_refused = some ⟨oc_L_border_refused, od_L_border_refused, .func (PySem.W.fnOf "_law_border_refused" "_law_border_refused" (defArgs s_L_border_refused) (defBody s_L_border_refused) (defScope s_L_border_refused) .none kV_L_border_refused dc_L_border_refused pm_L_border_refused an_L_border_refused cd_L_border_refused ct_L_border_refused), sl_L_border_refused⟩)
    (c_L_border_refused : PySem.W.codeIn K cd_L_border_refused "_law_border_refused" = true)
    (k_L_border_refused : PySem.W.keepIn K (.ref f_L_border_refused) = true)
    (a_law : PySem.W.nsIn K mainGlobals "law" = some (some (.ref f_law)))
    (l_law : K.lookup f_law = some ⟨oc_law, od_law, .func (PySem.W.fnOf "law" "law" (defArgs s_law) (defBody s_law) (defScope s_law) .none kV_law dc_law pm_law an_law cd_law ct_law), sl_law⟩)
    (c_law : PySem.W.codeIn K cd_law "law" = true)
    (k_law : PySem.W.keepIn K (.ref f_law) = true)
    (ak_HoleError : PySem.W.ktsIn K C_HoleError "BaseException" = true)
    (ae_NoChain : PySem.W.excIn K C_NoChain bmV "ValueError.__new__" = true)
    (ak_NoChain : PySem.W.ktsIn K C_NoChain "BaseException" = true)
    (a1_NoChain : PySem.W.findIn K (.ref C_NoChain) "__getattribute__" = some (some (.builtin "BaseException.__getattribute__")))
    (a2_NoChain : PySem.W.findIn K (.ref C_NoChain) "__getattr__" = some none)
    (a3_NoChain : PySem.W.findIn K (.ref C_NoChain) "__class__" = some (some (.builtin "object.__class__")))
    (a4_NoChain : PySem.W.subIn K (.ref C_NoChain) (.type "object") = some true)
    (a5_NoChain : PySem.W.subIn K (.ref C_NoChain) (.type "BaseException") = some true)
    (av_NoChain : PySem.W.kitOne K (.ref C_NoChain) (.type "ValueError") = some true)
    (ai_NoChain_HoleError : PySem.W.kitOne K (.ref C_NoChain) (.ref C_HoleError) = some true)
    (as_NoChain_HoleError : PySem.W.subIn K (.ref C_NoChain) (.ref C_HoleError) = some true)
    (ai_NoChain_NoShape : PySem.W.kitOne K (.ref C_NoChain) (.ref C_NoShape) = some false)
    (ai_NoChain_NoLevel : PySem.W.kitOne K (.ref C_NoChain) (.ref C_NoLevel) = some false)
    (ai_NoChain_NoChain : PySem.W.kitOne K (.ref C_NoChain) (.ref C_NoChain) = some true)
    (as_NoChain_NoChain : PySem.W.subIn K (.ref C_NoChain) (.ref C_NoChain) = some true)
    (ai_NoChain_NoTable : PySem.W.kitOne K (.ref C_NoChain) (.ref C_NoTable) = some false)
    (ai_NoChain_NoMap : PySem.W.kitOne K (.ref C_NoChain) (.ref C_NoMap) = some false)
    (ai_NoChain_NoPair : PySem.W.kitOne K (.ref C_NoChain) (.ref C_NoPair) = some false)
    (ai_NoChain_NoRound : PySem.W.kitOne K (.ref C_NoChain) (.ref C_NoRound) = some false)
    (aq_LEVELS : PySem.W.nsIn K mainGlobals "LEVELS" = some (some (.int 4 t_LEVELS)))
    (z_isinstance : PySem.W.nsIn K mainGlobals "isinstance" = some none)
    (z_int : PySem.W.nsIn K mainGlobals "int" = some none)
    (z_bool : PySem.W.nsIn K mainGlobals "bool" = some none)
    (z_max : PySem.W.nsIn K mainGlobals "max" = some none)
    (z_len : PySem.W.nsIn K mainGlobals "len" = some none)
    (z_all : PySem.W.nsIn K mainGlobals "all" = some none)
    (z_dict : PySem.W.nsIn K mainGlobals "dict" = some none)
    (z_any : PySem.W.nsIn K mainGlobals "any" = some none)
    (z_range : PySem.W.nsIn K mainGlobals "range" = some none)
    (z_enumerate : PySem.W.nsIn K mainGlobals "enumerate" = some none)
    (z_list : PySem.W.nsIn K mainGlobals "list" = some none)
    (z_tuple : PySem.W.nsIn K mainGlobals "tuple" = some none)
    (z_ValueError : PySem.W.nsIn K mainGlobals "ValueError" = some none) :
    ∃ fd : FuncData, (∀ (s : Shared) (v : Value), BindsTo s fd ⟨[v], []⟩ [("_law_script", v)]) ∧ ∀ base : Heap, K.In base → base.Ns mainGlobals mg → FnOk l.prog w K mg base CX0 9 fa fd ["_law_script"] (sp_law K) := by
  have e := hfa.symm.trans (PySem.W.mg_of X G a_law)
  cases e
  have T : Txt K mg C_HoleError C_NoShape C_NoLevel C_NoChain C_NoTable C_NoMap C_NoPair C_NoRound := ⟨PySem.W.mg_of X G ac_HoleError, ak_HoleError, PySem.W.mg_of X G ac_NoShape, PySem.W.mg_of X G ac_NoLevel, PySem.W.mg_of X G ac_NoChain, ae_NoChain, ⟨ak_NoChain, a1_NoChain, a2_NoChain, a3_NoChain, a4_NoChain, a5_NoChain⟩, ak_NoChain, av_NoChain, PySem.W.mg_of X G ac_NoTable, PySem.W.mg_of X G ac_NoMap, PySem.W.mg_of X G ac_NoPair, PySem.W.mg_of X G ac_NoRound, ai_NoChain_HoleError, as_NoChain_HoleError, ai_NoChain_NoShape, ai_NoChain_NoLevel, ai_NoChain_NoChain, as_NoChain_NoChain, ai_NoChain_NoTable, ai_NoChain_NoMap, ai_NoChain_NoPair, ai_NoChain_NoRound, ⟨_, PySem.W.mg_of X G aq_LEVELS⟩, PySem.W.mg_none_of X G z_isinstance, PySem.W.mg_none_of X G z_int, PySem.W.mg_none_of X G z_bool, PySem.W.mg_none_of X G z_max, PySem.W.mg_none_of X G z_len, PySem.W.mg_none_of X G z_all, PySem.W.mg_none_of X G z_dict, PySem.W.mg_none_of X G z_any, PySem.W.mg_none_of X G z_range, PySem.W.mg_none_of X G z_enumerate, PySem.W.mg_none_of X G z_list, PySem.W.mg_none_of X G z_tuple, PySem.W.mg_none_of X G z_ValueError⟩
  have F_is_whole := fun_mk (st := s_is_whole) l_is_whole c_is_whole k_is_whole
  have F_level_of := fun_mk (st := s_level_of) l_level_of c_level_of k_level_of
  have F_add_at := fun_mk (st := s_add_at) l_add_at c_add_at k_add_at
  have F_numbers_at := fun_mk (st := s_numbers_at) l_numbers_at c_numbers_at k_numbers_at
  have F_L_cell_at := fun_mk (st := s_L_cell_at) l_L_cell_at c_L_cell_at k_L_cell_at
  have F_L_faces_by := fun_mk (st := s_L_faces_by) l_L_faces_by c_L_faces_by k_L_faces_by
  have F_L_word_by := fun_mk (st := s_L_word_by) l_L_word_by c_L_word_by k_L_word_by
  have F_L_number_by := fun_mk (st := s_L_number_by) l_L_number_by c_L_number_by k_L_number_by
  have F_L_spots_of := fun_mk (st := s_L_spots_of) l_L_spots_of c_L_spots_of k_L_spots_of
  have F_L_spoilt := fun_mk (st := s_L_spoilt) l_L_spoilt c_L_spoilt k_L_spoilt
  have F_L_other := fun_mk (st := s_L_other) l_L_other c_L_other k_L_other
  have F_is_whole_below := fun_mk (st := s_is_whole_below) l_is_whole_below c_is_whole_below k_is_whole_below
  have F_places_of_level := fun_mk (st := s_places_of_level) l_places_of_level c_places_of_level k_places_of_level
  have F_add_faces := fun_mk (st := s_add_faces) l_add_faces c_add_faces k_add_faces
  have F_L_words_with := fun_mk (st := s_L_words_with) l_L_words_with c_L_words_with k_L_words_with
  have F_L_chain_by := fun_mk (st := s_L_chain_by) l_L_chain_by c_L_chain_by k_L_chain_by
  have F_is_place_of_level := fun_mk (st := s_is_place_of_level) l_is_place_of_level c_is_place_of_level k_is_place_of_level
  have F_L_shape_by := fun_mk (st := s_L_shape_by) l_L_shape_by c_L_shape_by k_L_shape_by
  have F_is_part := fun_mk (st := s_is_part) l_is_part c_is_part k_is_part
  have F_is_chain := fun_mk (st := s_is_chain) l_is_chain c_is_chain k_is_chain
  have F_is_chain_of_some_level := fun_mk (st := s_is_chain_of_some_level) l_is_chain_of_some_level c_is_chain_of_some_level k_is_chain_of_some_level
  have F_row_of := fun_mk (st := s_row_of) l_row_of c_row_of k_row_of
  have F_border := fun_mk (st := s_border) l_border c_border k_border
  have F_L_row_refused := fun_mk (st := s_L_row_refused) l_L_row_refused c_L_row_refused k_L_row_refused
  have F_L_border_refused := fun_mk (st := s_L_border_refused) l_L_border_refused c_L_border_refused k_L_border_refused
  have F_law := fun_mk (st := s_law) l_law c_law k_law
  refine ⟨PySem.W.fnOf "law" "law" (defArgs s_law) (defBody s_law) (defScope s_law) .none kV_law dc_law pm_law an_law cd_law ct_law, fun s v => .of_eq rfl, fun base _ _ => ?_⟩
  have h_is_whole : Has l.prog w K mg base "is_whole" ["thing"] 1 (sp_is_whole K) := ⟨_, _, PySem.W.mg_of X G a_is_whole, k_is_whole, F_is_whole.binds (ps := ["thing"]) (fun _ _ _ _ _ _ => elim1 (fun _ => rfl)), ok_is_whole F_is_whole T ⟩
  have h_level_of : Has l.prog w K mg base "level_of" ["piece"] 1 (sp_level_of K) := ⟨_, _, PySem.W.mg_of X G a_level_of, k_level_of, F_level_of.binds (ps := ["piece"]) (fun _ _ _ _ _ _ => elim1 (fun _ => rfl)), ok_level_of F_level_of T ⟩
  have h_add_at : Has l.prog w K mg base "add_at" ["chain", "place", "number"] 1 (sp_add_at K) := ⟨_, _, PySem.W.mg_of X G a_add_at, k_add_at, F_add_at.binds (ps := ["chain", "place", "number"]) (fun _ _ _ _ _ _ => elim3 (fun _ _ _ => rfl)), ok_add_at F_add_at T ⟩
  have h_numbers_at : Has l.prog w K mg base "numbers_at" ["spots", "chain"] 1 (sp_numbers_at K) := ⟨_, _, PySem.W.mg_of X G a_numbers_at, k_numbers_at, F_numbers_at.binds (ps := ["spots", "chain"]) (fun _ _ _ _ _ _ => elim2 (fun _ _ => rfl)), ok_numbers_at F_numbers_at T ⟩
  have h_L_cell_at : Has l.prog w K mg base "_law_cell_at" ["_law_script", "_law_k"] 1 (sp_L_cell_at K) := ⟨_, _, PySem.W.mg_of X G a_L_cell_at, k_L_cell_at, F_L_cell_at.binds (ps := ["_law_script", "_law_k"]) (fun _ _ _ _ _ _ => elim2 (fun _ _ => rfl)), ok_L_cell_at F_L_cell_at T ⟩
  have h_L_faces_by : Has l.prog w K mg base "_law_faces_by" ["_law_word", "_law_family"] 1 (sp_L_faces_by K) := ⟨_, _, PySem.W.mg_of X G a_L_faces_by, k_L_faces_by, F_L_faces_by.binds (ps := ["_law_word", "_law_family"]) (fun _ _ _ _ _ _ => elim2 (fun _ _ => rfl)), ok_L_faces_by F_L_faces_by T ⟩
  have h_L_word_by : Has l.prog w K mg base "_law_word_by" ["_law_cell", "_law_family", "_law_letters"] 1 (sp_L_word_by K) := ⟨_, _, PySem.W.mg_of X G a_L_word_by, k_L_word_by, F_L_word_by.binds (ps := ["_law_cell", "_law_family", "_law_letters"]) (fun _ _ _ _ _ _ => elim3 (fun _ _ _ => rfl)), ok_L_word_by F_L_word_by T ⟩
  have h_L_number_by : Has l.prog w K mg base "_law_number_by" ["_law_cell"] 1 (sp_L_number_by K) := ⟨_, _, PySem.W.mg_of X G a_L_number_by, k_L_number_by, F_L_number_by.binds (ps := ["_law_cell"]) (fun _ _ _ _ _ _ => elim1 (fun _ => rfl)), ok_L_number_by F_L_number_by T ⟩
  have h_L_spots_of : Has l.prog w K mg base "_law_spots_of" ["_law_shape", "_law_k"] 1 (sp_L_spots_of K) := ⟨_, _, PySem.W.mg_of X G a_L_spots_of, k_L_spots_of, F_L_spots_of.binds (ps := ["_law_shape", "_law_k"]) (fun _ _ _ _ _ _ => elim2 (fun _ _ => rfl)), ok_L_spots_of F_L_spots_of T ⟩
  have h_L_spoilt : Has l.prog w K mg base "_law_spoilt" ["_law_shape", "_law_spots", "_law_chain", "_law_cell"] 1 (sp_L_spoilt K) := ⟨_, _, PySem.W.mg_of X G a_L_spoilt, k_L_spoilt, F_L_spoilt.binds (ps := ["_law_shape", "_law_spots", "_law_chain", "_law_cell"]) (fun _ _ _ _ _ _ => elim4 (fun _ _ _ _ => rfl)), ok_L_spoilt F_L_spoilt T ⟩
  have hn_L_other : HasN l.prog w K mg base "_law_other" ["_law_error"] 1 (sp_L_other K C_NoChain) := ⟨_, _, PySem.W.mg_of X G a_L_other, k_L_other, F_L_other.binds (ps := ["_law_error"]) (fun _ _ _ _ _ _ => elim1 (fun _ => rfl)), ok_L_other F_L_other T ⟩
  have h_is_whole_below : Has l.prog w K mg base "is_whole_below" ["thing", "bound"] 2 (sp_is_whole_below K) := ⟨_, _, PySem.W.mg_of X G a_is_whole_below, k_is_whole_below, F_is_whole_below.binds (ps := ["thing", "bound"]) (fun _ _ _ _ _ _ => elim2 (fun _ _ => rfl)), ok_is_whole_below F_is_whole_below T h_is_whole⟩
  have h_places_of_level : Has l.prog w K mg base "places_of_level" ["shape", "k"] 2 (sp_places_of_level K) := ⟨_, _, PySem.W.mg_of X G a_places_of_level, k_places_of_level, F_places_of_level.binds (ps := ["shape", "k"]) (fun _ _ _ _ _ _ => elim2 (fun _ _ => rfl)), ok_places_of_level F_places_of_level T h_level_of⟩
  have h_add_faces : Has l.prog w K mg base "add_faces" ["chain", "faces", "number"] 2 (sp_add_faces K) := ⟨_, _, PySem.W.mg_of X G a_add_faces, k_add_faces, F_add_faces.binds (ps := ["chain", "faces", "number"]) (fun _ _ _ _ _ _ => elim3 (fun _ _ _ => rfl)), ok_add_faces F_add_faces T h_add_at⟩
  have h_L_words_with : Has l.prog w K mg base "_law_words_with" ["_law_words", "_law_word", "_law_family"] 2 (sp_L_words_with K) := ⟨_, _, PySem.W.mg_of X G a_L_words_with, k_L_words_with, F_L_words_with.binds (ps := ["_law_words", "_law_word", "_law_family"]) (fun _ _ _ _ _ _ => elim3 (fun _ _ _ => rfl)), ok_L_words_with F_L_words_with T h_L_faces_by⟩
  have h_L_chain_by : Has l.prog w K mg base "_law_chain_by" ["_law_spots", "_law_cells"] 2 (sp_L_chain_by K) := ⟨_, _, PySem.W.mg_of X G a_L_chain_by, k_L_chain_by, F_L_chain_by.binds (ps := ["_law_spots", "_law_cells"]) (fun _ _ _ _ _ _ => elim2 (fun _ _ => rfl)), ok_L_chain_by F_L_chain_by T h_L_number_by⟩
  have h_is_place_of_level : Has l.prog w K mg base "is_place_of_level" ["shape", "thing", "level"] 3 (sp_is_place_of_level K) := ⟨_, _, PySem.W.mg_of X G a_is_place_of_level, k_is_place_of_level, F_is_place_of_level.binds (ps := ["shape", "thing", "level"]) (fun _ _ _ _ _ _ => elim3 (fun _ _ _ => rfl)), ok_is_place_of_level F_is_place_of_level T h_is_whole_below h_level_of⟩
  have h_L_shape_by : Has l.prog w K mg base "_law_shape_by" ["_law_kind", "_law_cells", "_law_most"] 3 (sp_L_shape_byC K) := ⟨_, _, PySem.W.mg_of X G a_L_shape_by, k_L_shape_by, F_L_shape_by.binds (ps := ["_law_kind", "_law_cells", "_law_most"]) (fun _ _ _ _ _ _ => elim3 (fun _ _ _ => rfl)), ok_L_shape_by F_L_shape_by T h_L_words_with h_L_word_by h_L_faces_by⟩
  have h_is_part : Has l.prog w K mg base "is_part" ["shape", "k", "place", "number"] 4 (sp_is_partX K) := ⟨_, _, PySem.W.mg_of X G a_is_part, k_is_part, F_is_part.binds (ps := ["shape", "k", "place", "number"]) (fun _ _ _ _ _ _ => elim4 (fun _ _ _ _ => rfl)), ok_is_part F_is_part T h_is_place_of_level h_is_whole⟩
  have h_is_chain : Has l.prog w K mg base "is_chain" ["shape", "k", "thing"] 5 (sp_is_chainX K) := ⟨_, _, PySem.W.mg_of X G a_is_chain, k_is_chain, F_is_chain.binds (ps := ["shape", "k", "thing"]) (fun _ _ _ _ _ _ => elim3 (fun _ _ _ => rfl)), ok_is_chain F_is_chain T h_is_part⟩
  have h_is_chain_of_some_level : Has l.prog w K mg base "is_chain_of_some_level" ["shape", "thing", "bound"] 6 (sp_some_levelX K) := ⟨_, _, PySem.W.mg_of X G a_is_chain_of_some_level, k_is_chain_of_some_level, F_is_chain_of_some_level.binds (ps := ["shape", "thing", "bound"]) (fun _ _ _ _ _ _ => elim3 (fun _ _ _ => rfl)), ok_is_chain_of_some_level F_is_chain_of_some_level T h_is_chain⟩
  have hx_row_of : HasX l.prog w K mg base "row_of" ["shape", "k", "chain"] 6 (sp_row_ofX K C_NoChain) := ⟨_, _, PySem.W.mg_of X G a_row_of, k_row_of, F_row_of.binds (ps := ["shape", "k", "chain"]) (fun _ _ _ _ _ _ => elim3 (fun _ _ _ => rfl)), ok_row_of F_row_of T h_numbers_at h_is_chain h_places_of_level⟩
  have hx_border : HasX l.prog w K mg base "border" ["shape", "chain"] 7 (sp_borderX K C_NoChain) := ⟨_, _, PySem.W.mg_of X G a_border, k_border, F_border.binds (ps := ["shape", "chain"]) (fun _ _ _ _ _ _ => elim2 (fun _ _ => rfl)), ok_border F_border T h_is_chain_of_some_level h_add_faces⟩
  have h_L_row_refused : Has l.prog w K mg base "_law_row_refused" ["_law_shape", "_law_level", "_law_thing"] 7 (sp_L_row_refused K) := ⟨_, _, PySem.W.mg_of X G a_L_row_refused, k_L_row_refused, F_L_row_refused.binds (ps := ["_law_shape", "_law_level", "_law_thing"]) (fun _ _ _ _ _ _ => elim3 (fun _ _ _ => rfl)), ok_L_row_refused F_L_row_refused T hx_row_of hn_L_other⟩
  have h_L_border_refused : Has l.prog w K mg base "_law_border_refused" ["_law_shape", "_law_thing"] 8 (sp_L_border_refused K) := ⟨_, _, PySem.W.mg_of X G a_L_border_refused, k_L_border_refused, F_L_border_refused.binds (ps := ["_law_shape", "_law_thing"]) (fun _ _ _ _ _ _ => elim2 (fun _ _ => rfl)), ok_L_border_refused F_L_border_refused T hx_border hn_L_other⟩
  exact ok_law F_law T h_L_shape_by h_L_spots_of h_L_chain_by h_L_spoilt h_L_cell_at h_L_border_refused h_L_row_refused
theorem walk {l : PySem.W.OpenLaw} {q : Program} {loose : List Str} {XP : (Str → Option Value) → Heap → Prop} {YP : World → Heap → Prop} {d : DefRec} {K : Params → PySem.W.Frag} (hn : l.most = some 63) (hdf : d.params.defaults = [])
    (hY : ∀ (w : World) (h : Heap), YP w h → (K w.params).In h)
    (F : ∀ (w : World) (mg : Str → Option Value) (fa : Addr) (h : Heap), (K w.params).In h → h.Ns mainGlobals mg → mg d.name = some (.ref fa) →
      ∃ fd : FuncData, (∀ (s : Shared) (u : Value), BindsTo s fd ⟨[u], []⟩ [("_law_script", u)]) ∧ ∀ base : Heap, (K w.params).In base → base.Ns mainGlobals mg → FnOk l.prog w (K w.params) mg base CX0 9 fa fd ["_law_script"] (sp_law (K w.params))) :
    PySem.W.WalkO q loose XP YP l.row.toRowW d [] (fun f vs => PySem.call f vs) :=
  L2.walk_of (n := 63) (k := 9) (x := "_law_script") (CX := fun _ => CX0) (sp := fun w => sp_law (K w.params)) hn (by decide) hdf ⟨rfl, by decide, by decide, rfl⟩ hY F (fun _ _ a ns hl _ hS => ⟨a, ns, rfl, hS, hl, fun _ => rfl⟩) fun _ _ _ _ _ z => z
end Hb
open PySem PySem.W PyProof.Rows
set_option maxRecDepth 100000 in
set_option maxHeartbeats 0 in
theorem PySem.Challenge.cw_holebook_k12_no_chain_is_refused_holds : PySem.Challenge.rw_holebook_k12_no_chain_is_refused.Holds := by
  w_on; o_law; k_head; (case hw => w_witness2)
  k_fill
  refine Hb.walk (l := PySem.Challenge.rw_holebook_k12_no_chain_is_refused) rfl rfl (fun w h Y => PySem.W.kIn_of Y) ?F
  case F =>
    intro w mg fa h KX G hmg
    refine' Hb.all_mk KX G hmg ?ac_HoleError ?ac_NoShape ?ac_NoLevel ?ac_NoChain ?ac_NoTable ?ac_NoMap ?ac_NoPair ?ac_NoRound ?a_is_whole ?l_is_whole ?c_is_whole ?k_is_whole ?a_level_of ?l_level_of ?c_level_of ?k_level_of ?a_add_at ?l_add_at ?c_add_at ?k_add_at ?a_numbers_at ?l_numbers_at ?c_numbers_at ?k_numbers_at ?a_L_cell_at ?l_L_cell_at ?c_L_cell_at ?k_L_cell_at ?a_L_faces_by ?l_L_faces_by ?c_L_faces_by ?k_L_faces_by ?a_L_word_by ?l_L_word_by ?c_L_word_by ?k_L_word_by ?a_L_number_by ?l_L_number_by ?c_L_number_by ?k_L_number_by ?a_L_spots_of ?l_L_spots_of ?c_L_spots_of ?k_L_spots_of ?a_L_spoilt ?l_L_spoilt ?c_L_spoilt ?k_L_spoilt ?a_L_other ?l_L_other ?c_L_other ?k_L_other ?a_is_whole_below ?l_is_whole_below ?c_is_whole_below ?k_is_whole_below ?a_places_of_level ?l_places_of_level ?c_places_of_level ?k_places_of_level ?a_add_faces ?l_add_faces ?c_add_faces ?k_add_faces ?a_L_words_with ?l_L_words_with ?c_L_words_with ?k_L_words_with ?a_L_chain_by ?l_L_chain_by ?c_L_chain_by ?k_L_chain_by ?a_is_place_of_level ?l_is_place_of_level ?c_is_place_of_level ?k_is_place_of_level ?a_L_shape_by ?l_L_shape_by ?c_L_shape_by ?k_L_shape_by ?a_is_part ?l_is_part ?c_is_part ?k_is_part ?a_is_chain ?l_is_chain ?c_is_chain ?k_is_chain ?a_is_chain_of_some_level ?l_is_chain_of_some_level ?c_is_chain_of_some_level ?k_is_chain_of_some_level ?a_row_of ?l_row_of ?c_row_of ?k_row_of ?a_border ?l_border ?c_border ?k_border ?a_L_row_refused ?l_L_row_refused ?c_L_row_refused ?k_L_row_refused ?a_L_border_refused ?l_L_border_refused ?c_L_border_refused ?k_L_border_refused ?a_law ?l_law ?c_law ?k_law ?ak_HoleError ?ae_NoChain ?ak_NoChain ?a1_NoChain ?a2_NoChain ?a3_NoChain ?a4_NoChain ?a5_NoChain ?av_NoChain ?ai_NoChain_HoleError ?as_NoChain_HoleError ?ai_NoChain_NoShape ?ai_NoChain_NoLevel ?ai_NoChain_NoChain ?as_NoChain_NoChain ?ai_NoChain_NoTable ?ai_NoChain_NoMap ?ai_NoChain_NoPair ?ai_NoChain_NoRound ?aq_LEVELS ?z_isinstance ?z_int ?z_bool ?z_max ?z_len ?z_all ?z_dict ?z_any ?z_range ?z_enumerate ?z_list ?z_tuple ?z_ValueError
    (case ac_HoleError => k_is); (case ac_NoShape => k_is); (case ac_NoLevel => k_is); (case ac_NoChain => k_is)
    (case ac_NoTable => k_is); (case ac_NoMap => k_is); (case ac_NoPair => k_is); (case ac_NoRound => k_is)
    (case a_is_whole => k_is); (case l_is_whole => k_is); (case c_is_whole => k_is); (case k_is_whole => k_is)
    (case a_level_of => k_is); (case l_level_of => k_is); (case c_level_of => k_is); (case k_level_of => k_is)
    (case a_add_at => k_is); (case l_add_at => k_is); (case c_add_at => k_is); (case k_add_at => k_is)
    (case a_numbers_at => k_is); (case l_numbers_at => k_is); (case c_numbers_at => k_is); (case k_numbers_at => k_is)
    (case a_L_cell_at => k_is); (case l_L_cell_at => k_is); (case c_L_cell_at => k_is); (case k_L_cell_at => k_is)
    (case a_L_faces_by => k_is); (case l_L_faces_by => k_is); (case c_L_faces_by => k_is); (case k_L_faces_by => k_is)
    (case a_L_word_by => k_is); (case l_L_word_by => k_is); (case c_L_word_by => k_is); (case k_L_word_by => k_is)
    (case a_L_number_by => k_is); (case l_L_number_by => k_is); (case c_L_number_by => k_is); (case k_L_number_by => k_is)
    (case a_L_spots_of => k_is); (case l_L_spots_of => k_is); (case c_L_spots_of => k_is); (case k_L_spots_of => k_is)
    (case a_L_spoilt => k_is); (case l_L_spoilt => k_is); (case c_L_spoilt => k_is); (case k_L_spoilt => k_is)
    (case a_L_other => k_is); (case l_L_other => k_is); (case c_L_other => k_is); (case k_L_other => k_is)
    (case a_is_whole_below => k_is); (case l_is_whole_below => k_is); (case c_is_whole_below => k_is); (case k_is_whole_below => k_is)
    (case a_places_of_level => k_is); (case l_places_of_level => k_is); (case c_places_of_level => k_is); (case k_places_of_level => k_is)
    (case a_add_faces => k_is); (case l_add_faces => k_is); (case c_add_faces => k_is); (case k_add_faces => k_is)
    (case a_L_words_with => k_is); (case l_L_words_with => k_is); (case c_L_words_with => k_is); (case k_L_words_with => k_is)
    (case a_L_chain_by => k_is); (case l_L_chain_by => k_is); (case c_L_chain_by => k_is); (case k_L_chain_by => k_is)
    (case a_is_place_of_level => k_is); (case l_is_place_of_level => k_is); (case c_is_place_of_level => k_is); (case k_is_place_of_level => k_is)
    (case a_L_shape_by => k_is); (case l_L_shape_by => k_is); (case c_L_shape_by => k_is); (case k_L_shape_by => k_is)
    (case a_is_part => k_is); (case l_is_part => k_is); (case c_is_part => k_is); (case k_is_part => k_is)
    (case a_is_chain => k_is); (case l_is_chain => k_is); (case c_is_chain => k_is); (case k_is_chain => k_is)
    (case a_is_chain_of_some_level => k_is); (case l_is_chain_of_some_level => k_is); (case c_is_chain_of_some_level => k_is); (case k_is_chain_of_some_level => k_is)
    (case a_row_of => k_is); (case l_row_of => k_is); (case c_row_of => k_is); (case k_row_of => k_is)
    (case a_border => k_is); (case l_border => k_is); (case c_border => k_is); (case k_border => k_is)
    (case a_L_row_refused => k_is); (case l_L_row_refused => k_is); (case c_L_row_refused => k_is); (case k_L_row_refused => k_is)
    (case a_L_border_refused => k_is); (case l_L_border_refused => k_is); (case c_L_border_refused => k_is); (case k_L_border_refused => k_is)
    (case a_law => k_is); (case l_law => k_is); (case c_law => k_is); (case k_law => k_is)
    (case ak_HoleError => kts_isx); (case ae_NoChain => k_exc); (case ak_NoChain => kts_isx); (case a1_NoChain => k_is)
    (case a2_NoChain => k_is); (case a3_NoChain => k_is); (case a4_NoChain => k_is); (case a5_NoChain => k_is)
    (case av_NoChain => kit_is); (case ai_NoChain_HoleError => kit_is); (case as_NoChain_HoleError => k_is); (case ai_NoChain_NoShape => kit_is)
    (case ai_NoChain_NoLevel => kit_is); (case ai_NoChain_NoChain => kit_is); (case as_NoChain_NoChain => k_is); (case ai_NoChain_NoTable => kit_is)
    (case ai_NoChain_NoMap => kit_is); (case ai_NoChain_NoPair => kit_is); (case ai_NoChain_NoRound => kit_is); (case aq_LEVELS => k_is)
    (case z_isinstance => k_is); (case z_int => k_is); (case z_bool => k_is); (case z_max => k_is)
    (case z_len => k_is); (case z_all => k_is); (case z_dict => k_is); (case z_any => k_is)
    (case z_range => k_is); (case z_enumerate => k_is); (case z_list => k_is); (case z_tuple => k_is)
    (case z_ValueError => k_is)
