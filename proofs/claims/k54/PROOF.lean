import PyProof.Rows.All
import Wide.All
import OpenK.AllK
import Wide.FinOn
import Lean
import PyProof.EqAt
import PyProof.EqKinds
import PyProof.TupleCall
import PySem.Challenge.RW_holebook_k54_a_growth_keeps_its_pieces
set_option linter.all false
set_option Elab.async false
set_option maxRecDepth 100000
set_option maxHeartbeats 4000000
namespace L2
open PySem PySem.Spec PyProof.Rows
noncomputable abbrev Key := Sum Int Str
noncomputable def keyIs : Key → Value → Bool
 | .inl k, v => Value.isInt k v
 | .inr x, v => Value.isStrOf x v
noncomputable def keyH (w : World) : Key → Int
 | .inl k => hashInt k
 | .inr x => hashStr w x
theorem keyIs_shape : ∀ {k : Key} {v : Value}, keyIs k v = true → (∃ i t, k = Sum.inl i ∧ v = Value.int i t) ∨ (∃ x t, k = Sum.inr x ∧ v = Value.str x t)
 | .inl i, v, h => by
   obtain ⟨t, e⟩ := Value.isInt_shape (k := i) (v := v) h
   exact .inl ⟨i, t, rfl, e⟩
 | .inr x, v, h => by
   obtain ⟨t, e⟩ := Value.isStrOf_shape (x := x) (v := v) h
   exact .inr ⟨x, t, rfl, e⟩
theorem keyIs_int (i : Int) (t : Tok) : keyIs (.inl i) (.int i t) = true := by simp [keyIs, Value.isInt]
theorem keyIs_str (x : Str) (t : Tok) : keyIs (.inr x) (.str x t) = true := by simp [keyIs, Value.isStrOf]
theorem key_ll (a b : Int) : decide ((Sum.inl a : Key) = Sum.inl b) = (a == b) := by
 by_cases e : a = b
 · subst e; simp
 · have h : ¬ (Sum.inl a : Key) = Sum.inl b := fun q => e (Sum.inl.inj q)
   rw [decide_eq_false h]
   exact (beq_eq_false_iff_ne.mpr e).symm
theorem key_rr (a b : Str) : decide ((Sum.inr a : Key) = Sum.inr b) = decide (a = b) := by
 by_cases e : a = b
 · subst e; simp
 · have h : ¬ (Sum.inr a : Key) = Sum.inr b := fun q => e (Sum.inr.inj q)
   rw [decide_eq_false h, decide_eq_false e]
theorem key_lr (a : Int) (b : Str) : decide ((Sum.inl a : Key) = Sum.inr b) = false := decide_eq_false (fun q => nomatch q)
theorem key_rl (a : Str) (b : Int) : decide ((Sum.inr a : Key) = Sum.inl b) = false := decide_eq_false (fun q => nomatch q)
noncomputable def mixKind (prog : Program) (w : World) : PySem.KeyKind prog w Key where
 is := keyIs
 hash := keyH w
 inj := fun v a b ha hb => by
   rcases keyIs_shape ha with ⟨i, t, rfl, rfl⟩ | ⟨x, t, rfl, rfl⟩
   · rcases keyIs_shape hb with ⟨j, u, rfl, e⟩ | ⟨y, u, rfl, e⟩
     · injection e with e1 _; rw [e1]
     · exact nomatch e
   · rcases keyIs_shape hb with ⟨j, u, rfl, e⟩ | ⟨y, u, rfl, e⟩
     · exact nomatch e
     · injection e with e1 _; rw [e1]
 byValue := fun k v h => by
   rcases keyIs_shape h with ⟨i, t, rfl, rfl⟩ | ⟨x, t, rfl, rfl⟩ <;> rfl
 pyHash := fun hv h => by
   rcases keyIs_shape hv with ⟨i, t, rfl, rfl⟩ | ⟨x, t, rfl, rfl⟩
   · exact wpAny_pyHash_int h
   · exact wpAny_pyHash_str h
 eqBool := fun hu hv h => by
   rcases keyIs_shape hu with ⟨i, t, rfl, rfl⟩ | ⟨x, t, rfl, rfl⟩
   · rcases keyIs_shape hv with ⟨j, u, rfl, rfl⟩ | ⟨y, u, rfl, rfl⟩
     · rw [key_ll] at h; exact wpAny_eqBool_int h
     · rw [key_lr] at h; exact SeqAt.EqAt.int_str i t y u _ _ _ _ h
   · rcases keyIs_shape hv with ⟨j, u, rfl, rfl⟩ | ⟨y, u, rfl, rfl⟩
     · rw [key_rl] at h; exact SeqAt.EqAt.str_int x t j u _ _ _ _ h
     · rw [key_rr] at h; exact wpAny_eqBool_str h
 «strs» := fun k x t v h => by
   rcases keyIs_shape h with ⟨i, u, rfl, e⟩ | ⟨y, u, rfl, e⟩
   · exact nomatch e
   · injection e with e1 _
     subst e1
     cases v <;> rfl
theorem mixKind_int (prog : Program) (w : World) (i : Int) (t : Tok) : (mixKind prog w).is (.inl i) (.int i t) = true := keyIs_int i t
theorem mixKind_str (prog : Program) (w : World) (x : Str) (t : Tok) : (mixKind prog w).is (.inr x) (.str x t) = true := keyIs_str x t
end L2
namespace L2
open PySem PySem.Spec PyProof.Rows
inductive V where
 | non | bl (b : Bool) | int (i : Int) | str (x : Str) | byt (b : Array UInt8) | flt (b : UInt64) | ref (a : Addr) | ty (n : String)
 deriving DecidableEq
noncomputable def RelV : V → Value → Prop
 | .non, u => u = Value.none
 | .bl b, u => u = Value.bool b
 | .int i, u => ∃ t, u = Value.int i t
 | .str x, u => ∃ t, u = Value.str x t
 | .byt b, u => ∃ t, u = Value.bytes b t
 | .flt b, u => ∃ t, u = Value.float b t
 | .ref a, u => u = Value.ref a
 | .ty n, u => u = Value.type n
noncomputable abbrev Vals : List V → List Value → Prop := Paired RelV
theorem Vals.length {xs : List V} {us : List Value} (r : Vals xs us) : xs.length = us.length := Paired.length r
theorem Vals.get : ∀ {xs : List V} {us : List Value} {i : Nat} {x : V}, Vals xs us → xs[i]? = some x → ∃ u, us[i]? = some u ∧ RelV x u
 | _, _, _, _, .nil, e => by simp at e
 | _, _, 0, _, .cons r _, e => by simp at e; subst e; exact ⟨_, rfl, r⟩
 | _, _, i + 1, x, .cons _ t, e => by
   obtain ⟨u, h1, h2⟩ := Vals.get (i := i) (x := x) t (by simpa using e)
   exact ⟨u, by simpa using h1, h2⟩
theorem Vals.append : ∀ {xs ys : List V} {us ws : List Value}, Vals xs us → Vals ys ws → Vals (xs ++ ys) (us ++ ws)
 | _, _, _, _, .nil, s => s
 | _, _, _, _, .cons r t, s => .cons r (Vals.append t s)
theorem Vals.take : ∀ {xs : List V} {us : List Value} (n : Nat), Vals xs us → Vals (xs.take n) (us.take n)
 | _, _, 0, _ => .nil
 | _, _, _ + 1, .nil => .nil
 | _, _, n + 1, .cons r t => .cons r (Vals.take n t)
theorem Vals.drop : ∀ {xs : List V} {us : List Value} (n : Nat), Vals xs us → Vals (xs.drop n) (us.drop n)
 | _, _, 0, r => r
 | _, _, _ + 1, .nil => .nil
 | _, _, n + 1, .cons _ t => Vals.drop n t
noncomputable def RelO : Option V → Option Value → Prop
 | some v, some u => RelV v u
 | none, none => True
 | _, _ => False
noncomputable def KV {κ : Type} : List (κ × V) → List (κ × Value) → Prop := Paired fun (p : κ × V) (q : κ × Value) => p.1 = q.1 ∧ RelV p.2 q.2
noncomputable def kV : Key → V
 | .inl i => .int i
 | .inr x => .str x
inductive HO where
 | lst (xs : List V)
 | tup (xs : List V)
 | dK (kvs : List (Key × V)) | dT (kvs : List (List Key × V))
 | set (S : Int → Bool) (n : Nat)
 | ins (C dx : Addr) (fs : List (Str × V))
 | own (x : Addr)
 | xd (fs : List (Str × V))
 | met (f x : Addr)
 | rng (lo hi : Int)
 | frz (o : Obj) (u : HO)
 | tbl (ps : Array Value)
 | ext (φ : Heap → Prop)
noncomputable abbrev Hp := Addr → Option HO
noncomputable def upd (H : Hp) (a : Addr) (o : HO) : Hp := fun b => if b = a then some o else H b
theorem upd_same {H : Hp} {a : Addr} {o : HO} : upd H a o a = some o := by unfold upd; rw [if_pos rfl]
theorem upd_ne {H : Hp} {a b : Addr} {o : HO} (h : b ≠ a) : upd H a o b = H b := by unfold upd; rw [if_neg h]
theorem ne_of {H : Hp} {a b : Addr} {o u : HO} (h : H a = some o) (h' : H b = some u) (d : o ≠ u) : a ≠ b := by
 intro e; subst e; rw [h] at h'; exact d (Option.some.inj h')
theorem ne_of_none {H : Hp} {a b : Addr} {o : HO} (h : H a = some o) (h' : H b = none) : a ≠ b := by
 intro e; subst e; rw [h] at h'; cases h'
noncomputable def IsTupN (h : Heap) (a : Addr) (items : Array Value) : Prop := ∃ o, h.get? a = some o ∧ o.cls = .type "tuple" ∧ o.dict = none ∧ ∃ n, o.data = .seq items n
theorem IsTupN.tup {h : Heap} {a : Addr} {items : Array Value} (x : IsTupN h a items) : IsTup h a items := let ⟨o, e, c, _, d⟩ := x; ⟨o, e, c, d⟩
theorem IsTupN.lt {h : Heap} {a : Addr} {items : Array Value} (x : IsTupN h a items) : a < h.objs.size := x.tup.lt
theorem IsTupN.new (h : Heap) (items : Array Value) : IsTupN (h.push { cls := .type "tuple", data := .seq items }) h.objs.size items := ⟨_, Heap.get?_push_size _ rfl, rfl, rfl, _, rfl⟩
section
variable (P : Program) (w : World)
noncomputable def ObjOk (H : Hp) (h : Heap) (a : Addr) : HO → Prop
 | .lst xs => xs.length ≤ sizeLine ∧ ∃ (its : List Value) (n : Nat), Vals xs its ∧ h.get? a = some { cls := .type "list", data := .seq its.toArray n }
 | .tup xs => xs.length ≤ sizeLine ∧ ∃ its : List Value, Vals xs its ∧ IsTupN h a its.toArray
 | .dK kvs => kvs.length ≤ sizeLine ∧ (a == sysModules) = false ∧ ∃ vs, KV kvs vs ∧ h.DictOf (mixKind P w) a vs
 | .dT kvs => kvs.length ≤ sizeLine ∧ (a == sysModules) = false ∧ ∃ xs : List (List Key × Addr × Value),
     Paired (fun (p : List Key × V) (q : List Key × Addr × Value) => p.1 = q.1 ∧ H q.2.1 = some (.tup (p.1.map kV)) ∧ RelV p.2 q.2.2) kvs xs ∧
     ∃ o es ep, h.get? a = some o ∧ o.ExactDict ∧ o.data = .dict es ep ∧ es.toList = xs.map (entryOfKey (tupleKind (mixKind P w))) ∧ (xs.map (·.1)).Nodup
 | .set S n => h.SetOf (intKind P w) a S n
 | .ins C dx fs => H dx = some (.own a) ∧ fs.length ≤ 1000 ∧ dx ≠ a ∧ h.get? a = some (PySem.W.instObj C dx) ∧
     ∃ mA, h.Ns1 dx mA ∧ (∀ f, RelO (fs.lookup f) (mA f)) ∧ PySem.Within mA (fs.map (·.1))
 | .own _ => ∃ o, h.get? a = some o
 | .xd fs => ∃ mA, h.Ns1 a mA ∧ ∀ f, RelO (fs.lookup f) (mA f)
 | .rng lo hi => ∃ t u v, h.get? a = some { cls := .type "range", data := .fields #[.int lo t, .int hi u, .int 1 v] }
 | .frz o u => h.get? a = some o ∧ ObjOk H h a u
 | .tbl ps => h.get? a = some { cls := .none, data := .fields ps }
 | .met f x => h.get? a = some (PySem.W.methodObj (.ref f) (.ref x))
 | .ext φ => φ h ∧ (∃ o, h.get? a = some o) ∧ ∀ h1 h2 : Heap, φ h1 → (∀ o, h1.get? a = some o → h2.get? a = some o) → φ h2
noncomputable def HOk (H : Hp) (h : Heap) : Prop := ∀ a o, H a = some o → ObjOk P w H h a o
end
section
variable {P : Program} {w : World} {H H' : Hp} {h h' : Heap} {a : Addr} {o : HO}
theorem ObjOk.lt (x : ObjOk P w H h a o) : a < h.objs.size := by
 cases o with
 | lst xs => obtain ⟨_, _, _, _, e⟩ := x; exact Heap.lt_size e
 | tup xs => obtain ⟨_, _, _, p⟩ := x; exact p.lt
 | dK kvs => obtain ⟨_, _, _, _, o, _, _, e, _⟩ := x; exact Heap.lt_size e
 | dT kvs => obtain ⟨_, _, _, _, o, _, _, e, _⟩ := x; exact Heap.lt_size e
 | set S n => obtain ⟨o, _, _, _, e, _⟩ := x; exact Heap.lt_size e
 | ins C dx fs => obtain ⟨_, _, _, e, _⟩ := x; exact Heap.lt_size e
 | own y => obtain ⟨_, e⟩ := x; exact Heap.lt_size e
 | xd fs => obtain ⟨_, ⟨_, _, _, e, _⟩, _⟩ := x; exact Heap.lt_size e
 | rng lo hi => obtain ⟨_, _, _, e⟩ := x; exact Heap.lt_size e
 | frz ob u => obtain ⟨e, _⟩ := x; exact Heap.lt_size e
 | tbl ps => exact Heap.lt_size (show h.get? a = some _ from x)
 | met f y => exact Heap.lt_size (show h.get? a = some _ from x)
 | ext φ => obtain ⟨_, ⟨_, e⟩, _⟩ := x; exact Heap.lt_size e
theorem Paired.mapP {α β : Type} {F G : α → β → Prop} : ∀ {l₁ : List α} {l₂ : List β}, Paired F l₁ l₂ → (∀ a b, F a b → G a b) → Paired G l₁ l₂
 | _, _, .nil, _ => .nil
 | _, _, .cons r t, f => .cons (f _ _ r) (Paired.mapP t f)
theorem ObjOk.stay (x : ObjOk P w H h a o) (k : ∀ b u, (b = a ∨ H b = some (.own a)) → h.get? b = some u → h'.get? b = some u)
   (ho : ∀ b, H b = some (.own a) → H' b = some (.own a)) (ht : ∀ b xs, H b = some (.tup xs) → H' b = some (.tup xs)) : ObjOk P w H' h' a o := by
 induction o with
 | lst xs => obtain ⟨z, its, n, r, e⟩ := x; exact ⟨z, its, n, r, k _ _ (.inl rfl) e⟩
 | tup xs => obtain ⟨z, its, r, ob, e, c⟩ := x; exact ⟨z, its, r, ob, k _ _ (.inl rfl) e, c⟩
 | dK kvs => obtain ⟨z, y, vs, r, ob, es, ep, e, c⟩ := x; exact ⟨z, y, vs, r, ob, es, ep, k _ _ (.inl rfl) e, c⟩
 | dT kvs =>
   obtain ⟨z, y, xs, r, ob, es, ep, e, c⟩ := x
   exact ⟨z, y, xs, Paired.mapP r fun p q z => ⟨z.1, ht _ _ z.2.1, z.2.2⟩, ob, es, ep, k _ _ (.inl rfl) e, c⟩
 | set S n => obtain ⟨ob, es, ep, t, e, c⟩ := x; exact ⟨ob, es, ep, t, k _ _ (.inl rfl) e, c⟩
 | ins C dx fs =>
   obtain ⟨d, z, ne, e, mA, ⟨od, es, ep, e2, c⟩, r⟩ := x
   exact ⟨ho _ d, z, ne, k _ _ (.inl rfl) e, mA, ⟨od, es, ep, k _ _ (.inr d) e2, c⟩, r⟩
 | own y => obtain ⟨ob, e⟩ := x; exact ⟨ob, k _ _ (.inl rfl) e⟩
 | xd fs => obtain ⟨mA, ⟨od, es, ep, e, c⟩, r⟩ := x; exact ⟨mA, ⟨od, es, ep, k _ _ (.inl rfl) e, c⟩, r⟩
 | rng lo hi => obtain ⟨t, u, v, e⟩ := x; exact ⟨t, u, v, k _ _ (.inl rfl) e⟩
 | frz ob u ih => obtain ⟨e, q⟩ := x; exact ⟨k _ _ (.inl rfl) e, ih q⟩
 | tbl ps =>
   have e : h.get? a = some { cls := .none, data := .fields ps } := x
   show h'.get? a = some { cls := .none, data := .fields ps }
   exact k a _ (.inl rfl) e
 | met f y =>
   have e : h.get? a = some (PySem.W.methodObj (.ref f) (.ref y)) := x
   show h'.get? a = some (PySem.W.methodObj (.ref f) (.ref y))
   exact k a _ (.inl rfl) e
 | ext φ => obtain ⟨p, ⟨o, e⟩, st⟩ := x; exact ⟨st _ _ p fun o q => k _ _ (.inl rfl) q, ⟨o, k _ _ (.inl rfl) e⟩, st⟩
theorem HOk.lt (x : HOk P w H h) (e : H a = some o) : a < h.objs.size := (x a o e).lt
theorem HOk.fresh (x : HOk P w H h) (e : h.objs.size ≤ a) : H a = none := by
 cases q : H a with
 | none => rfl
 | some u => exact absurd (Nat.lt_of_lt_of_le (x.lt q) e) (Nat.lt_irrefl _)
theorem HOk.kept (x : HOk P w H h) (k : ∀ b u, h.get? b = some u → h'.get? b = some u) : HOk P w H h' := fun a o e =>
 (x a o e).stay (fun b u _ q => k b u q) (fun _ q => q) fun _ _ q => q
theorem HOk.laid (x : HOk P w H h) (k : ∀ b u, h.get? b = some u → h'.get? b = some u) (hp : h.objs.size ≤ a) (new : ObjOk P w (upd H a o) h' a o) : HOk P w (upd H a o) h' := fun b u e => by
 have hn := x.fresh hp
 by_cases hb : b = a
 · subst hb; rw [upd_same] at e; cases e; exact new
 · rw [upd_ne hb] at e
   exact (x b u e).stay (fun c v _ q => k c v q) (fun c q => by rw [upd_ne (ne_of_none q hn)]; exact q) fun c xs q => by rw [upd_ne (ne_of_none q hn)]; exact q
end
noncomputable def Rd (H : Hp) (a : Addr) (u : HO) : Prop := H a = some u ∨ ∃ o, H a = some (.frz o u)
theorem Rd.ok {P : Program} {w : World} {H : Hp} {h : Heap} {a : Addr} {u : HO} (r : Rd H a u) (x : HOk P w H h) : ObjOk P w H h a u := by
 rcases r with r | ⟨o, r⟩
 · exact x a u r
 · obtain ⟨_, q⟩ := x a _ r
   exact q
noncomputable def Mut : Option HO → Prop
 | some (.lst _) => True
 | some (.dK _) => True
 | some (.dT _) => True
 | some (.set _ _) => True
 | some (.ins _ _ _) => True
 | some (.ext _) => True
 | _ => False
section
variable {P : Program} {w : World} {H : Hp} {h h' : Heap} {x e : Addr} {o' : HO}
theorem HOk.write (ok : HOk P w H h) (mu : Mut (H x)) (he : e = x ∨ H e = some (.own x)) (k : ∀ b u, b ≠ e → h.get? b = some u → h'.get? b = some u) (heo : ∃ u, h'.get? e = some u)
   (new : ObjOk P w (upd H x o') h' x o') : HOk P w (upd H x o') h' := fun b u q => by
 have nown : ∀ c y, H c = some (.own y) → c ≠ x := fun c y r z => by subst z; rw [r] at mu; exact mu
 have ntup : ∀ c xs, H c = some (.tup xs) → c ≠ x := fun c xs r z => by subst z; rw [r] at mu; exact mu
 by_cases hb : b = x
 · subst hb; rw [upd_same] at q; cases q; exact new
 · rw [upd_ne hb] at q
   by_cases hbe : b = e
   · have q' : H b = some (.own x) := by
       rcases he with z | z
       · exact absurd (hbe.trans z) hb
       · rw [hbe]; exact z
     rw [q] at q'; cases q'
     obtain ⟨v, hv⟩ := heo
     exact ⟨v, by rw [hbe]; exact hv⟩
   · refine (ok b u q).stay (fun c v hc r => k c v ?_ r) (fun c r => by rw [upd_ne (nown c b r)]; exact r) fun c xs r => by rw [upd_ne (ntup c xs r)]; exact r
     rcases hc with rfl | hc
     · exact hbe
     · rintro rfl
       rcases he with z | z
       · exact nown c b hc z
       · rw [hc] at z; cases z; exact hb rfl
end
structure Un (fs ex : List Addr) (H H' : Hp) (h h' : Heap) : Prop where
 keep : ∀ b o, h.get? b = some o → H b = none → b ∉ fs → b ∉ ex → h'.get? b = some o
 slot : ∀ b o, h.get? b = some o → H b = none → b ∈ fs → b ∉ ex → ∃ sl, h'.get? b = some { o with slots := sl }
 free : ∀ b o, h.get? b = some o → H b = none → b ∉ ex → H' b = none
 there : ∀ b o, h.get? b = some o → b ∉ ex → ∃ o', h'.get? b = some o'
 tups : ∀ b xs, H b = some (.tup xs) → H' b = some (.tup xs)
 frzs : ∀ b o u, H b = some (.frz o u) → H' b = some (.frz o u)
 tbls : ∀ b ps, H b = some (.tbl ps) → ∃ more, H' b = some (.tbl (ps ++ more))
section
variable {fs fs' ex ex' : List Addr} {H H1 H2 : Hp} {h h1 h2 h' : Heap} {a x e : Addr} {o : HO}
theorem Un.any (u : Un fs ex H H1 h h1) {b : Addr} {ob : Obj} (q : h.get? b = some ob) (n : H b = none) (hx : b ∉ ex) : ∃ sl, h1.get? b = some { ob with slots := sl } := by
 by_cases hb : b ∈ fs
 · exact u.slot b ob q n hb hx
 · exact ⟨ob.slots, u.keep b ob q n hb hx⟩
theorem Un.kept (k : ∀ b u, h.get? b = some u → h'.get? b = some u) : Un fs ex H H h h' :=
 ⟨fun b ob q _ _ _ => k b ob q, fun b ob q _ _ _ => ⟨ob.slots, k b ob q⟩, fun _ _ _ n _ => n, fun b ob q _ => ⟨ob, k b ob q⟩, fun _ _ q => q, fun _ _ _ q => q, fun _ ps q => ⟨#[], by rw [q]; simp⟩⟩
theorem Un.refl : Un fs ex H H h h := Un.kept fun _ _ q => q
theorem Un.laid (k : ∀ b u, h.get? b = some u → h'.get? b = some u) (hp : h.objs.size ≤ a) (hn : H a = none) : Un fs ex H (upd H a o) h h' where
 keep := fun b u q _ _ _ => k b u q
 slot := fun b u q _ _ _ => ⟨u.slots, k b u q⟩
 free := fun b u q n _ => by rw [upd_ne (Nat.ne_of_lt (Nat.lt_of_lt_of_le (Heap.lt_size q) hp))]; exact n
 there := fun b u q _ => ⟨u, k b u q⟩
 tups := fun b xs q => by rw [upd_ne (ne_of_none q hn)]; exact q
 frzs := fun b u xs q => by rw [upd_ne (ne_of_none q hn)]; exact q
 tbls := fun b ps q => ⟨#[], by rw [upd_ne (ne_of_none q hn), q]; simp⟩
theorem Un.write (mu : Mut (H x)) (he : e = x ∨ H e = some (.own x)) (k : ∀ b u, b ≠ e → h.get? b = some u → h'.get? b = some u) (heo : ∃ u, h'.get? e = some u) : Un fs ex H (upd H x o) h h' := by
 have hx : ∀ b, H b = none → b ≠ x := fun b n z => by subst z; rw [n] at mu; exact mu
 have hb : ∀ b, H b = none → b ≠ e := fun b n z => by
   subst z
   rcases he with r | r
   · exact hx b n r
   · rw [n] at r; cases r
 have hm : ∀ b u, H b = some u → ¬ Mut (some u) → b ≠ x := fun b u q nm z => by subst z; rw [q] at mu; exact nm mu
 refine ⟨fun b u q n _ _ => k b u (hb b n) q, fun b u q n _ _ => ⟨u.slots, k b u (hb b n) q⟩, fun b u q n _ => by rw [upd_ne (hx b n)]; exact n, fun b u q _ => ?_,
   fun b xs q => by rw [upd_ne (hm b _ q fun z => z)]; exact q, fun b u xs q => by rw [upd_ne (hm b _ q fun z => z)]; exact q, fun b ps q => ⟨#[], by rw [upd_ne (hm b _ q fun z => z), q]; simp⟩⟩
 by_cases hbe : b = e
 · subst hbe; exact heo
 · exact ⟨u, k b u hbe q⟩
end
noncomputable def trk (h : Heap) (H : Hp) : List Addr := (List.range h.objs.size).filter fun a => (H a).isSome
noncomputable def hidT (h : Heap) (H : Hp) : Heap := PySem.W.hideAll h (trk h H)
theorem hidT_size (h : Heap) (H : Hp) : (hidT h H).objs.size = h.objs.size := PySem.W.hideAll_size _ _
theorem hidT_get {h : Heap} {H : Hp} {b : Addr} {o : Obj} (e : h.get? b = some o) (n : H b = none) : (hidT h H).get? b = some o :=
 PySem.W.hideAll_get _ e fun hm => by
   have q : (H b).isSome = true := (List.mem_filter.mp hm).2
   rw [n] at q; simp at q
theorem of_hidT {h : Heap} {H : Hp} {b : Addr} {o : Obj} (e : (hidT h H).get? b = some o) : h.get? b = some o ∧ H b = none := by
 have e' : h.get? b = some o := PySem.W.of_hideAll (trk h H) e
 refine ⟨e', ?_⟩
 cases q : H b with
 | none => rfl
 | some x =>
   have hm : b ∈ trk h H := List.mem_filter.mpr ⟨List.mem_range.mpr (Heap.lt_size e'), by simp [q]⟩
   have z : (hidT h H).get? b = none := PySem.W.hideAll_none (trk h H) hm
   rw [z] at e; cases e
noncomputable def allNews (g h : Heap) (L : Addr) : List (Addr × Obj) := (List.range h.objs.size).filterMap fun a => if a = L ∨ (g.get? a).isSome = true then none else (h.get? a).map fun o => (a, o)
noncomputable def rest (g h : Heap) (L d : Addr) : List (Addr × Obj) := (allNews g h L).filter fun p => decide (p.1 ≠ d)
end L2
namespace L2
open PySem PySem.Spec PyProof.Rows
structure Mod (K : PySem.W.Frag) (mg : Str → Option Value) (base : Heap) : Prop where
 kin : K.In base
 glob : base.Ns mainGlobals mg
 blt : ∃ mb, base.Ns builtinsNs mb ∧ ∀ x : Str, x ≠ "__name__" → mb x = bootBuiltins x
 nolimit : base.NoLimit
structure Cx where
 prog : Program
 w : World
 K : PySem.W.Frag
 mg : Str → Option Value
 base : Heap
 A : Around
 N : List Str
 s₀ : Shared
 H₀ : Hp
 env : Env
 outer : List Env
 stack : List Env
 ex : List Addr
 fn : Str → Bool
 calm : Bool
 pn : List (Addr × Obj)
 xe : Value → Shared → Prop
noncomputable def frs (l : List Env) : List Addr := l.filterMap (·.frame)
noncomputable abbrev Cx.fs (X : Cx) : List Addr := frs X.outer
noncomputable def Vis (sc : Scope) (x : Str) : Prop := sc.names.lookup x = some .local ∨ sc.names.lookup x = some .cell ∨ sc.names.lookup x = some .free
noncomputable def Loc (sc : Scope) (x : Str) : Prop := sc.names.lookup x = some .local ∨ sc.names.lookup x = some .cell
noncomputable def Look (env : Env) (h : Heap) (m : Str → Option Value) (x : Str) (u : Value) : Prop :=
 (env.kindOf x = some .local ∧ m x = some u) ∨ ((env.kindOf x = some .cell ∨ env.kindOf x = some .free) ∧ ∃ c, env.cells.lookup x = some c ∧ h.IsCell c (some u))
structure Cx.Ok (X : Cx) : Prop where
 mod : Mod X.K X.mg X.base
 kind : X.env.scope.kind = .function
 glob : X.env.globals = mainGlobals
 blt : X.env.builtins = builtinsNs
 above : X.s₀.heap.objs.size ≤ X.env.locals
 inj : ∀ x y c, X.env.cells.lookup x = some c → X.env.cells.lookup y = some c → x = y
 has : ∀ x, (X.env.kindOf x = some .cell ∨ X.env.kindOf x = some .free) → ∃ c, X.env.cells.lookup x = some c
 cab : ∀ x c, X.fn x = true → X.env.cells.lookup x = some c → X.s₀.heap.objs.size ≤ c
 hd : X.calm = true → X.A.handled = none
 frames : X.A.frames = some X.stack
 stk : X.stack = X.outer ∨ (X.stack = X.env :: X.outer ∧ X.env.frame = some X.env.locals)
 exf : ∀ b ∈ X.ex, b ≠ X.env.locals ∧ ∀ x c, X.env.cells.lookup x = some c → c ≠ b
 bs : ∀ b o, X.base.get? b = some o → X.s₀.heap.get? b = some o ∧ X.H₀ b = none
 bsz : X.base.objs.size ≤ X.s₀.heap.objs.size
 noex : ∀ b o, X.base.get? b = some o → b ∉ X.ex
 exfs : ∀ b ∈ X.ex, b ∉ X.fs
 funs : X.s₀.heap.FunFrames X.base X.outer
 frf : ∀ b ∈ X.fs, X.H₀ b = none
structure Inv (X : Cx) (pins : List (Addr × Obj)) (σ : List (Option V)) (H : Hp) (s : Shared) : Prop where
 ok : X.Ok
 os : s.os = X.s₀.os
 bare : AllBare s.gens
 base : Un X.fs X.ex X.H₀ H X.s₀.heap s.heap
 loc : ∃ m, s.heap.Ns X.env.locals m ∧ ∀ (i : Nat) (x : Str) (v : V), X.N[i]? = some x → σ[i]? = some (some v) → Vis X.env.scope x → ∃ u, RelV v u ∧ Look X.env s.heap m x u
 cell : ∀ x c, X.env.cells.lookup x = some c → ∃ v, s.heap.IsCell c v
 free : H X.env.locals = none
 freeC : ∀ x c, X.env.cells.lookup x = some c → H c = none
 pin : ∀ p ∈ X.pn ++ pins, s.heap.get? p.1 = some p.2 ∧ H p.1 = none ∧ p.1 ≠ X.env.locals ∧ p.1 ∉ X.fs ∧ ∀ v, p.2.data ≠ .cell v
 hok : HOk X.prog X.w H s.heap
 len : σ.length = X.N.length
section
variable {X : Cx} {pins : List (Addr × Obj)} {σ : List (Option V)} {H H' : Hp} {s : Shared} {h' : Heap}
theorem Cx.Ok.nofr (ok : X.Ok) {b : Addr} {o : Obj} (e : X.base.get? b = some o) : b ∉ X.fs := fun hb => by
 have := (ok.funs.mem hb).1
 rw [e] at this; cases this
theorem Inv.bs (I : Inv X pins σ H s) : ∀ b o, X.base.get? b = some o → s.heap.get? b = some o ∧ H b = none := fun b o e =>
 ⟨I.base.keep b o (I.ok.bs b o e).1 (I.ok.bs b o e).2 (I.ok.nofr e) (I.ok.noex b o e), I.base.free b o (I.ok.bs b o e).1 (I.ok.bs b o e).2 (I.ok.noex b o e)⟩
theorem Inv.bk (I : Inv X pins σ H s) : ∀ b o, X.base.get? b = some o → s.heap.get? b = some o := fun b o e => (I.bs b o e).1
theorem Inv.mod (I : Inv X pins σ H s) : Mod X.K X.mg X.base := I.ok.mod
theorem Inv.kIn (I : Inv X pins σ H s) : X.K.In s.heap := I.ok.mod.kin.keeps I.bk
theorem Inv.lt (I : Inv X pins σ H s) : X.env.locals < s.heap.objs.size := let ⟨_, hn, _⟩ := I.loc; hn.lt
theorem Inv.sz (I : Inv X pins σ H s) : X.s₀.heap.objs.size ≤ s.heap.objs.size := Nat.le_trans I.ok.above (Nat.le_of_lt I.lt)
theorem Inv.nofs (I : Inv X pins σ H s) {a : Addr} (h : s.heap.objs.size ≤ a) : a ∉ X.fs := fun hb => by
 obtain ⟨_, o, ho, _⟩ := I.ok.funs.mem hb
 exact absurd (Nat.lt_of_lt_of_le (Heap.lt_size ho) (Nat.le_trans I.sz h)) (Nat.lt_irrefl _)
theorem Inv.cne (I : Inv X pins σ H s) : ∀ x c, X.env.cells.lookup x = some c → c ≠ X.env.locals := fun x c e z => by
 obtain ⟨v, o, ho, hd⟩ := I.cell x c e
 obtain ⟨m, ⟨o', es, ep, ho', hd', _⟩, _⟩ := I.loc
 rw [z, ho'] at ho; cases ho; rw [hd'] at hd; cases hd
theorem Inv.funs (I : Inv X pins σ H s) : s.heap.FunFrames X.base X.outer := by
 have all : ∀ (l : List Env), (∀ b ∈ frs l, b ∈ X.fs) → X.s₀.heap.FunFrames X.base l → s.heap.FunFrames X.base l := by
   intro l
   induction l with
   | nil => intro _ _; trivial
   | cons env r ih =>
     intro hs hl
     obtain ⟨hk, ⟨L, o, hf, hn, ho, hd⟩, hr⟩ := hl
     have hL : L ∈ X.fs := hs L (by unfold frs; rw [List.filterMap_cons, hf]; exact List.mem_cons_self)
     obtain ⟨sl, e⟩ := I.base.slot L o ho (I.ok.frf L hL) hL fun z => I.ok.exfs L z hL
     exact ⟨hk, ⟨L, _, hf, hn, e, hd⟩, ih (fun b hb => hs b (by unfold frs; rw [List.filterMap_cons, hf]; exact List.mem_cons_of_mem _ hb)) hr⟩
 exact all X.outer (fun _ hb => hb) I.ok.funs
theorem Inv.stack (I : Inv X pins σ H s) : s.heap.FunFrames X.base X.stack := by
 rcases I.ok.stk with e | ⟨e, hf⟩
 · rw [e]; exact I.funs
 · rw [e]
   obtain ⟨m, hn, _⟩ := I.loc
   refine .cons (by rw [I.ok.kind]; decide) hf hn ?_ I.funs
   exact Heap.get?_none_of_le (Nat.le_trans I.ok.bsz I.ok.above)
theorem Inv.stkSub (I : Inv X pins σ H s) : ∀ b ∈ frs X.stack, b ∈ X.env.locals :: X.fs := fun b hb => by
 rcases I.ok.stk with e | ⟨e, hf⟩
 · rw [e] at hb; exact List.mem_cons_of_mem _ hb
 · rw [e] at hb
   unfold frs at hb
   rw [List.filterMap_cons, hf] at hb
   exact hb
theorem Inv.stkFree (I : Inv X pins σ H s) : ∀ b ∈ frs X.stack, H b = none := fun b hb => by
 rcases List.mem_cons.mp (I.stkSub b hb) with e | hb
 · rw [e]; exact I.free
 · obtain ⟨_, o, ho, _⟩ := I.ok.funs.mem hb
   exact I.base.free b o ho (I.ok.frf b hb) fun z => I.ok.exfs b z hb
theorem Inv.step {g' : Array GenState} {t' : Nat} {d' : Drawn} {ch : List Addr} (I : Inv X pins σ H s)
   (hch : ∀ b ∈ ch, (b ∈ X.ex ∨ X.s₀.heap.objs.size ≤ b) ∧ b ≠ X.env.locals ∧ (∀ x c, X.env.cells.lookup x = some c → c ≠ b) ∧ ∀ p ∈ X.pn ++ pins, p.1 ≠ b)
   (keep : ∀ b o, b ≠ X.env.locals → b ∉ X.fs → b ∉ ch → s.heap.get? b = some o → H b = none → h'.get? b = some o)
   (slot : ∀ b o, b ≠ X.env.locals → b ∈ X.fs → b ∉ ch → s.heap.get? b = some o → H b = none → ∃ sl, h'.get? b = some { o with slots := sl }) (free : ∀ b o, b ∉ ch → s.heap.get? b = some o → H b = none → H' b = none)
   (there : ∀ b o, b ∉ ch → s.heap.get? b = some o → ∃ o', h'.get? b = some o')
   (tups : ∀ b xs, H b = some (.tup xs) → H' b = some (.tup xs)) (frzs : ∀ b o u, H b = some (.frz o u) → H' b = some (.frz o u)) (tbls : ∀ b ps, H b = some (.tbl ps) → ∃ more, H' b = some (.tbl (ps ++ more)))
   (ns : ∀ m, s.heap.Ns X.env.locals m → h'.Ns X.env.locals m) (hok : HOk X.prog X.w H' h') (hg : AllBare g') :
   Inv X pins σ H' { s with heap := h', gens := g', drawn := d', toks := t' } := by
 have neL : ∀ b o, X.s₀.heap.get? b = some o → b ≠ X.env.locals := fun b o e => Nat.ne_of_lt (Nat.lt_of_lt_of_le (Heap.lt_size e) I.ok.above)
 have neC : ∀ b o, X.s₀.heap.get? b = some o → b ∉ X.ex → b ∉ ch := fun b o e hx hb => by
   rcases (hch b hb).1 with z | z
   · exact hx z
   · exact absurd (Nat.lt_of_lt_of_le (Heap.lt_size e) z) (Nat.lt_irrefl _)
 have cellK : ∀ x c, X.env.cells.lookup x = some c → ∀ v, s.heap.IsCell c v → h'.IsCell c v := fun x c e v ⟨o, ho, hd⟩ => by
   have nch : c ∉ ch := fun z => (hch c z).2.2.1 x c e rfl
   by_cases hc : c ∈ X.fs
   · obtain ⟨sl, q⟩ := slot c o (I.cne x c e) hc nch ho (I.freeC x c e)
     exact ⟨_, q, hd⟩
   · exact ⟨o, keep c o (I.cne x c e) hc nch ho (I.freeC x c e), hd⟩
 refine ⟨I.ok, I.os, hg, ⟨fun b o e n hb hx => ?_, fun b o e n hb hx => ?_, fun b o e n hx => ?_, fun b o e hx => ?_, fun b xs e => tups b xs (I.base.tups b xs e), fun b o xs e => frzs b o xs (I.base.frzs b o xs e), fun b ps e => ?_⟩, ?_, fun x c e => ?_, ?_, fun x c e => ?_, fun p hp => ?_, hok, I.len⟩
 · exact keep b o (neL b o e) hb (neC b o e hx) (I.base.keep b o e n hb hx) (I.base.free b o e n hx)
 · obtain ⟨sl, e1⟩ := I.base.slot b o e n hb hx
   obtain ⟨sl', e2⟩ := slot b _ (neL b o e) hb (neC b o e hx) e1 (I.base.free b o e n hx)
   exact ⟨sl', e2⟩
 · obtain ⟨o', e1⟩ := I.base.there b o e hx
   exact free b o' (neC b o e hx) e1 (I.base.free b o e n hx)
 · obtain ⟨o', e1⟩ := I.base.there b o e hx
   exact there b o' (neC b o e hx) e1
 · obtain ⟨m1, e1⟩ := I.base.tbls b ps e
   obtain ⟨m2, e2⟩ := tbls b _ e1
   exact ⟨m1 ++ m2, by rw [e2, Array.append_assoc]⟩
 · obtain ⟨m, hn, hl⟩ := I.loc
   refine ⟨m, ns m hn, fun i x v e1 e2 e3 => ?_⟩
   obtain ⟨u, r, l⟩ := hl i x v e1 e2 e3
   refine ⟨u, r, ?_⟩
   rcases l with l | ⟨k, c, e, z⟩
   · exact .inl l
   · exact .inr ⟨k, c, e, cellK x c e _ z⟩
 · obtain ⟨v, z⟩ := I.cell x c e
   exact ⟨v, cellK x c e v z⟩
 · obtain ⟨m, ⟨o, _, _, ho, _⟩, _⟩ := I.loc
   exact free _ o (fun z => (hch _ z).2.1 rfl) ho I.free
 · obtain ⟨v, o, ho, hd⟩ := I.cell x c e
   exact free c o (fun z => (hch c z).2.2.1 x c e rfl) ho (I.freeC x c e)
 · obtain ⟨e, n, ne, nf, d⟩ := I.pin p hp
   have nch : p.1 ∉ ch := fun z => (hch p.1 z).2.2.2 p hp rfl
   exact ⟨keep p.1 p.2 ne nf nch e n, free p.1 p.2 nch e n, ne, nf, d⟩
theorem Inv.un {t' : Nat} (I : Inv X pins σ H s) (u : Un X.fs [] H H' s.heap h') (hok : HOk X.prog X.w H' h') : Inv X pins σ H' { s with heap := h', toks := t' } := by
 obtain ⟨m, ⟨o, es, ep, ho, r⟩, _⟩ := id I.loc
 obtain ⟨sl, hL⟩ := u.any ho I.free (by simp)
 exact I.step (g' := s.gens) (d' := s.drawn) (ch := []) (fun _ z => nomatch z) (fun b o _ hb _ e n => u.keep b o e n hb (by simp)) (fun b o _ hb _ e n => u.slot b o e n hb (by simp)) (fun b o _ e n => u.free b o e n (by simp)) (fun b o _ e => u.there b o e (by simp)) u.tups u.frzs u.tbls (fun m' hm => by
   obtain ⟨o', es', ep', ho', r'⟩ := hm
   rw [ho] at ho'; cases ho'
   exact ⟨_, es', ep', hL, r'⟩) hok I.bare
theorem Inv.call {g' : Array GenState} {t' : Nat} {d' : Drawn} {ch : List Addr} (I : Inv X pins σ H s) (u : Un (frs X.stack) ch H H' s.heap h') (hok : HOk X.prog X.w H' h') (hg : AllBare g')
   (hch : ∀ b ∈ ch, (b ∈ X.ex ∨ X.s₀.heap.objs.size ≤ b) ∧ b ≠ X.env.locals ∧ (∀ x c, X.env.cells.lookup x = some c → c ≠ b) ∧ ∀ p ∈ X.pn ++ pins, p.1 ≠ b) :
   Inv X pins σ H' { s with heap := h', gens := g', drawn := d', toks := t' } := by
 obtain ⟨m, ⟨o, es, ep, ho, r⟩, _⟩ := id I.loc
 obtain ⟨sl, hL⟩ := u.any ho I.free fun z => (hch _ z).2.1 rfl
 exact I.step (ch := ch) hch (fun b o hL hb hc e n => u.keep b o e n (fun z => (List.mem_cons.mp (I.stkSub b z)).elim hL hb) hc) (fun b o _ _ hc e n => u.any e n hc) (fun b o hc e n => u.free b o e n hc) (fun b o hc e => u.there b o e hc) u.tups u.frzs u.tbls (fun m' hm => by
   obtain ⟨o', es', ep', ho', r'⟩ := hm
   rw [ho] at ho'; cases ho'
   exact ⟨_, es', ep', hL, r'⟩) hok hg
theorem Inv.turned {t' : Nat} {it : Addr} (I : Inv X pins σ H s) (k : ∀ b o, b ≠ it → s.heap.get? b = some o → h'.get? b = some o) (hn : H it = none) (hL : it ≠ X.env.locals)
   (h1 : it ∈ X.ex ∨ X.s₀.heap.objs.size ≤ it) (h2 : ∀ x c, X.env.cells.lookup x = some c → c ≠ it) (h3 : ∀ p ∈ X.pn ++ pins, p.1 ≠ it) : Inv X pins σ H { s with heap := h', toks := t' } := by
 have nit : ∀ b u, H b = some u → b ≠ it := fun b u e z => by rw [z, hn] at e; cases e
 refine I.step (g' := s.gens) (d' := s.drawn) (ch := [it]) (fun b hb => ?_) (fun b o _ _ hc e _ => k b o (fun z => hc (by simp [z])) e) (fun b o _ _ hc e _ => ⟨o.slots, k b o (fun z => hc (by simp [z])) e⟩) (fun _ _ _ _ n => n)
   (fun b o hc e => ⟨o, k b o (fun z => hc (by simp [z])) e⟩) (fun _ _ e => e) (fun _ _ _ e => e) (fun b ps e => ⟨#[], by rw [e]; simp⟩) (fun m hm => ?_) (fun b u e => ?_) I.bare
 · have e : b = it := by simpa using hb
   subst e
   exact ⟨h1, hL, h2, h3⟩
 · obtain ⟨o, es, ep, ho, r⟩ := hm
   exact ⟨o, es, ep, k _ o (Ne.symm hL) ho, r⟩
 · refine (I.hok b u e).stay (fun c v hc q => k c v ?_ q) (fun _ q => q) fun _ _ q => q
   rcases hc with z | z
   · rw [z]; exact nit b u e
   · exact nit c _ z
theorem Inv.tok (I : Inv X pins σ H s) (t : Nat) : Inv X pins σ H { s with toks := t } := I.un (h' := s.heap) (t' := t) Un.refl I.hok
theorem Inv.kept {t' : Nat} (I : Inv X pins σ H s) (k : ∀ b u, s.heap.get? b = some u → h'.get? b = some u) : Inv X pins σ H { s with heap := h', toks := t' } := I.un (Un.kept k) (I.hok.kept k)
theorem Inv.laid {a : Addr} {o : HO} {t' : Nat} (I : Inv X pins σ H s) (k : ∀ b u, s.heap.get? b = some u → h'.get? b = some u) (hp : s.heap.objs.size ≤ a) (new : ObjOk X.prog X.w (upd H a o) h' a o) :
   Inv X pins σ (upd H a o) { s with heap := h', toks := t' } := I.un (Un.laid k hp (I.hok.fresh hp)) (I.hok.laid k hp new)
theorem Inv.write {x e : Addr} {o : HO} {t' : Nat} (I : Inv X pins σ H s) (mu : Mut (H x)) (he : e = x ∨ H e = some (.own x)) (k : ∀ b u, b ≠ e → s.heap.get? b = some u → h'.get? b = some u) (heo : ∃ u, h'.get? e = some u)
   (new : ObjOk X.prog X.w (upd H x o) h' x o) : Inv X pins σ (upd H x o) { s with heap := h', toks := t' } := I.un (Un.write mu he k heo) (I.hok.write mu he k heo new)
theorem Inv.pins_of {pins' : List (Addr × Obj)} (I : Inv X pins σ H s) (h : ∀ p ∈ pins', s.heap.get? p.1 = some p.2 ∧ H p.1 = none ∧ p.1 ≠ X.env.locals ∧ p.1 ∉ X.fs ∧ ∀ v, p.2.data ≠ .cell v) : Inv X pins' σ H s :=
 ⟨I.ok, I.os, I.bare, I.base, I.loc, I.cell, I.free, I.freeC, fun p hp => (List.mem_append.mp hp).elim (fun z => I.pin p (List.mem_append_left _ z)) (h p), I.hok, I.len⟩
theorem nodup_ix {N : List Str} (hN : N.Nodup) {i j : Nat} {x : Str} (a : N[i]? = some x) (b : N[j]? = some x) : i = j := by
 obtain ⟨h1, e1⟩ := List.getElem?_eq_some_iff.mp a
 obtain ⟨h2, e2⟩ := List.getElem?_eq_some_iff.mp b
 exact (List.getElem_inj hN).mp (e1.trans e2.symm)
theorem store_ok2 {M : Model} {A : Around} {E : Value → Shared → Prop} {i : Nat} {x : Str} {v : V} {u : Value} {Q : Unit → Shared → Prop} (I : Inv X pins σ H s) (hN : X.N.Nodup) (hi : X.N[i]? = some x) (hx : Loc X.env.scope x) (r : RelV v u)
   (h : ∀ s', Inv X pins (σ.set i (some v)) H s' → (∃ a, Heap.SameBut a s.heap s'.heap ∧ (a = X.env.locals ∨ X.env.cells.lookup x = some a)) → Q () s') (hf : X.fn x = true ∨ X.env.scope.names.lookup x = some .local := by first | exact .inl rfl | exact .inr rfl | assumption) : wpAny M A (storeName X.env x u) Q E s := by
 obtain ⟨m, hn, hl⟩ := id I.loc
 have hcls : (X.env.scope.kind == .class || (X.env.scope.kind == .module && X.env.locals != X.env.globals)) = false := by rw [I.ok.kind]; rfl
 have hiσ : i < σ.length := by rw [I.len]; exact (List.getElem?_eq_some_iff.mp hi).1
 have cne := I.cne
 have tracked : ∀ {a : Addr} {h' : Heap}, (∃ o, s.heap.get? a = some o ∧ H a = none) → Heap.SameBut a s.heap h' → HOk X.prog X.w H h' := fun {a h'} ha hs b ob e => by
   obtain ⟨_, _, hfree⟩ := ha
   refine (I.hok b ob e).stay (fun c w' hc q => (hs.2 c ?_).trans q) (fun _ q => q) fun _ _ q => q
   rintro rfl
   rcases hc with rfl | hc
   · rw [hfree] at e; cases e
   · rw [hfree] at hc; cases hc
 rcases hx with hk | hk
 · refine wpAny_storeName_local hk hn (fun h' hn' hs => ?_) hcls
   obtain ⟨oL, _, _, hoL, _⟩ := id hn
   refine h _ ⟨I.ok, I.os, I.bare, ⟨fun b o e n hb hx => ?_, fun b o e n hb hx => ?_, I.base.free, fun b o e hx => ?_, I.base.tups, I.base.frzs, I.base.tbls⟩, ⟨_, hn', fun j y v' e1 e2 e3 => ?_⟩, fun y c e => ?_, I.free, I.freeC, fun p hp => ?_, tracked ⟨oL, hoL, I.free⟩ hs, by simpa using I.len⟩ ⟨_, hs, .inl rfl⟩
   · exact (hs.2 b (Nat.ne_of_lt (Nat.lt_of_lt_of_le (Heap.lt_size e) I.ok.above))).trans (I.base.keep b o e n hb hx)
   · obtain ⟨sl, e1⟩ := I.base.slot b o e n hb hx
     exact ⟨sl, (hs.2 b (Nat.ne_of_lt (Nat.lt_of_lt_of_le (Heap.lt_size e) I.ok.above))).trans e1⟩
   · obtain ⟨o', e1⟩ := I.base.there b o e hx
     exact ⟨o', (hs.2 b (Nat.ne_of_lt (Nat.lt_of_lt_of_le (Heap.lt_size e) I.ok.above))).trans e1⟩
   · by_cases hj : j = i
     · subst hj
       rw [hi] at e1; cases e1
       rw [List.getElem?_set_self hiσ] at e2
       cases e2
       exact ⟨u, r, .inl ⟨hk, by simp⟩⟩
     · rw [List.getElem?_set_ne (Ne.symm hj)] at e2
       obtain ⟨u', r', q⟩ := hl j y v' e1 e2 e3
       refine ⟨u', r', ?_⟩
       rcases q with ⟨k, e⟩ | ⟨k, c, e, z⟩
       · refine .inl ⟨k, ?_⟩
         have : y ≠ x := fun e => hj (nodup_ix hN e1 (e ▸ hi))
         simp [this, e]
       · exact .inr ⟨k, c, e, z.sameBut hs (cne y c e)⟩
   · obtain ⟨w', z⟩ := I.cell y c e
     exact ⟨w', z.sameBut hs (cne y c e)⟩
   · obtain ⟨e, n, ne, nf, d⟩ := I.pin p hp
     exact ⟨(hs.2 p.1 ne).trans e, n, ne, nf, d⟩
 · have hfn : X.fn x = true := by
     rcases hf with z | z
     · exact z
     · rw [z] at hk; cases hk
   obtain ⟨c, hc⟩ := I.ok.has x (.inl hk)
   obtain ⟨w', z⟩ := I.cell x c hc
   refine wpAny_storeName_cell I.ok.kind hk hc z (fun h' hc' hs => ?_)
   obtain ⟨oc, hoc, hocd⟩ := id z
   refine h { s with heap := h' } ⟨I.ok, I.os, I.bare, ⟨fun b o e n hb hx => ?_, fun b o e n hb hx => ?_, I.base.free, fun b o e hx => ?_, I.base.tups, I.base.frzs, I.base.tbls⟩, ⟨m, hn.sameBut hs (Ne.symm (cne x c hc)), fun j y v' e1 e2 e3 => ?_⟩, fun y c' e => ?_, I.free, I.freeC, fun p hp => ?_, tracked ⟨oc, hoc, I.freeC x c hc⟩ hs, by simpa using I.len⟩ ⟨c, hs, .inr hc⟩
   · exact (hs.2 b (Nat.ne_of_lt (Nat.lt_of_lt_of_le (Heap.lt_size e) (I.ok.cab x c hfn hc)))).trans (I.base.keep b o e n hb hx)
   · obtain ⟨sl, e1⟩ := I.base.slot b o e n hb hx
     exact ⟨sl, (hs.2 b (Nat.ne_of_lt (Nat.lt_of_lt_of_le (Heap.lt_size e) (I.ok.cab x c hfn hc)))).trans e1⟩
   · obtain ⟨o', e1⟩ := I.base.there b o e hx
     exact ⟨o', (hs.2 b (Nat.ne_of_lt (Nat.lt_of_lt_of_le (Heap.lt_size e) (I.ok.cab x c hfn hc)))).trans e1⟩
   · by_cases hj : j = i
     · subst hj
       rw [hi] at e1; cases e1
       rw [List.getElem?_set_self hiσ] at e2
       cases e2
       exact ⟨u, r, .inr ⟨.inl hk, c, hc, hc'⟩⟩
     · rw [List.getElem?_set_ne (Ne.symm hj)] at e2
       obtain ⟨u', r', q⟩ := hl j y v' e1 e2 e3
       refine ⟨u', r', ?_⟩
       rcases q with q | ⟨k, c', e, z'⟩
       · exact .inl q
       · refine .inr ⟨k, c', e, z'.sameBut hs ?_⟩
         rintro rfl
         exact hj (nodup_ix hN e1 (I.ok.inj _ _ _ e hc ▸ hi))
   · by_cases hcc : c' = c
     · subst hcc; exact ⟨_, hc'⟩
     · obtain ⟨w2, z2⟩ := I.cell y c' e
       exact ⟨w2, z2.sameBut hs hcc⟩
   · obtain ⟨e, n, ne, nf, d⟩ := I.pin p hp
     refine ⟨(hs.2 p.1 ?_).trans e, n, ne, nf, d⟩
     intro q
     rw [q, hoc] at e
     have q' : oc = p.2 := Option.some.inj e
     exact d w' (by rw [← q']; exact hocd)
theorem store_ok {M : Model} {A : Around} {E : Value → Shared → Prop} {i : Nat} {x : Str} {v : V} {u : Value} {Q : Unit → Shared → Prop} (I : Inv X pins σ H s) (hN : X.N.Nodup) (hi : X.N[i]? = some x) (hx : Loc X.env.scope x) (r : RelV v u)
   (h : ∀ s', Inv X pins (σ.set i (some v)) H s' → Q () s') (hf : X.fn x = true ∨ X.env.scope.names.lookup x = some .local := by first | exact .inl rfl | exact .inr rfl | assumption) : wpAny M A (storeName X.env x u) Q E s :=
 store_ok2 I hN hi hx r (fun s' I' _ => h s' I') hf
theorem Inv.call' {s' : Shared} {ch : List Addr} (I : Inv X pins σ H s) (ho : s'.os = s.os) (u : Un (frs X.stack) ch H H' s.heap s'.heap) (hok : HOk X.prog X.w H' s'.heap) (hg : AllBare s'.gens)
   (hch : ∀ b ∈ ch, (b ∈ X.ex ∨ X.s₀.heap.objs.size ≤ b) ∧ b ≠ X.env.locals ∧ (∀ x c, X.env.cells.lookup x = some c → c ≠ b) ∧ ∀ p ∈ X.pn ++ pins, p.1 ≠ b) : Inv X pins σ H' s' := by
 obtain ⟨h', g', d', t', o'⟩ := s'
 have e : o' = s.os := ho
 subst e
 exact I.call (g' := g') (t' := t') (d' := d') u hok hg hch
end
noncomputable abbrev XK := Value → Option Addr → Hp → Prop
noncomputable abbrev St := List (Option V)
noncomputable abbrev VK := V → Hp → Prop
noncomputable abbrev TE := St → Hp → VK → Prop
noncomputable abbrev TT := St → Hp → (Bool → Hp → Prop) → Prop
noncomputable abbrev TA := St → Hp → (List V → Hp → Prop) → Prop
structure Ends where
 nx : St → Hp → Prop
 rt : VK
 bk : St → Hp → Prop := fun _ _ => False
 ct : St → Hp → Prop := fun _ _ => False
noncomputable abbrev TS := Ends → St → Hp → Prop
noncomputable def EP (X : Cx) (pins : List (Addr × Obj)) (σ : St) (Q : VK) (u : Value) (s' : Shared) : Prop := ∃ v H', Inv X pins σ H' s' ∧ RelV v u ∧ Q v H'
noncomputable def TP (X : Cx) (pins : List (Addr × Obj)) (σ : St) (Q : Bool → Hp → Prop) (b : Bool) (s' : Shared) : Prop := ∃ H', Inv X pins σ H' s' ∧ Q b H'
noncomputable def AP (X : Cx) (pins : List (Addr × Obj)) (σ : St) (Q : List V → Hp → Prop) (us : List Value) (s' : Shared) : Prop := ∃ vs H', Inv X pins σ H' s' ∧ Vals vs us ∧ Q vs H'
noncomputable def SP (X : Cx) (pins : List (Addr × Obj)) (D : Ends) (f : Flow) (s' : Shared) : Prop :=
 match f with
 | .next => ∃ σ' H', Inv X pins σ' H' s' ∧ D.nx σ' H'
 | .brk => ∃ σ' H', Inv X pins σ' H' s' ∧ D.bk σ' H'
 | .cont => ∃ σ' H', Inv X pins σ' H' s' ∧ D.ct σ' H'
 | .ret u => ∃ v σ' H', Inv X pins σ' H' s' ∧ RelV v u ∧ D.rt v H'
noncomputable def PE (X : Cx) (e : Expr) (t : TE) : Prop :=
 ∀ (pins : List (Addr × Obj)) (s : Shared) (σ : St) (H : Hp) (Q : VK), Inv X pins σ H s → t σ H Q → wpAny (model X.prog X.w) X.A (eval e X.env) (EP X pins σ Q) X.xe s
noncomputable def PT (X : Cx) (e : Expr) (t : TT) : Prop :=
 ∀ (pins : List (Addr × Obj)) (s : Shared) (σ : St) (H : Hp) (Q : Bool → Hp → Prop), Inv X pins σ H s → t σ H Q → wpAny (model X.prog X.w) X.A (isTrue e X.env (eval e X.env)) (TP X pins σ Q) X.xe s
noncomputable def PW (X : Cx) (e : Expr) (t : TT) : Prop :=
 ∀ (whole : Sem Value) (pins : List (Addr × Obj)) (s : Shared) (σ : St) (H : Hp) (Q : Bool → Hp → Prop), Inv X pins σ H s → t σ H Q → wpAny (model X.prog X.w) X.A (isTrue e X.env whole) (TP X pins σ Q) X.xe s
theorem PW.pt {X : Cx} {e : Expr} {t : TT} (h : PW X e t) : PT X e t := h _
noncomputable def PA (X : Cx) (es : List Expr) (t : TA) : Prop :=
 ∀ (pos : Pos) (pins : List (Addr × Obj)) (s : Shared) (σ : St) (H : Hp) (Q : List V → Hp → Prop), Inv X pins σ H s → t σ H Q → wpAny (model X.prog X.w) X.A (spliced (backTo pos (starEach es X.env))) (AP X pins σ Q) X.xe s
noncomputable def PS (X : Cx) (st : Stmt) (t : TS) : Prop :=
 ∀ (pins : List (Addr × Obj)) (s : Shared) (σ : St) (H : Hp) (D : Ends), Inv X pins σ H s → t D σ H → wpAny (model X.prog X.w) X.A (exec st X.env) (SP X pins D) X.xe s
noncomputable def PSs (X : Cx) (st : List Stmt) (t : TS) : Prop :=
 ∀ (pins : List (Addr × Obj)) (s : Shared) (σ : St) (H : Hp) (D : Ends), Inv X pins σ H s → t D σ H → wpAny (model X.prog X.w) X.A (execs st X.env) (SP X pins D) X.xe s
theorem thn {α : Type} {t : Sem α} {Q Q' : α → Shared → Prop} {M : Model} {A : Around} {E : Value → Shared → Prop} {s : Shared} (h : wpAny M A t Q E s) (hQ : ∀ a s, Q a s → Q' a s) : wpAny M A t Q' E s := wpAny_mono h hQ fun _ _ x => x
end L2
namespace L2
open PySem PySem.Spec PyProof.Rows
section
variable {X : Cx}
theorem bin {a b : Expr} {ta tb : TE} (ha : PE X a ta) (hb : PE X b tb) {pins : List (Addr × Obj)} {s : Shared} {σ : St} {H : Hp} {R : V → V → Hp → Prop} (I : Inv X pins σ H s) (h : ta σ H fun x H1 => tb σ H1 fun y H2 => R x y H2)
   {α : Type} {Q : α → Shared → Prop} {f : Value → Value → Sem α}
   (hf : ∀ v u s2 x y H2, Inv X pins σ H2 s2 → RelV x v → RelV y u → R x y H2 → wpAny (model X.prog X.w) X.A (f v u) Q X.xe s2) :
   wpAny (model X.prog X.w) X.A (eval a X.env) (fun v s₁ => wpAny (model X.prog X.w) X.A (eval b X.env) (fun u s₂ => wpAny (model X.prog X.w) X.A (f v u) Q X.xe s₂) X.xe s₁) X.xe s := by
 refine thn (ha pins s σ H _ I h) fun v s1 ⟨x, H1, I1, r1, q1⟩ => ?_
 refine thn (hb pins s1 σ H1 _ I1 q1) fun u s2 ⟨y, H2, I2, r2, q2⟩ => ?_
 exact hf v u s2 x y H2 I2 r1 r2 q2
noncomputable def tVar (i : Nat) : TE := fun σ H Q => ∃ v, σ[i]? = some (some v) ∧ Q v H
noncomputable def tC (v : V) : TE := fun _ H Q => Q v H
theorem pe_var {i : Nat} {x : Str} {pos : Pos} (hN : X.N[i]? = some x) (hv : Vis X.env.scope x) (hd : (x == ("__debug__" : Str)) = false := by decide) (hcd : (x == ("__classdict__" : Str)) = false := by decide) : PE X (.Name x pos) (tVar i) := by
 intro pins s σ H Q I h
 obtain ⟨v, e, h⟩ := h
 obtain ⟨m, hn, hl⟩ := I.loc
 obtain ⟨u, r, l⟩ := hl i x v hN e hv
 have fin : EP X pins σ Q u s := ⟨v, H, I, r, h⟩
 rcases l with ⟨hk, hm⟩ | ⟨hk, c, hc, hcell⟩
 · exact wpAny_Name (wpAny_loadName_local I.ok.kind hk hn hm fin) hd
 · rcases hk with hk | hk
   · exact wpAny_Name (wpAny_loadName_cell I.ok.kind hk hc hcell fin) hd
   · exact wpAny_Name (wpAny_loadName_free I.ok.kind hk hc hcell fin hcd) hd
theorem pe_int {i j pos} : PE X (.Constant (.int i) j pos) (tC (.int i)) := fun _ _ _ H _ I h => wpAny_Constant_int ⟨.int i, H, I.tok _, ⟨_, rfl⟩, h⟩
theorem pe_bl {b j pos} : PE X (.Constant (.bool b) j pos) (tC (.bl b)) := fun _ _ _ H _ I h => Constant_bool ⟨.bl b, H, I, rfl, h⟩
theorem pe_non {j pos} : PE X (.Constant .none j pos) (tC .non) := fun _ _ _ H _ I h => Constant_none ⟨.non, H, I, rfl, h⟩
theorem pe_str {x j pos} : PE X (.Constant (.str x) j pos) (tC (.str x)) := fun _ _ _ H _ I h => Calls.Constant_str ⟨.str x, H, I.tok _, ⟨_, rfl⟩, h⟩
noncomputable def Gl (X : Cx) (x : Str) : Prop := X.env.kindOf x = some .globalImplicit
theorem ld_glob {E : Value → Shared → Prop} {pins : List (Addr × Obj)} {s : Shared} {σ : St} {H : Hp} {x : Str} {u : Value} {pos : Pos} {Q : Value → Shared → Prop} (I : Inv X pins σ H s) (hg : Gl X x) (hm : X.mg x = some u) (h : Q u s)
   (hd : (x == ("__debug__" : Str)) = false := by decide) : wpAny (model X.prog X.w) X.A (eval (.Name x pos) X.env) Q E s :=
 Calls.Name_function_global I.ok.kind hg (Calls.loadGlobal_global (by rw [I.ok.glob]; exact I.mod.glob.keeps I.bk) hm h) hd
theorem ld_blt {E : Value → Shared → Prop} {pins : List (Addr × Obj)} {s : Shared} {σ : St} {H : Hp} {x : Str} {u : Value} {pos : Pos} {Q : Value → Shared → Prop} (I : Inv X pins σ H s) (hg : Gl X x) (hm : X.mg x = none) (hv : bootBuiltins x = some u) (h : Q u s)
   (hn : x ≠ "__name__" := by decide) (hd : (x == ("__debug__" : Str)) = false := by decide) : wpAny (model X.prog X.w) X.A (eval (.Name x pos) X.env) Q E s := by
 obtain ⟨mb, h1, h2⟩ := I.mod.blt
 exact Calls.Name_function_global I.ok.kind hg (Calls.loadGlobal_builtin (by rw [I.ok.glob]; exact I.mod.glob.keeps I.bk) hm (by rw [I.ok.blt]; exact h1.keeps I.bk) ((h2 x hn).trans hv) h) hd
theorem pe_glob {x : Str} {v : V} {u : Value} {pos : Pos} (hg : Gl X x) (hm : X.mg x = some u) (r : RelV v u) (hd : (x == ("__debug__" : Str)) = false := by decide) : PE X (.Name x pos) (tC v) :=
 fun _ _ _ H _ I h => ld_glob I hg hm ⟨v, H, I, r, h⟩ hd
theorem pe_bltn {x : Str} {v : V} {u : Value} {pos : Pos} (hg : Gl X x) (hm : X.mg x = none) (hv : bootBuiltins x = some u) (r : RelV v u) (hn : x ≠ "__name__" := by decide) (hd : (x == ("__debug__" : Str)) = false := by decide) : PE X (.Name x pos) (tC v) :=
 fun _ _ _ H _ I h => ld_blt I hg hm hv ⟨v, H, I, r, h⟩ hn hd
variable {a b : Expr} {ta tb : TE} {pos : Pos}
noncomputable def PC (X : Cx) (op : CmpOp) (a b : Expr) (t : TE) : Prop :=
 ∀ (pins : List (Addr × Obj)) (s : Shared) (σ : St) (H : Hp) (Q : VK), Inv X pins σ H s → t σ H Q →
   wpAny (model X.prog X.w) X.A (eval a X.env) (fun v s₁ => wpAny (model X.prog X.w) X.A (eval b X.env) (fun u s₂ => wpAny (model X.prog X.w) X.A (compareOp op v u) (EP X pins σ Q) X.xe s₂) X.xe s₁) X.xe s
theorem nobehind (b : Expr) {op : CmpOp} (h : op ≠ .In) (h2 : op ≠ .NotIn) : behindInMarks op b = false := by
 have e1 : (op == CmpOp.In) = false := by cases op <;> first | rfl | exact absurd rfl h
 have e2 : (op == CmpOp.NotIn) = false := by cases op <;> first | rfl | exact absurd rfl h2
 cases b <;> simp [behindInMarks, e1, e2]
noncomputable def tB (t : TE) : TT := fun σ H Q => t σ H fun x H1 => ∃ c, x = .bl c ∧ Q c H1
theorem pt_cmp {op : CmpOp} {t : TE} (h : PC X op a b t) (h1 : behindInMarks op b = false := by first | exact nobehind _ (by decide) (by decide) | rfl) : PT X (.Compare a [op] [b] pos) (tB t) := by
 intro pins s σ H Q I hw
 refine wpAny_isTrue_Compare1 (thn (h pins s σ H _ I hw) fun v s1 h1 => thn h1 fun u s2 h2 => thn h2 fun c s3 ⟨x, H1, I1, r1, q1⟩ => ?_) h1
 obtain ⟨d, rfl, q⟩ := q1
 cases r1
 exact wpAny_truthy_bool ⟨H1, I1, q⟩
theorem pt_val {e : Expr} {t : TE} (h : PE X e t) (he : ∀ whole, isTrue e X.env whole = (do let v ← whole; standAt e.pos; holding [v] (truthy v)) := by intro _; rfl) : PT X e (tB t) := by
 intro pins s σ H Q I hw
 refine isTrue_plain (thn (h pins s σ H _ I hw) fun v s1 ⟨x, H1, I1, r1, q1⟩ => ?_) (he _)
 obtain ⟨d, rfl, q⟩ := q1
 cases r1
 exact wpAny_truthy_bool ⟨H1, I1, q⟩
variable {tA tB' : TT} {rest : List Expr}
noncomputable def tAnd (t u : TT) : TT := fun σ H Q => t σ H fun c H1 => if c = true then u σ H1 Q else Q false H1
noncomputable def tOr (t u : TT) : TT := fun σ H Q => t σ H fun c H1 => if c = true then Q true H1 else u σ H1 Q
noncomputable def tNot (t : TT) : TT := fun σ H Q => t σ H fun c H1 => Q (!c) H1
theorem pw_and1 (ha : PT X a tA) : PW X (.BoolOp .And [a] pos) tA := by
 intro wh pins s σ H Q I h
 refine isTrue_and (thn (ha pins s σ H Q I h) fun c s1 e => ?_)
 cases c with
 | true => exact isTrue_and_nil e
 | false => exact e
theorem pw_or1 (ha : PT X a tA) : PW X (.BoolOp .Or [a] pos) tA := by
 intro wh pins s σ H Q I h
 refine isTrue_or (thn (ha pins s σ H Q I h) fun c s1 e => ?_)
 cases c with
 | false => exact isTrue_or_nil e
 | true => exact e
theorem pw_and (ha : PT X a tA) (hb : PW X (.BoolOp .And (b :: rest) pos) tB') : PW X (.BoolOp .And (a :: b :: rest) pos) (tAnd tA tB') := by
 intro wh pins s σ H Q I h
 refine isTrue_and (thn (ha pins s σ H _ I h) fun c s1 ⟨H1, I1, q1⟩ => ?_)
 cases c with
 | true => exact hb wh pins s1 σ H1 Q I1 q1
 | false => exact ⟨H1, I1, q1⟩
theorem pw_or (ha : PT X a tA) (hb : PW X (.BoolOp .Or (b :: rest) pos) tB') : PW X (.BoolOp .Or (a :: b :: rest) pos) (tOr tA tB') := by
 intro wh pins s σ H Q I h
 refine isTrue_or (thn (ha pins s σ H _ I h) fun c s1 ⟨H1, I1, q1⟩ => ?_)
 cases c with
 | true => exact ⟨H1, I1, q1⟩
 | false => exact hb wh pins s1 σ H1 Q I1 q1
theorem pt_not (ha : PT X a tA) : PT X (.UnaryOp .Not a pos) (tNot tA) := by
 intro pins s σ H Q I h
 exact isTrue_not (ha pins s σ H (fun c H1 => Q (!c) H1) I h)
noncomputable def tAndV (ta tb : TE) : TE := fun σ H Q => ta σ H fun x H1 => ∃ c, x = .bl c ∧ if c = true then tb σ H1 Q else Q (.bl false) H1
noncomputable def tOrV (ta tb : TE) : TE := fun σ H Q => ta σ H fun x H1 => ∃ c, x = .bl c ∧ if c = true then Q (.bl true) H1 else tb σ H1 Q
noncomputable def tNotV (ta : TE) : TE := fun σ H Q => ta σ H fun x H1 => ∃ c, x = .bl c ∧ Q (.bl (!c)) H1
theorem pe_one {op} {t : TE} (h : PE X a t) : PE X (.BoolOp op [a] pos) t := fun pins s σ H Q I hw => BoolOp_one (h pins s σ H Q I hw)
theorem pe_and (ha : PE X a ta) (hb : PE X (.BoolOp .And (b :: rest) pos) tb) : PE X (.BoolOp .And (a :: b :: rest) pos) (tAndV ta tb) := by
 intro pins s σ H Q I h
 refine BoolOp_and (thn (ha pins s σ H _ I h) fun v s1 ⟨x, H1, I1, r1, q1⟩ => ?_)
 obtain ⟨c, rfl, q1⟩ := q1
 cases r1
 refine wpAny_truthy_bool ?_
 cases c with
 | true => exact hb pins s1 σ H1 Q I1 q1
 | false => exact ⟨.bl false, H1, I1, rfl, q1⟩
theorem pe_or (ha : PE X a ta) (hb : PE X (.BoolOp .Or (b :: rest) pos) tb) : PE X (.BoolOp .Or (a :: b :: rest) pos) (tOrV ta tb) := by
 intro pins s σ H Q I h
 refine BoolOp_or (thn (ha pins s σ H _ I h) fun v s1 ⟨x, H1, I1, r1, q1⟩ => ?_)
 obtain ⟨c, rfl, q1⟩ := q1
 cases r1
 refine wpAny_truthy_bool ?_
 cases c with
 | false => exact hb pins s1 σ H1 Q I1 q1
 | true => exact ⟨.bl true, H1, I1, rfl, q1⟩
theorem pe_not (ha : PE X a ta) : PE X (.UnaryOp .Not a pos) (tNotV ta) := by
 intro pins s σ H Q I h
 refine UnaryOp_ (thn (ha pins s σ H _ I h) fun v s1 ⟨x, H1, I1, r1, q1⟩ => ?_)
 obtain ⟨c, rfl, q1⟩ := q1
 cases r1
 exact not_of (wpAny_truthy_bool ⟨.bl (!c), H1, I1, rfl, q1⟩)
noncomputable def tIf (t : TT) (ta tb : TE) : TE := fun σ H Q => t σ H fun c H1 => if c = true then ta σ H1 Q else tb σ H1 Q
theorem pe_ifExp {c : Expr} (hc : PT X c tA) (ha : PE X a ta) (hb : PE X b tb) : PE X (.IfExp c a b pos) (tIf tA ta tb) := by
 intro pins s σ H Q I h
 refine wpAny_IfExp (thn (hc pins s σ H _ I h) fun d s1 ⟨H1, I1, q1⟩ => ?_)
 cases d with
 | true => exact ha pins s1 σ H1 Q I1 q1
 | false => exact hb pins s1 σ H1 Q I1 q1
end
end L2
namespace L2
open PySem PySem.Spec PyProof.Rows
noncomputable def SqL (K : PySem.W.Frag) (H : Hp) (a : Addr) (xs : List V) : Prop :=
 Rd H a (.lst xs) ∨
   ∃ (o : Obj) (its : Array Value) (n : Nat), K.lookup a = some o ∧ o.cls = .type "list" ∧ o.dict = none ∧ o.data = .seq its n ∧ its.size ≤ sizeLine ∧ Vals xs its.toList
noncomputable def SqT (K : PySem.W.Frag) (H : Hp) (a : Addr) (xs : List V) : Prop :=
 Rd H a (.tup xs) ∨
   ∃ (o : Obj) (its : Array Value) (n : Nat), K.lookup a = some o ∧ o.cls = .type "tuple" ∧ o.dict = none ∧ o.data = .seq its n ∧ its.size ≤ sizeLine ∧ Vals xs its.toList
noncomputable def absV : Value → Option V
 | .none => some .non
 | .bool b => some (.bl b)
 | .int i _ => some (.int i)
 | .str x _ => some (.str x)
 | .bytes b _ => some (.byt b)
 | .float b _ => some (.flt b)
 | .ref a => some (.ref a)
 | .type n => some (.ty n)
 | _ => none
theorem RelV.abs {x : V} {u : Value} (r : RelV x u) : absV u = some x := by
 cases x with
 | non => cases r; rfl
 | bl _ => cases r; rfl
 | int _ => obtain ⟨t, rfl⟩ := r; rfl
 | str _ => obtain ⟨t, rfl⟩ := r; rfl
 | byt _ => obtain ⟨t, rfl⟩ := r; rfl
 | flt _ => obtain ⟨t, rfl⟩ := r; rfl
 | ref _ => cases r; rfl
 | ty _ => cases r; rfl
theorem RelV.inj {x y : V} {u : Value} (r : RelV x u) (q : RelV y u) : x = y := Option.some.inj (r.abs.symm.trans q.abs)
theorem Vals.inj : ∀ {xs ys : List V} {us : List Value}, Vals xs us → Vals ys us → xs = ys
 | _, _, _, .nil, .nil => rfl
 | _, _, _, .cons r t, .cons r' t' => by rw [r.inj r', Vals.inj t t']
section
variable {X : Cx} {pins : List (Addr × Obj)} {σ : St} {H : Hp} {s : Shared} {a : Addr} {xs ys : List V}
theorem SqL.of {K : PySem.W.Frag} (h : H a = some (.lst xs)) : SqL K H a xs := .inl (.inl h)
theorem SqT.of {K : PySem.W.Frag} (h : H a = some (.tup xs)) : SqT K H a xs := .inl (.inl h)
theorem Inv.list (I : Inv X pins σ H s) (h : SqL X.K H a xs) : ∃ its : List Value, Vals xs its ∧ PlainL s.heap a its.toArray ∧ xs.length ≤ sizeLine := by
 rcases h with h | ⟨o, its, n, hk, hc, hd, hs, hz, r⟩
 · obtain ⟨z, its, n, r, e⟩ := h.ok I.hok
   exact ⟨its, r, ⟨_, n, e, rfl, rfl, rfl⟩, z⟩
 · refine ⟨its.toList, r, ⟨o, n, I.kIn a o hk, hc, hd, by simpa using hs⟩, ?_⟩
   have e := r.length
   simp only [Array.length_toList] at e
   omega
theorem Inv.tuple (I : Inv X pins σ H s) (h : SqT X.K H a xs) : ∃ its : List Value, Vals xs its ∧ IsTup s.heap a its.toArray ∧ xs.length ≤ sizeLine := by
 rcases h with h | ⟨o, its, n, hk, hc, _, hs, hz, r⟩
 · obtain ⟨z, its, r, p⟩ := h.ok I.hok
   exact ⟨its, r, p.tup, z⟩
 · refine ⟨its.toList, r, ⟨o, I.kIn a o hk, hc, n, by simpa using hs⟩, ?_⟩
   have e := r.length
   simp only [Array.length_toList] at e
   omega
theorem Inv.list_inj (I : Inv X pins σ H s) (h : SqL X.K H a xs) (h' : SqL X.K H a ys) : xs = ys := by
 obtain ⟨its, r, ⟨o, n, e, _, _, d⟩, _⟩ := I.list h
 obtain ⟨its', r', ⟨o', n', e', _, _, d'⟩, _⟩ := I.list h'
 rw [e] at e'; cases e'
 rw [d] at d'
 injection d' with d1 _
 have : its = its' := by simpa using congrArg Array.toList d1
 subst this
 exact r.inj r'
theorem Inv.tuple_inj (I : Inv X pins σ H s) (h : SqT X.K H a xs) (h' : SqT X.K H a ys) : xs = ys := by
 obtain ⟨its, r, ⟨o, e, _, n, d⟩, _⟩ := I.tuple h
 obtain ⟨its', r', ⟨o', e', _, n', d'⟩, _⟩ := I.tuple h'
 rw [e] at e'; cases e'
 rw [d] at d'
 injection d' with d1 _
 have : its = its' := by simpa using congrArg Array.toList d1
 subst this
 exact r.inj r'
end
noncomputable abbrev Cx.wish (X : Cx) (E : Value → Shared → Prop) : Cx := { X with xe := E }
noncomputable abbrev Cx.nox (X : Cx) : Cx := X.wish fun _ _ => False
theorem Cx.Ok.wish {X : Cx} (ok : X.Ok) (E : Value → Shared → Prop) : (X.wish E).Ok :=
 ⟨ok.mod, ok.kind, ok.glob, ok.blt, ok.above, ok.inj, ok.has, ok.cab, ok.hd, ok.frames, ok.stk, ok.exf, ok.bs, ok.bsz, ok.noex, ok.exfs, ok.funs, ok.frf⟩
theorem Cx.Ok.unwish {X : Cx} {E : Value → Shared → Prop} (ok : (X.wish E).Ok) : X.Ok :=
 ⟨ok.mod, ok.kind, ok.glob, ok.blt, ok.above, ok.inj, ok.has, ok.cab, ok.hd, ok.frames, ok.stk, ok.exf, ok.bs, ok.bsz, ok.noex, ok.exfs, ok.funs, ok.frf⟩
section
variable {X : Cx} {pins : List (Addr × Obj)} {σ : St} {H : Hp} {s : Shared} {E : Value → Shared → Prop}
theorem Inv.wish (I : Inv X pins σ H s) (E : Value → Shared → Prop) : Inv (X.wish E) pins σ H s := ⟨I.ok.wish E, I.os, I.bare, I.base, I.loc, I.cell, I.free, I.freeC, I.pin, I.hok, I.len⟩
theorem Inv.unwish (I : Inv (X.wish E) pins σ H s) : Inv X pins σ H s := ⟨I.ok.unwish, I.os, I.bare, I.base, I.loc, I.cell, I.free, I.freeC, I.pin, I.hok, I.len⟩
theorem SP.unwish {D : Ends} {f : Flow} {s' : Shared} (h : SP (X.wish E) pins D f s') : SP X pins D f s' := by
 cases f with
 | next => obtain ⟨σ', H', I, q⟩ := h; exact ⟨σ', H', I.unwish, q⟩
 | brk => obtain ⟨σ', H', I, q⟩ := h; exact ⟨σ', H', I.unwish, q⟩
 | cont => obtain ⟨σ', H', I, q⟩ := h; exact ⟨σ', H', I.unwish, q⟩
 | ret u => obtain ⟨v, σ', H', I, r, q⟩ := h; exact ⟨v, σ', H', I.unwish, r, q⟩
theorem PSs.nox {st : List Stmt} {t : TS} (h : PSs X.nox st t) : PSs X st t := fun pins s σ H D I hw =>
 wpAny_mono (h pins s σ H D (I.wish _) hw) (fun _ _ q => q.unwish) fun _ _ z => False.elim z
end
section
variable {X : Cx} {st : Stmt} {rest : List Stmt} {t u : TS} {e : Expr} {te : TE} {pos : Pos}
noncomputable def tNext : TS := fun D σ H => D.nx σ H
noncomputable def tSeq (t u : TS) : TS := fun D σ H => t { D with nx := u D } σ H
theorem pss_nil : PSs X [] tNext := fun _ _ σ H _ I h => wpAny_execs_nil ⟨σ, H, I, h⟩
theorem pss_cons (h1 : PS X st t) (h2 : PSs X rest u) : PSs X (st :: rest) (tSeq t u) := by
 intro pins s σ H D I h
 refine wpAny_execs_cons (thn (h1 pins s σ H { D with nx := u D } I h) fun f s1 q => ?_)
 cases f with
 | next =>
   obtain ⟨σ', H', I', q⟩ := q
   exact h2 pins s1 σ' H' D I' q
 | ret v => exact q
 | brk => exact q
 | cont => exact q
theorem pss_one (h1 : PS X st t) : PSs X [st] t := by
 intro pins s σ H D I h
 refine wpAny_execs_cons (thn (h1 pins s σ H D I h) fun f s1 q => ?_)
 cases f with
 | next => exact wpAny_execs_nil q
 | ret v => exact q
 | brk => exact q
 | cont => exact q
theorem Inv.quiet {pins : List (Addr × Obj)} {σ : St} {H : Hp} {s : Shared} (I : Inv X pins σ H s) : interactive X.env = false := by simp [interactive, I.ok.kind]
noncomputable def tDrop (te : TE) : TS := fun D σ H => te σ H fun _ H1 => D.nx σ H1
theorem ps_expr (he : PE X e te) (hs : swapsWith e none pos.line X.env = pure false := by rfl) : PS X (.Expr e pos) (tDrop te) := by
 intro pins s σ H D I h
 exact wpAny_Expr_any (thn (he pins s σ H _ I h) fun v s1 ⟨x, H1, I1, r1, q1⟩ => ⟨σ, H1, I1, q1⟩) I.quiet hs
noncomputable def tRet (te : TE) : TS := fun D σ H => te σ H D.rt
theorem ps_ret (he : PE X e te) : PS X (.Return (some e) pos) (tRet te) := by
 intro pins s σ H D I h
 exact wpAny_Return_some (thn (he pins s σ H _ I h) fun v s1 ⟨x, H1, I1, r1, q1⟩ => ⟨x, σ, H1, I1, r1, q1⟩)
noncomputable def tIfS (c : TT) (t u : TS) : TS := fun D σ H => c σ H fun b H1 => if b = true then t D σ H1 else u D σ H1
theorem ps_if {c : Expr} {a b : List Stmt} {tc : TT} (hc : PT X c tc) (ha : PSs X a t) (hb : PSs X b u) : PS X (.If c a b pos) (tIfS tc t u) := by
 intro pins s σ H D I h
 refine wpAny_If (thn (hc pins s σ H _ I h) fun d s1 ⟨H1, I1, q1⟩ => ?_)
 cases d with
 | true => exact ha pins s1 σ H1 D I1 q1
 | false => exact hb pins s1 σ H1 D I1 q1
noncomputable def tNever : TS := fun _ _ _ => False
theorem ps_never : PS X st tNever := fun _ _ _ _ _ _ h => h.elim
end
noncomputable abbrev TG := V → St → Hp → (St → Hp → Prop) → Prop
noncomputable abbrev TGs := List V → St → Hp → (St → Hp → Prop) → Prop
noncomputable def PG (X : Cx) (target : Expr) (t : TG) : Prop :=
 ∀ (pins : List (Addr × Obj)) (s : Shared) (σ : St) (H : Hp) (v : V) (u : Value) (Q : St → Hp → Prop), Inv X pins σ H s → RelV v u → t v σ H Q →
   wpAny (model X.prog X.w) X.A (assign target X.env u) (fun _ s' => ∃ σ' H', Inv X pins σ' H' s' ∧ Q σ' H') X.xe s
noncomputable def PGs (X : Cx) (ts : List Expr) (t : TGs) : Prop :=
 ∀ (pins : List (Addr × Obj)) (s : Shared) (σ : St) (H : Hp) (vs : List V) (us : List Value) (Q : St → Hp → Prop), Inv X pins σ H s → Vals vs us → t vs σ H Q →
   wpAny (model X.prog X.w) X.A (assignInOrder ((assignEach ts X.env).map (·.2)) us) (fun _ s' => ∃ σ' H', Inv X pins σ' H' s' ∧ Q σ' H') X.xe s
section
variable {X : Cx} {pos : Pos}
noncomputable def gName (i : Nat) : TG := fun v σ H Q => Q (σ.set i (some v)) H
theorem pg_name {i : Nat} {x : Str} (hN : X.N.Nodup) (hi : X.N[i]? = some x) (hx : Loc X.env.scope x) (hf : X.fn x = true ∨ X.env.scope.names.lookup x = some .local := by first | exact .inl rfl | exact .inr rfl | assumption) : PG X (.Name x pos) (gName i) := by
 intro pins s σ H v u Q I r h
 exact wpAny_assign_Name (store_ok I hN hi hx r (fun s' I' => ⟨_, H, I', h⟩) hf)
noncomputable def gNil : TGs := fun vs σ H Q => vs = [] ∧ Q σ H
noncomputable def gCons (t : TG) (u : TGs) : TGs := fun vs σ H Q => ∃ v r, vs = v :: r ∧ t v σ H fun σ' H' => u r σ' H' Q
theorem pgs_nil : PGs X [] gNil := by
 intro pins s σ H vs us Q I r h
 obtain ⟨e, h⟩ := h
 subst e
 cases r
 exact assignInOrder_nil ⟨σ, H, I, h⟩
theorem pgs_cons {e : Expr} {es : List Expr} {t : TG} {u : TGs} (h1 : PG X e t) (h2 : PGs X es u)
   (hs : (assignEach (e :: es) X.env).map (·.2) = assign e X.env :: (assignEach es X.env).map (·.2) := by rfl) : PGs X (e :: es) (gCons t u) := by
 intro pins s σ H vs us Q I r h
 obtain ⟨v, vr, e1, h⟩ := h
 subst e1
 cases r with
 | cons r rr =>
   rw [hs]
   refine assignInOrder_cons (thn (h1 pins s σ H _ _ _ I r h) fun _ s1 ⟨σ1, H1, I1, q1⟩ => ?_)
   exact h2 pins s1 σ1 H1 _ _ Q I1 rr q1
noncomputable def gTup (K : PySem.W.Frag) (n : Nat) (t : TGs) : TG := fun v σ H Q => ∃ a xs, v = .ref a ∧ SqT K H a xs ∧ xs.length = n ∧ t xs σ H Q
theorem pg_tup {es : List Expr} {k : Nat} {t : TGs} {n : Nat} (hc : X.calm = true) (h : PGs X es t)
   (hn : (assignEach es X.env).length = n := by rfl) (hst : (assignEach es X.env).findIdx? (·.1) = none := by rfl) : PG X (.Tuple es k pos) (gTup X.K n t) := by
 intro pins s σ H v u Q I r hw
 obtain ⟨a, xs, e1, hq, hl, hw⟩ := hw
 subst e1
 cases r
 obtain ⟨its, rv, ht, hz⟩ := I.tuple hq
 refine assign_Tuple_tuple (I.ok.hd hc) ht (by simp [hn, ← hl, rv.length]) hst fun h' hx => ?_
 have I1 : Inv X pins σ H { s with heap := h' } := I.kept (t' := s.toks) fun b o e => hx b o (Nat.ne_of_lt (Heap.lt_size e)) e
 exact h pins _ σ H xs _ Q I1 (by simpa using rv) hw
noncomputable def tAsg (te : TE) (g : TG) : TS := fun D σ H => te σ H fun x H1 => g x σ H1 D.nx
theorem ps_set {i : Nat} {x : Str} {e : Expr} {te : TE} {pos' : Pos} (hN : X.N.Nodup) (hi : X.N[i]? = some x) (hx : Loc X.env.scope x) (he : PE X e te) (hs : swapsWith e (some (.Name x pos')) pos.line X.env = pure false := by rfl) (hf : X.fn x = true ∨ X.env.scope.names.lookup x = some .local := by first | exact .inl rfl | exact .inr rfl | assumption) :
   PS X (.Assign [.Name x pos'] e pos) (tAsg te (gName i)) := by
 intro pins s σ H D I h
 refine wpAny_Assign_Name (thn (he pins s σ H _ I h) fun v s1 ⟨y, H1, I1, r1, q1⟩ => ?_) hs
 exact store_ok I1 hN hi hx r1 (fun s2 I2 => ⟨_, H1, I2, q1⟩) hf
end
section
variable {X : Cx} {pos : Pos}
noncomputable def tWhile (c : TT) (tb : TS) : TS := fun D σ H => ∃ W : Nat → St → Hp → Prop, (∃ m, W m σ H) ∧ ∀ m σ H, W m σ H →
 c σ H fun b H1 => if b = true then ∃ N : St → Hp → Prop, (∀ σ' H', N σ' H' → ∃ m', m' < m ∧ W m' σ' H') ∧ tb { D with nx := N, ct := N, bk := D.nx } σ H1 else D.nx σ H1
theorem ps_while {c : Expr} {body : List Stmt} {tc : TT} {tb : TS} (hp : PassesOwn (model X.prog X.w) X.A X.env X.xe) (hc : PT X c tc) (hb : PSs X body tb) : PS X (.While c body [] pos) (tWhile tc tb) := by
 intro pins s σ H D I h
 obtain ⟨W, ⟨m0, w0⟩, turn⟩ := h
 refine wpAny_While (codeAny_whileLoop (fun n s' => ∃ σ' H', Inv X pins σ' H' s' ∧ W n σ' H') ?_ m0 ⟨σ, H, I, w0⟩)
 rintro n s1 ⟨σ1, H1, I1, w1⟩
 refine wpAny_passesOwn hp (thn (hc pins s1 σ1 H1 _ I1 (turn n σ1 H1 w1)) fun b s2 ⟨H2, I2, q2⟩ => ?_)
 cases b with
 | true =>
   obtain ⟨N, hN, q2⟩ := q2
   rw [if_pos rfl]
   refine wpAny_passesOwn hp (thn (hb pins s2 σ1 H2 _ I2 q2) fun f s3 q3 => ?_)
   cases f with
   | next =>
     obtain ⟨σ3, H3, I3, n3⟩ := q3
     obtain ⟨m', hm, w3⟩ := hN σ3 H3 n3
     exact ⟨m', hm, σ3, H3, I3, w3⟩
   | cont =>
     obtain ⟨σ3, H3, I3, n3⟩ := q3
     obtain ⟨m', hm, w3⟩ := hN σ3 H3 n3
     exact ⟨m', hm, σ3, H3, I3, w3⟩
   | brk => exact q3
   | ret v => exact q3
 | false =>
   rw [if_neg Bool.false_ne_true]
   exact wpAny_execs_nil ⟨σ1, H2, I2, q2⟩
end
structure It where
 go : Nat → Hp → Prop
 yld : Nat → Hp → V → Hp → Prop
 stop : Nat → Hp → Prop
noncomputable def FpOk (X : Cx) (pins : List (Addr × Obj)) (H : Hp) (b : Addr) : Prop :=
 H b = none ∧ b ≠ X.env.locals ∧ b ∉ X.fs ∧ (b ∈ X.ex ∨ X.s₀.heap.objs.size ≤ b) ∧ (∀ x c, X.env.cells.lookup x = some c → c ≠ b) ∧ ∀ p ∈ X.pn ++ pins, p.1 ≠ b
theorem Inv.fpOk {X : Cx} {pins : List (Addr × Obj)} {σ : St} {H H' : Hp} {s : Shared} {b : Addr} (I : Inv X pins σ H s) (hb : s.heap.objs.size ≤ b) (hn : H' b = none) : FpOk X pins H' b := by
 refine ⟨hn, Nat.ne_of_gt (Nat.lt_of_lt_of_le I.lt hb), I.nofs hb, .inr (Nat.le_trans I.sz hb), fun x c e z => ?_, fun p hp z => ?_⟩
 · obtain ⟨v, q⟩ := I.cell x c e
   exact absurd (Nat.lt_of_lt_of_le q.lt (by rw [z]; exact hb)) (Nat.lt_irrefl _)
 · exact absurd (Nat.lt_of_lt_of_le (Heap.lt_size (I.pin p hp).1) (by rw [z]; exact hb)) (Nat.lt_irrefl _)
structure Turn (P : Program) (w : World) (K : PySem.W.Frag) (tg : Expr) (J : It) (fp : List Addr) (it : Addr) (tn : Nat → Heap → Prop) : Prop where
 mem : it ∈ fp
 obj : ∀ i h, tn i h → ∀ b ∈ fp, ∃ o, h.get? b = some o ∧ ∀ v, o.data ≠ .cell v
 keep : ∀ i h h', tn i h → (∀ b ∈ fp, ∀ o, h.get? b = some o → h'.get? b = some o) → tn i h'
 item : ∀ (X : Cx), X.prog = P → X.w = w → X.K = K → X.calm = true → ∀ (i : Nat) (pins : List (Addr × Obj)) (s : Shared) (σ : St) (H : Hp) (E : Value → Shared → Prop), Inv X pins σ H s → (∀ b ∈ fp, FpOk X pins H b) → tn i s.heap → J.go i H →
   wpAny (model P w) X.A (pyNext (.ref it)) (fun r s1 => ∃ u, r = some u ∧
     wpAny (model P w) X.A (letOwnedTupleGo tg (.ref it) u) (fun _ s2 => ∃ x H', Inv X pins σ H' s2 ∧ RelV x u ∧ J.yld i H x H' ∧ tn (i + 1) s2.heap ∧ ∀ b ∈ fp, H' b = none) E s1) E s
 done : ∀ (X : Cx), X.prog = P → X.w = w → X.K = K → X.calm = true → ∀ (i : Nat) (pins : List (Addr × Obj)) (s : Shared) (σ : St) (H : Hp) (E : Value → Shared → Prop), Inv X pins σ H s → (∀ b ∈ fp, FpOk X pins H b) → tn i s.heap → J.stop i H →
   wpAny (model P w) X.A (pyNext (.ref it)) (fun r s1 => r = none ∧ Inv X pins σ H s1) E s
 self : ∀ (A : Around) (i : Nat) (s : Shared) (Q : Value → Shared → Prop) (E : Value → Shared → Prop), tn i s.heap → Q (.ref it) s → wpAny (model P w) A (pyIter (.ref it)) Q E s
noncomputable abbrev TI := St → Hp → (It → Hp → Prop) → Prop
noncomputable def PIE (X : Cx) (pins : List (Addr × Obj)) (σ : St) (tg : Expr) (R : It → Hp → Prop) (itv : Value) (s2 : Shared) : Prop :=
 ∃ (it : Addr) (fp : List Addr) (tn : Nat → Heap → Prop) (J : It) (H' : Hp), itv = .ref it ∧ Inv X pins σ H' s2 ∧ Turn X.prog X.w X.K tg J fp it tn ∧ tn 0 s2.heap ∧ (∀ b ∈ fp, FpOk X pins H' b) ∧ R J H'
noncomputable def PI (X : Cx) (tg iter : Expr) (wi : TI) : Prop :=
 ∀ (pins : List (Addr × Obj)) (s : Shared) (σ : St) (H : Hp) (R : It → Hp → Prop), Inv X pins σ H s → wi σ H R →
   wpAny (model X.prog X.w) X.A (eval iter X.env) (fun v s1 => wpAny (model X.prog X.w) X.A (pyIter v) (PIE X pins σ tg R) X.xe s1) X.xe s
theorem go_of {M : Model} {A : Around} {E : Value → Shared → Prop} {s : Shared} {tg : Expr} {it : Addr} {u : Value} {o : Obj} {n : String} {vs : Array Value} {Q : Unit → Shared → Prop} (ho : s.heap.get? it = some o) (hc : o.cls = .type n) (hd : o.data = .fields vs)
   (hn : ["enumerate", "zip", "dict_itemiterator", "dict_reverseitemiterator", "odict_iterator", "itertools.zip_longest", "itertools.pairwise"].contains n = false) (hQ : Q () s) : wpAny M A (letOwnedTupleGo tg (.ref it) u) Q E s := by
 unfold letOwnedTupleGo
 cases tg <;> first
   | exact wpAny_pure hQ
   | (cases u <;> first
       | exact wpAny_pure hQ
       | (refine wpAny_bind (wpAny_load ho ?_)
          rw [hc, hd]
          show wpAny M A (if (["enumerate", "zip", "dict_itemiterator", "dict_reverseitemiterator", "odict_iterator", "itertools.zip_longest", "itertools.pairwise"].contains n && vs[0]? == some (rawInt _)) = true then _ else _) Q E s
          rw [if_neg (by intro h; rw [hn, Bool.false_and] at h; cases h)]
          exact wpAny_pure hQ))
noncomputable def Itl (K : PySem.W.Frag) (a : Addr) : It :=
 ⟨fun i H => ∃ xs x, SqL K H a xs ∧ xs[i]? = some x, fun i H x H' => H' = H ∧ ∀ xs, SqL K H a xs → xs[i]? = some x, fun i H => ∃ xs, SqL K H a xs ∧ xs.length ≤ i⟩
noncomputable def Itt (K : PySem.W.Frag) (a : Addr) : It :=
 ⟨fun i H => ∃ xs x, SqT K H a xs ∧ xs[i]? = some x, fun i H x H' => H' = H ∧ ∀ xs, SqT K H a xs → xs[i]? = some x, fun i H => ∃ xs, SqT K H a xs ∧ xs.length ≤ i⟩
noncomputable def Itr (lo : Int) (n : Nat) : It := ⟨fun i _ => i < n, fun i H x H' => H' = H ∧ x = .int (lo + i), fun i _ => n ≤ i⟩
theorem turn_list {P : Program} {w : World} {K : PySem.W.Frag} {tg : Expr} (a it : Addr) : Turn P w K tg (Itl K a) [it] it (fun i h => h.IsListIter it a i) where
 mem := by simp
 obj := fun i h st b hb => by
   have e : b = it := by simpa using hb
   subst e
   obtain ⟨o, e, c, d⟩ := st
   exact ⟨o, e, fun v z => by rw [d] at z; cases z⟩
 keep := fun i h h' st k => st.at fun o e => k it (by simp) o e
 item := by
   intro X hP hw hK hc i pins s σ H E I hf st hg
   subst hP hw hK
   obtain ⟨xs, x, hq, hx⟩ := hg
   obtain ⟨its, rv, p, hz⟩ := I.list hq
   obtain ⟨u, hu, ru⟩ := rv.get hx
   obtain ⟨f0, f1, f2, f3, f4, f5⟩ := hf it (by simp)
   refine wpAny_pyNext_list_item st p.isList (x := u) (by simpa using hu) fun h' st' sb => ?_
   have I1 : Inv X pins σ H { s with heap := h' } := I.turned (t' := s.toks) (fun b o hb e => (sb.2 b hb).trans e) f0 f1 f3 f4 f5
   obtain ⟨o, e, c, d⟩ := id st'
   exact ⟨u, rfl, go_of (s := { s with heap := h' }) e c d (by decide) ⟨x, H, I1, ru, ⟨rfl, fun ys hy => by rw [I.list_inj hy hq]; exact hx⟩, st', fun b hb => (hf b hb).1⟩⟩
 done := by
   intro X hP hw hK hc i pins s σ H E I hf st hg
   subst hP hw hK
   obtain ⟨xs, hq, hx⟩ := hg
   obtain ⟨its, rv, p, hz⟩ := I.list hq
   obtain ⟨f0, f1, f2, f3, f4, f5⟩ := hf it (by simp)
   have hl := rv.length
   exact wpAny_pyNext_list_end (I.ok.hd hc) st p.isList (by simp; omega) fun h' eb => ⟨rfl, I.turned (t' := s.toks) (fun b o hb e => eb b o hb e) f0 f1 f3 f4 f5⟩
 self := fun _ _ _ _ _ st h => wpAny_pyIter_listiter st h
theorem turn_tuple {P : Program} {w : World} {K : PySem.W.Frag} {tg : Expr} (a it : Addr) : Turn P w K tg (Itt K a) [it] it (fun i h => h.IsTupleIter it a i) where
 mem := by simp
 obj := fun i h st b hb => by
   have e : b = it := by simpa using hb
   subst e
   obtain ⟨o, e, c, d⟩ := st
   exact ⟨o, e, fun v z => by rw [d] at z; cases z⟩
 keep := fun i h h' st k => st.at fun o e => k it (by simp) o e
 item := by
   intro X hP hw hK hc i pins s σ H E I hf st hg
   subst hP hw hK
   obtain ⟨xs, x, hq, hx⟩ := hg
   obtain ⟨its, rv, p, hz⟩ := I.tuple hq
   obtain ⟨u, hu, ru⟩ := rv.get hx
   obtain ⟨f0, f1, f2, f3, f4, f5⟩ := hf it (by simp)
   refine wpAny_pyNext_tuple_item st (show s.heap.IsTuple a its.toArray from p) (x := u) (by simpa using hu) fun h' st' sb => ?_
   have I1 : Inv X pins σ H { s with heap := h' } := I.turned (t' := s.toks) (fun b o hb e => (sb.2 b hb).trans e) f0 f1 f3 f4 f5
   obtain ⟨o, e, c, d⟩ := id st'
   exact ⟨u, rfl, go_of (s := { s with heap := h' }) e c d (by decide) ⟨x, H, I1, ru, ⟨rfl, fun ys hy => by rw [I.tuple_inj hy hq]; exact hx⟩, st', fun b hb => (hf b hb).1⟩⟩
 done := by
   intro X hP hw hK hc i pins s σ H E I hf st hg
   subst hP hw hK
   obtain ⟨xs, hq, hx⟩ := hg
   obtain ⟨its, rv, p, hz⟩ := I.tuple hq
   obtain ⟨f0, f1, f2, f3, f4, f5⟩ := hf it (by simp)
   have hl := rv.length
   exact wpAny_pyNext_tuple_end (I.ok.hd hc) st (show s.heap.IsTuple a its.toArray from p) (by simp; omega) fun h' eb => ⟨rfl, I.turned (t' := s.toks) (fun b o hb e => eb b o hb e) f0 f1 f3 f4 f5⟩
 self := fun _ _ _ _ _ st h => wpAny_pyIter_tupleiter st h
theorem turn_range {P : Program} {w : World} {K : PySem.W.Frag} {tg : Expr} (it : Addr) (lo : Int) (n : Nat) : Turn P w K tg (Itr lo n) [it] it (fun i h => IsRangeIter h it (lo + (i : Nat) * 1) ((n : Int) - (i : Nat)) 1) where
 mem := by simp
 obj := fun i h st b hb => by
   have e : b = it := by simpa using hb
   subst e
   exact ⟨_, st, fun v z => by
     have z' : Data.fields _ = Data.cell v := z
     cases z'⟩
 keep := fun i h h' st k => k it (by simp) _ st
 item := by
   intro X hP hw hK hc i pins s σ H E I hf st hg
   subst hP hw hK
   obtain ⟨f0, f1, f2, f3, f4, f5⟩ := hf it (by simp)
   have W := Walks.range (prog := X.prog) (w := X.w) (I.ok.hd hc) it lo 1 n
   refine W.item i s _ _ hg st fun v h' tk hv st' kk => ?_
   obtain ⟨t, rfl⟩ := hv
   have I1 : Inv X pins σ H { s with heap := h', toks := tk } := I.turned (fun b o hb e => kk b o (by simpa using hb) e) f0 f1 f3 f4 f5
   refine ⟨_, rfl, go_of (s := { s with heap := h', toks := tk }) (n := "range_iterator") st' rfl rfl (by decide) ⟨.int (lo + i), H, I1, ⟨t, ?_⟩, ⟨rfl, rfl⟩, st', fun b hb => (hf b hb).1⟩⟩
   rw [Int.mul_one]
 done := by
   intro X hP hw hK hc i pins s σ H E I hf st hg
   subst hP hw hK
   obtain ⟨f0, f1, f2, f3, f4, f5⟩ := hf it (by simp)
   exact wpAny_pyNext_range_end (I.ok.hd hc) st (by have : n ≤ i := hg; omega) fun h' eb => ⟨rfl, I.turned (t' := s.toks) (fun b o hb e => eb b o hb e) f0 f1 f3 f4 f5⟩
 self := fun _ _ _ _ _ st h => wpAny_pyIter_rangeiter st h
end L2
namespace L2
open PySem PySem.Spec PyProof.Rows
section
variable {X : Cx} {tg : Expr}
noncomputable def iList (K : PySem.W.Frag) (tl : TE) : TI := fun σ H R => tl σ H fun x H1 => ∃ a, x = .ref a ∧ (∃ xs, SqL K H1 a xs) ∧ R (Itl K a) H1
noncomputable def iTup (K : PySem.W.Frag) (tl : TE) : TI := fun σ H R => tl σ H fun x H1 => ∃ a, x = .ref a ∧ (∃ xs, SqT K H1 a xs) ∧ R (Itt K a) H1
theorem pi_list {l : Expr} {tl : TE} (hl : PE X l tl) : PI X tg l (iList X.K tl) := by
 intro pins s σ H R I h
 refine thn (hl pins s σ H _ I h) fun v s1 ⟨x, H1, I1, r1, q1⟩ => ?_
 obtain ⟨a, e, ⟨xs, hq⟩, q⟩ := q1
 subst e
 cases r1
 obtain ⟨its, rv, p, hz⟩ := I1.list hq
 refine wpAny_pyIter_list p.isList ?_
 refine ⟨s1.heap.objs.size, [s1.heap.objs.size], _, _, H1, rfl, I1.kept (t' := s1.toks) fun b o e => Heap.get?_push_of_some _ e, turn_list a _, ⟨_, Heap.get?_push_size _ rfl, rfl, rfl⟩, fun b hb => ?_, q⟩
 have e : b = s1.heap.objs.size := by simpa using hb
 subst e
 exact I1.fpOk (Nat.le_refl _) (I1.hok.fresh (Nat.le_refl _))
theorem pi_tup {l : Expr} {tl : TE} (hl : PE X l tl) : PI X tg l (iTup X.K tl) := by
 intro pins s σ H R I h
 refine thn (hl pins s σ H _ I h) fun v s1 ⟨x, H1, I1, r1, q1⟩ => ?_
 obtain ⟨a, e, ⟨xs, hq⟩, q⟩ := q1
 subst e
 cases r1
 obtain ⟨its, rv, p, hz⟩ := I1.tuple hq
 refine wpAny_pyIter_tuple (show s1.heap.IsTuple a its.toArray from p) ?_
 refine ⟨s1.heap.objs.size, [s1.heap.objs.size], _, _, H1, rfl, I1.kept (t' := s1.toks) fun b o e => Heap.get?_push_of_some _ e, turn_tuple a _, ⟨_, Heap.get?_push_size _ rfl, rfl, rfl⟩, fun b hb => ?_, q⟩
 have e : b = s1.heap.objs.size := by simpa using hb
 subst e
 exact I1.fpOk (Nat.le_refl _) (I1.hok.fresh (Nat.le_refl _))
theorem range_it {pins : List (Addr × Obj)} {σ : St} {H : Hp} {s : Shared} {R : It → Hp → Prop} {E : Value → Shared → Prop} {lo hi : Int} {t u v : Tok} {tk : Nat} (I : Inv X pins σ H s) (h1 : -(2 ^ 62) ≤ lo) (h2 : lo < 2 ^ 62) (h3 : -(2 ^ 62) ≤ hi) (h4 : hi < 2 ^ 62)
   (q : R (Itr lo (hi - lo).toNat) H) : wpAny (model X.prog X.w) X.A (pyIter (.ref s.heap.objs.size)) (PIE X pins σ tg R) E { s with heap := s.heap.push { cls := .type "range", data := .fields #[.int lo t, .int hi u, .int 1 v] }, toks := tk } := by
 refine wpAny_pyIter_range (IsRange.new ..) (small_one h1 h2 h3 h4) ?_
 have I1 : Inv X pins σ H { s with heap := s.heap.push { cls := .type "range", data := .fields #[.int lo t, .int hi u, .int 1 v] }, toks := tk } := I.kept fun b o e => Heap.get?_push_of_some _ e
 refine ⟨(s.heap.push { cls := .type "range", data := .fields #[.int lo t, .int hi u, .int 1 v] }).objs.size, [(s.heap.push { cls := .type "range", data := .fields #[.int lo t, .int hi u, .int 1 v] }).objs.size], _, _, H, rfl,
   I1.kept (t' := tk) fun b o e => Heap.get?_push_of_some _ e, turn_range _ lo (hi - lo).toNat, ?_, fun b hb => ?_, q⟩
 · have e1 : lo + ((0 : Nat) : Int) * 1 = lo := by simp
   have e2 : (((hi - lo).toNat : Nat) : Int) - ((0 : Nat) : Int) = Builtin.Range.rangeSize lo hi 1 := by rw [rangeSize_one]; split <;> omega
   show IsRangeIter _ _ (lo + ((0 : Nat) : Int) * 1) ((((hi - lo).toNat : Nat) : Int) - ((0 : Nat) : Int)) 1
   rw [e1, e2]
   exact Heap.get?_push_size _ rfl
 · have e : b = (s.heap.push { cls := .type "range", data := .fields #[.int lo t, .int hi u, .int 1 v] }).objs.size := by simpa using hb
   subst e
   exact I1.fpOk (Nat.le_refl _) (I1.hok.fresh (Nat.le_refl _))
noncomputable def iRng1 (ta : TA) : TI := fun σ H R => ta σ H fun vs H1 => ∃ j : Int, vs = [.int j] ∧ -(2 ^ 62) ≤ j ∧ j < 2 ^ 62 ∧ R (Itr 0 j.toNat) H1
noncomputable def iRng2 (ta : TA) : TI := fun σ H R => ta σ H fun vs H1 => ∃ i j : Int, vs = [.int i, .int j] ∧ (-(2 ^ 62) ≤ i ∧ i < 2 ^ 62 ∧ -(2 ^ 62) ≤ j ∧ j < 2 ^ 62) ∧ R (Itr i (j - i).toNat) H1
theorem pi_range1 {a : Expr} {ta : TA} {p pos : Pos} (hg : Gl X "range") (hm : X.mg "range" = none) (ha : PA X [a] ta) (hs : starEach [a] X.env = [(false, eval a X.env)] := by rfl) : PI X tg (.Call (.Name "range" p) [a] [] pos) (iRng1 ta) := by
 intro pins s σ H R I h
 refine Call_ (ld_blt I hg hm boot_range (PyProof.Rows.callWith_type1 (thn (ha pos pins s σ H _ I h) fun us s1 ⟨vs, H1, I1, r1, q1⟩ => ?_) hs rfl))
 obtain ⟨j, e, q1, q2, q⟩ := q1
 subst e
 cases r1 with
 | cons r rr =>
   cases rr
   obtain ⟨t, rfl⟩ := r
   exact call_range_1 (range_it I1 (by omega) (by omega) q1 q2 (by simpa using q))
theorem pi_range2 {a b : Expr} {ta : TA} {p pos : Pos} (hg : Gl X "range") (hm : X.mg "range" = none) (ha : PA X [a, b] ta) (hs : starEach [a, b] X.env = [(false, eval a X.env), (false, eval b X.env)] := by rfl) (hs2 : starEach [b] X.env = [(false, eval b X.env)] := by rfl) :
   PI X tg (.Call (.Name "range" p) [a, b] [] pos) (iRng2 ta) := by
 intro pins s σ H R I h
 refine Call_ (ld_blt I hg hm boot_range (PyProof.Rows.callWith_type1 (thn (ha pos pins s σ H _ I h) fun us s1 ⟨vs, H1, I1, r1, q1⟩ => ?_) (by rw [hs, hs2]) (by rw [hs2]; rfl)))
 obtain ⟨i, j, e, ⟨q1, q2, q3, q4⟩, q⟩ := q1
 subst e
 cases r1 with
 | cons r rr =>
   cases rr with
   | cons r' rr =>
     cases rr
     obtain ⟨t, rfl⟩ := r
     obtain ⟨t', rfl⟩ := r'
     exact call_range_2 (range_it I1 q1 q2 q3 q4 q)
noncomputable def tFor (wi : TI) (g : TG) (tb : TS) : TS := fun D σ H => wi σ H fun J H1 => ∃ W : Nat → Nat → St → Hp → Prop, (∃ m, W 0 m σ H1) ∧ ∀ i m σ H, W i m σ H →
 (J.stop i H ∧ D.nx σ H) ∨ (J.go i H ∧ ∃ N : St → Hp → Prop, (∀ σ' H', N σ' H' → ∃ m', m' < m ∧ W (i + 1) m' σ' H') ∧ ∀ x H', J.yld i H x H' → g x σ H' fun σ2 H2 => tb { D with nx := N, ct := N, bk := D.nx } σ2 H2)
noncomputable def pinsAt (fp : List Addr) (h : Heap) : List (Addr × Obj) := fp.filterMap fun b => (h.get? b).map fun o => (b, o)
theorem mem_pinsAt {fp : List Addr} {h : Heap} {b : Addr} {o : Obj} (hb : b ∈ fp) (e : h.get? b = some o) : (b, o) ∈ pinsAt fp h := List.mem_filterMap.mpr ⟨b, hb, by rw [e]; rfl⟩
theorem of_pinsAt {fp : List Addr} {h : Heap} {p : Addr × Obj} (hp : p ∈ pinsAt fp h) : p.1 ∈ fp ∧ h.get? p.1 = some p.2 := by
 obtain ⟨b, hb, e⟩ := List.mem_filterMap.mp hp
 cases q : h.get? b with
 | none => rw [q] at e; cases e
 | some o =>
   rw [q] at e
   have e' : (b, o) = p := Option.some.inj e
   subst e'
   exact ⟨hb, q⟩
theorem Inv.pinned {pins : List (Addr × Obj)} {σ : St} {H : Hp} {s : Shared} {fp : List Addr} (I : Inv X pins σ H s) (hf : ∀ b ∈ fp, FpOk X pins H b) (ho : ∀ b ∈ fp, ∃ o, s.heap.get? b = some o ∧ ∀ v, o.data ≠ .cell v) : Inv X (pins ++ pinsAt fp s.heap) σ H s :=
 I.pins_of fun p hp => (List.mem_append.mp hp).elim (fun z => I.pin p (List.mem_append_right _ z)) fun z => by
   obtain ⟨hb, e⟩ := of_pinsAt z
   obtain ⟨f0, f1, f2, _⟩ := hf p.1 hb
   obtain ⟨o, e', d⟩ := ho p.1 hb
   rw [e] at e'; cases e'
   exact ⟨e, f0, f1, f2, d⟩
theorem Inv.unpinned {pins pl : List (Addr × Obj)} {σ : St} {H : Hp} {s : Shared} (I : Inv X (pins ++ pl) σ H s) : Inv X pins σ H s := I.pins_of fun p hp => I.pin p (List.mem_append_right _ (List.mem_append_left _ hp))
theorem ps_for {iter : Expr} {body : List Stmt} {wi : TI} {g : TG} {tb : TS} {pos : Pos} (hp : PassesOwn (model X.prog X.w) X.A X.env X.xe) (hc : X.calm = true) (hi : PI X tg iter wi) (hg : PG X tg g) (hb : PSs X body tb)
   (hs : ∀ x, foldedSetIterable iter X.env x = pure x := by intro _; rfl) : PS X (.For tg iter body [] pos) (tFor wi g tb) := by
 intro pins s σ H D I h
 refine wpAny_For (thn (hi pins s σ H _ I h) fun v s1 h1 => thn h1 fun itv s2 h2 => ?_) hs
 obtain ⟨it, fp, tn, J, H2, e, I2, T, st2, f2, W, ⟨m0, w0⟩, turn⟩ := h2
 subst e
 have stat : ∀ {H' : Hp}, (∀ b ∈ fp, H' b = none) → ∀ b ∈ fp, FpOk X pins H' b := fun hn b hb => ⟨hn b hb, (f2 b hb).2⟩
 refine codeAny_forLoop_any (fun n s' => ∃ i σ' H', Inv X pins σ' H' s' ∧ tn i s'.heap ∧ (∀ b ∈ fp, H' b = none) ∧ W i n σ' H') ?_ m0 ⟨0, σ, H2, I2, st2, fun b hb => (f2 b hb).1, w0⟩
 rintro n s3 ⟨i, σ3, H3, I3, st3, fr3, w3⟩
 rcases turn i n σ3 H3 w3 with ⟨stop, qn⟩ | ⟨go, N, hN, step⟩
 · refine wpAny_passesOwn hp (thn (T.done X rfl rfl rfl hc i pins s3 σ3 H3 X.xe I3 (stat fr3) st3 stop) fun r s4 ⟨hr, I4⟩ => ?_)
   subst hr
   exact wpAny_execs_nil ⟨σ3, H3, I4, qn⟩
 · refine wpAny_passesOwn hp (thn (T.item X rfl rfl rfl hc i pins s3 σ3 H3 X.xe I3 (stat fr3) st3 go) fun r s4 ⟨u, hr, h4⟩ => ?_)
   subst hr
   refine wpAny_passesOwn hp (thn h4 fun _ s5 ⟨x, H5, I5, r5, y5, st5, fr5⟩ => ?_)
   have I5' := I5.pinned (stat fr5) (T.obj _ _ st5)
   refine wpAny_passesOwn hp (thn (hg _ s5 σ3 H5 x u _ I5' r5 (step x H5 y5)) fun _ s6 ⟨σ6, H6, I6, q6⟩ => ?_)
   refine wpAny_passesOwn hp (thn (hb _ s6 σ6 H6 _ I6 q6) fun f s7 q7 => ?_)
   have again : ∀ {σ7 : St} {H7 : Hp}, Inv X (pins ++ pinsAt fp s5.heap) σ7 H7 s7 → N σ7 H7 → ∃ m, m < n ∧ ∃ i σ' H', Inv X pins σ' H' s7 ∧ tn i s7.heap ∧ (∀ b ∈ fp, H' b = none) ∧ W i m σ' H' := fun {σ7 H7} I7 n7 => by
     obtain ⟨m', hm, w7⟩ := hN σ7 H7 n7
     refine ⟨m', hm, i + 1, σ7, H7, I7.unpinned, T.keep _ _ _ st5 fun b hb o e => (I7.pin (b, o) (List.mem_append_right _ (List.mem_append_right _ (mem_pinsAt hb e)))).1, fun b hb => ?_, w7⟩
     obtain ⟨o, e, d⟩ := T.obj _ _ st5 b hb
     exact (I7.pin (b, o) (List.mem_append_right _ (List.mem_append_right _ (mem_pinsAt hb e)))).2.1
   cases f with
   | next => obtain ⟨σ7, H7, I7, n7⟩ := q7; exact again I7 n7
   | cont => obtain ⟨σ7, H7, I7, n7⟩ := q7; exact again I7 n7
   | brk => obtain ⟨σ7, H7, I7, q7⟩ := q7; exact ⟨σ7, H7, I7.unpinned, q7⟩
   | ret v => obtain ⟨x7, σ7, H7, I7, r7, q7⟩ := q7; exact ⟨x7, σ7, H7, I7.unpinned, r7, q7⟩
end
theorem for_list {K : PySem.W.Frag} {a : Addr} {xs : List V} {g : TG} {tb : TS} {D : Ends} {σ : St} {H : Hp} (Pv : Nat → St → Hp → Prop) (h0 : Pv 0 σ H) (hl : ∀ i σ H, i ≤ xs.length → Pv i σ H → SqL K H a xs)
   (hs : ∀ i x σ H, xs[i]? = some x → Pv i σ H → g x σ H fun σ2 H2 => tb { D with nx := Pv (i + 1), ct := Pv (i + 1), bk := D.nx } σ2 H2) (hd : ∀ σ H, Pv xs.length σ H → D.nx σ H) :
   ∃ W : Nat → Nat → St → Hp → Prop, (∃ m, W 0 m σ H) ∧ ∀ i m σ H, W i m σ H →
     ((Itl K a).stop i H ∧ D.nx σ H) ∨ ((Itl K a).go i H ∧ ∃ N : St → Hp → Prop, (∀ σ' H', N σ' H' → ∃ m', m' < m ∧ W (i + 1) m' σ' H') ∧ ∀ x H', (Itl K a).yld i H x H' → g x σ H' fun σ2 H2 => tb { D with nx := N, ct := N, bk := D.nx } σ2 H2) := by
 refine ⟨fun i m σ H => m = xs.length - i ∧ i ≤ xs.length ∧ Pv i σ H, ⟨xs.length, by simp, Nat.zero_le _, h0⟩, ?_⟩
 rintro i m σ H ⟨rfl, hi, p⟩
 have q := hl i σ H hi p
 by_cases hlt : i < xs.length
 · refine .inr ⟨⟨xs, xs[i], q, by simp [hlt]⟩, Pv (i + 1), fun σ' H' p' => ⟨xs.length - (i + 1), by omega, rfl, hlt, p'⟩, fun x H' y => ?_⟩
   obtain ⟨e, y⟩ := y
   subst e
   exact hs i x σ _ (y xs q) p
 · have e : i = xs.length := by omega
   subst e
   exact .inl ⟨⟨xs, q, Nat.le_refl _⟩, hd σ H p⟩
theorem for_tup {K : PySem.W.Frag} {a : Addr} {xs : List V} {g : TG} {tb : TS} {D : Ends} {σ : St} {H : Hp} (Pv : Nat → St → Hp → Prop) (h0 : Pv 0 σ H) (hl : ∀ i σ H, i ≤ xs.length → Pv i σ H → SqT K H a xs)
   (hs : ∀ i x σ H, xs[i]? = some x → Pv i σ H → g x σ H fun σ2 H2 => tb { D with nx := Pv (i + 1), ct := Pv (i + 1), bk := D.nx } σ2 H2) (hd : ∀ σ H, Pv xs.length σ H → D.nx σ H) :
   ∃ W : Nat → Nat → St → Hp → Prop, (∃ m, W 0 m σ H) ∧ ∀ i m σ H, W i m σ H →
     ((Itt K a).stop i H ∧ D.nx σ H) ∨ ((Itt K a).go i H ∧ ∃ N : St → Hp → Prop, (∀ σ' H', N σ' H' → ∃ m', m' < m ∧ W (i + 1) m' σ' H') ∧ ∀ x H', (Itt K a).yld i H x H' → g x σ H' fun σ2 H2 => tb { D with nx := N, ct := N, bk := D.nx } σ2 H2) := by
 refine ⟨fun i m σ H => m = xs.length - i ∧ i ≤ xs.length ∧ Pv i σ H, ⟨xs.length, by simp, Nat.zero_le _, h0⟩, ?_⟩
 rintro i m σ H ⟨rfl, hi, p⟩
 have q := hl i σ H hi p
 by_cases hlt : i < xs.length
 · refine .inr ⟨⟨xs, xs[i], q, by simp [hlt]⟩, Pv (i + 1), fun σ' H' p' => ⟨xs.length - (i + 1), by omega, rfl, hlt, p'⟩, fun x H' y => ?_⟩
   obtain ⟨e, y⟩ := y
   subst e
   exact hs i x σ _ (y xs q) p
 · have e : i = xs.length := by omega
   subst e
   exact .inl ⟨⟨xs, q, Nat.le_refl _⟩, hd σ H p⟩
theorem for_range {lo : Int} {n : Nat} {g : TG} {tb : TS} {D : Ends} {σ : St} {H : Hp} (Pv : Nat → St → Hp → Prop) (h0 : Pv 0 σ H)
   (hs : ∀ i σ H, i < n → Pv i σ H → g (.int (lo + i)) σ H fun σ2 H2 => tb { D with nx := Pv (i + 1), ct := Pv (i + 1), bk := D.nx } σ2 H2) (hd : ∀ σ H, Pv n σ H → D.nx σ H) :
   ∃ W : Nat → Nat → St → Hp → Prop, (∃ m, W 0 m σ H) ∧ ∀ i m σ H, W i m σ H →
     ((Itr lo n).stop i H ∧ D.nx σ H) ∨ ((Itr lo n).go i H ∧ ∃ N : St → Hp → Prop, (∀ σ' H', N σ' H' → ∃ m', m' < m ∧ W (i + 1) m' σ' H') ∧ ∀ x H', (Itr lo n).yld i H x H' → g x σ H' fun σ2 H2 => tb { D with nx := N, ct := N, bk := D.nx } σ2 H2) := by
 refine ⟨fun i m σ H => m = n - i ∧ i ≤ n ∧ Pv i σ H, ⟨n, by simp, Nat.zero_le _, h0⟩, ?_⟩
 rintro i m σ H ⟨rfl, hi, p⟩
 by_cases hlt : i < n
 · refine .inr ⟨hlt, Pv (i + 1), fun σ' H' p' => ⟨n - (i + 1), by omega, rfl, hlt, p'⟩, fun x H' y => ?_⟩
   obtain ⟨e, y⟩ := y
   subst e y
   exact hs i σ _ hlt p
 · have e : i = n := by omega
   subst e
   exact .inl ⟨Nat.le_refl _, hd σ H p⟩
end L2
namespace L2
open PySem PySem.Spec PyProof.Rows
noncomputable abbrev R2 := V → V → Hp → VK → Prop
noncomputable def OpR (X : Cx) (f : Value → Value → Sem Value) (r : R2) : Prop :=
 ∀ (pins : List (Addr × Obj)) (s : Shared) (σ : St) (H : Hp) (x y : V) (v u : Value) (Q : VK), Inv X pins σ H s → RelV x v → RelV y u → r x y H Q →
   wpAny (model X.prog X.w) X.A (f v u) (EP X pins σ Q) X.xe s
noncomputable def UnR (X : Cx) (f : Value → Sem Value) (r : V → Hp → VK → Prop) : Prop :=
 ∀ (pins : List (Addr × Obj)) (s : Shared) (σ : St) (H : Hp) (x : V) (v : Value) (Q : VK), Inv X pins σ H s → RelV x v → r x H Q →
   wpAny (model X.prog X.w) X.A (f v) (EP X pins σ Q) X.xe s
noncomputable def CallR (X : Cx) (f : Value) (r : List V → Hp → VK → Prop) : Prop :=
 ∀ (pins : List (Addr × Obj)) (s : Shared) (σ : St) (H : Hp) (xs : List V) (us : List Value) (Q : VK), Inv X pins σ H s → Vals xs us → r xs H Q →
   wpAny (model X.prog X.w) X.A (call f us) (EP X pins σ Q) X.xe s
noncomputable def tOp (r : R2) (ta tb : TE) : TE := fun σ H Q => ta σ H fun x H1 => tb σ H1 fun y H2 => r x y H2 Q
noncomputable def tUn (r : V → Hp → VK → Prop) (ta : TE) : TE := fun σ H Q => ta σ H fun x H1 => r x H1 Q
noncomputable def rI (C : Int → Int → Prop) (g : Int → Int → V) : R2 := fun x y H Q => ∃ i j, x = .int i ∧ y = .int j ∧ C i j ∧ Q (g i j) H
noncomputable def rI0 (g : Int → Int → V) : R2 := fun x y H Q => ∃ i j, x = .int i ∧ y = .int j ∧ Q (g i j) H
noncomputable def rU (g : Int → V) : V → Hp → VK → Prop := fun x H Q => ∃ i, x = .int i ∧ Q (g i) H
section
variable {X : Cx} {a b c : Expr} {ta tb tc : TE} {pos : Pos}
theorem binT (ha : PE X a ta) (hb : PE X b tb) {pins : List (Addr × Obj)} {s : Shared} {σ : St} {H : Hp} {R : V → V → Hp → Prop} (I : Inv X pins σ H s)
   (h : ta σ H fun x H1 => tb σ H1 fun y H2 => R x y H2) {Q : Value → Shared → Prop} {f : Value → Value → Sem Value}
   (hf : ∀ v u s2 x y H2, Inv X pins σ H2 s2 → RelV x v → RelV y u → R x y H2 → wpAny (model X.prog X.w) X.A (f v u) Q X.xe s2) :
   wpAny (model X.prog X.w) X.A (eval a X.env) (fun v s₁ => wpAny (model X.prog X.w) X.A (eval b X.env) (fun u s₂ => wpAny (model X.prog X.w) X.A (f v u) Q X.xe s₂) X.xe s₁) X.xe s := by
 refine thn (ha pins s σ H _ I h) fun v s1 ⟨x, H1, I1, r1, q1⟩ => ?_
 refine thn (hb pins s1 σ H1 _ I1 q1) fun u s2 ⟨y, H2, I2, r2, q2⟩ => ?_
 exact hf v u s2 x y H2 I2 r1 r2 q2
theorem pe_op {op : Operator} {r : R2} (ho : OpR X (binaryOp op) r) (ha : PE X a ta) (hb : PE X b tb) : PE X (.BinOp a op b pos) (tOp r ta tb) := by
 intro pins s σ H Q I h
 exact wpAny_BinOp (binT ha hb I h fun v u s2 x y H2 I2 rx ry q => ho pins s2 σ H2 x y v u Q I2 rx ry q)
theorem pe_un {op : UnaryOp} {r : V → Hp → VK → Prop} (ho : UnR X (unaryOp op) r) (ha : PE X a ta) : PE X (.UnaryOp op a pos) (tUn r ta) := by
 intro pins s σ H Q I h
 exact UnaryOp_ (thn (ha pins s σ H _ I h) fun v s1 ⟨x, H1, I1, r1, q1⟩ => ho pins s1 σ H1 x v Q I1 r1 q1)
theorem opI {f : Value → Value → Sem Value} {C : Int → Int → Prop} {g : Int → Int → Int}
   (rule : ∀ (i j : Int) (t u : Tok) (s : Shared) (Q : Value → Shared → Prop) (E : Value → Shared → Prop), C i j → Q (.int (g i j) s.toks) { s with toks := s.toks + 1 } → wpAny (model X.prog X.w) X.A (f (.int i t) (.int j u)) Q E s) :
   OpR X f (rI C fun i j => .int (g i j)) := by
 intro pins s σ H x y v u Q I rx ry h
 obtain ⟨i, j, rfl, rfl, hc, q⟩ := h
 obtain ⟨t, rfl⟩ := rx
 obtain ⟨t', rfl⟩ := ry
 exact rule i j t t' s _ _ hc ⟨.int (g i j), H, I.tok _, ⟨_, rfl⟩, q⟩
theorem opI0 {f : Value → Value → Sem Value} {g : Int → Int → Int}
   (rule : ∀ (i j : Int) (t u : Tok) (s : Shared) (Q : Value → Shared → Prop) (E : Value → Shared → Prop), Q (.int (g i j) s.toks) { s with toks := s.toks + 1 } → wpAny (model X.prog X.w) X.A (f (.int i t) (.int j u)) Q E s) :
   OpR X f (rI0 fun i j => .int (g i j)) := by
 intro pins s σ H x y v u Q I rx ry h
 obtain ⟨i, j, rfl, rfl, q⟩ := h
 obtain ⟨t, rfl⟩ := rx
 obtain ⟨t', rfl⟩ := ry
 exact rule i j t t' s _ _ ⟨.int (g i j), H, I.tok _, ⟨_, rfl⟩, q⟩
theorem opB0 {f : Value → Value → Sem Value} {g : Int → Int → Bool}
   (rule : ∀ (i j : Int) (t u : Tok) (s : Shared) (Q : Value → Shared → Prop) (E : Value → Shared → Prop), Q (.bool (g i j)) s → wpAny (model X.prog X.w) X.A (f (.int i t) (.int j u)) Q E s) :
   OpR X f (rI0 fun i j => .bl (g i j)) := by
 intro pins s σ H x y v u Q I rx ry h
 obtain ⟨i, j, rfl, rfl, q⟩ := h
 obtain ⟨t, rfl⟩ := rx
 obtain ⟨t', rfl⟩ := ry
 exact rule i j t t' s _ _ ⟨.bl (g i j), H, I, rfl, q⟩
noncomputable def CDiv (i j : Int) : Prop := 0 < j ∧ j < 1073741824
noncomputable def CMul (i j : Int) : Prop := (-(2 ^ 64) < i ∧ i < 2 ^ 64) ∨ (-(2 ^ 64) < j ∧ j < 2 ^ 64)
theorem CMul.ok {i j : Int} (h : CMul i j) : IntMulOk i j := by
 rcases h with ⟨h1, h2⟩ | ⟨h1, h2⟩
 · exact .of_left (intBits_le_64 h1 h2)
 · exact .of_right (intBits_le_64 h1 h2)
theorem op_add : OpR X (binaryOp .Add) (rI0 fun i j => .int (i + j)) := opI0 fun _ _ _ _ _ _ _ q => add_int q
theorem op_sub : OpR X (binaryOp .Sub) (rI0 fun i j => .int (i - j)) := opI0 fun _ _ _ _ _ _ _ q => sub_int q
theorem op_fdiv : OpR X (binaryOp .FloorDiv) (rI CDiv fun i j => .int (i / j)) := opI fun i j _ _ _ _ _ hc q => by
 have h1 : (0 : Int) < j := hc.1
 have h2 : j < 1073741824 := hc.2
 exact floordiv_int (by omega) (by rw [Int.fdiv_eq_ediv_of_nonneg i (by omega)]; exact q) (.inl (PyProof.noPylong_small (by omega)))
theorem op_mod : OpR X (binaryOp .Mod) (rI (fun _ j => 0 < j) fun i j => .int (i % j)) := opI fun i j _ _ _ _ _ hc q => by
 have h1 : (0 : Int) < j := hc
 exact mod_int' (by omega) (by rw [Int.fmod_eq_emod_of_nonneg i (by omega)]; exact q)
theorem unI {f : Value → Sem Value} {g : Int → Int}
   (rule : ∀ (i : Int) (t : Tok) (s : Shared) (Q : Value → Shared → Prop) (E : Value → Shared → Prop), Q (.int (g i) s.toks) { s with toks := s.toks + 1 } → wpAny (model X.prog X.w) X.A (f (.int i t)) Q E s) :
   UnR X f (rU fun i => .int (g i)) := by
 intro pins s σ H x v Q I rx h
 obtain ⟨i, rfl, q⟩ := h
 obtain ⟨t, rfl⟩ := rx
 exact rule i t s _ _ ⟨.int (g i), H, I.tok _, ⟨_, rfl⟩, q⟩
theorem un_neg : UnR X (unaryOp .USub) (rU fun i => .int (-i)) := unI fun _ _ _ _ _ q => neg_int q
end
noncomputable def scal : V → V → Bool
 | .non, .non => true | .non, .int _ => true | .int _, .non => true | .non, .bl _ => true | .bl _, .non => true | .non, .str _ => true | .str _, .non => true
 | .int _, .int _ => true | .bl _, .bl _ => true | .str _, .str _ => true | .byt _, .byt _ => true
 | .int _, .str _ => true | .str _, .int _ => true | .bl _, .str _ => true | .str _, .bl _ => true
 | _, _ => false
noncomputable def rEq : R2 := fun x y H Q => scal x y = true ∧ Q (.bl (decide (x = y))) H
noncomputable def rNe : R2 := fun x y H Q => scal x y = true ∧ Q (.bl (!decide (x = y))) H
theorem dec_int {i j : Int} : decide (V.int i = V.int j) = (i == j) := by
 rw [Bool.eq_iff_iff]
 simp
theorem dec_bl {i j : Bool} : decide (V.bl i = V.bl j) = (i == j) := by
 rw [Bool.eq_iff_iff]
 simp
theorem dec_str {i j : Str} : decide (V.str i = V.str j) = (i == j) := by
 rw [Bool.eq_iff_iff]
 simp
theorem dec_byt {i j : Array UInt8} : decide (V.byt i = V.byt j) = (i.toList == j.toList) := by
 rw [Bool.eq_iff_iff]
 cases i
 cases j
 simp
section
variable {X : Cx} {a b c : Expr} {ta tb tc : TE} {pos : Pos}
theorem fin_bl {pins : List (Addr × Obj)} {σ : St} {H : Hp} {s : Shared} {Q : VK} {k k' : Bool} (I : Inv X pins σ H s) (q : Q (.bl k) H) (e : k = k') : EP X pins σ Q (.bool k') s := by
 subst e
 exact ⟨.bl k, H, I, rfl, q⟩
theorem op_eq : OpR X (compareOp .Eq) rEq := by
 intro pins s σ H x y v u Q I rx ry h
 obtain ⟨hs, q⟩ := h
 cases x with
 | non =>
   cases rx
   cases y with
   | non => cases ry; exact PySem.EqNone.eq_none_none (fin_bl I q (by simp))
   | bl j => cases ry; exact PySem.EqNone.eq_none_bool (fin_bl I q (by simp))
   | int j => obtain ⟨t', rfl⟩ := ry; exact PySem.EqNone.eq_none_int (fin_bl I q (by simp))
   | str j => obtain ⟨t', rfl⟩ := ry; exact PySem.EqNone.eq_none_str (fin_bl I q (by simp))
   | _ => exact absurd (show false = true from hs) Bool.false_ne_true
 | bl i =>
   cases rx
   cases y with
   | non => cases ry; exact PySem.EqNone.eq_bool_none (fin_bl I q (by simp))
   | bl j => cases ry; exact eq_bool (fin_bl I q dec_bl)
   | str j => obtain ⟨t', rfl⟩ := ry; exact PySem.EqMixed.eq_bool_str (fin_bl I q (by simp))
   | _ => exact absurd (show false = true from hs) Bool.false_ne_true
 | int i =>
   obtain ⟨t, rfl⟩ := rx
   cases y with
   | non => cases ry; exact PySem.EqNone.eq_int_none (fin_bl I q (by simp))
   | int j => obtain ⟨t', rfl⟩ := ry; exact eq_int (fin_bl I q dec_int)
   | str j => obtain ⟨t', rfl⟩ := ry; exact PySem.EqMixed.eq_int_str (fin_bl I q (by simp))
   | _ => exact absurd (show false = true from hs) Bool.false_ne_true
 | str i =>
   obtain ⟨t, rfl⟩ := rx
   cases y with
   | non => cases ry; exact PySem.EqNone.eq_str_none (fin_bl I q (by simp))
   | bl j => cases ry; exact PySem.EqMixed.eq_str_bool (fin_bl I q (by simp))
   | int j => obtain ⟨t', rfl⟩ := ry; exact PySem.EqMixed.eq_str_int (fin_bl I q (by simp))
   | str j => obtain ⟨t', rfl⟩ := ry; exact eq_str (fin_bl I q dec_str)
   | _ => exact absurd (show false = true from hs) Bool.false_ne_true
 | byt i =>
   obtain ⟨t, rfl⟩ := rx
   cases y with
   | byt j => obtain ⟨t', rfl⟩ := ry; exact PySem.W.eq_bytes (fin_bl I q dec_byt)
   | _ => exact absurd (show false = true from hs) Bool.false_ne_true
 | _ => cases y <;> exact absurd (show false = true from hs) Bool.false_ne_true
theorem op_ne : OpR X (compareOp .NotEq) rNe := by
 intro pins s σ H x y v u Q I rx ry h
 obtain ⟨hs, q⟩ := h
 cases x with
 | non =>
   cases rx
   cases y with
   | non => cases ry; exact PySem.EqNone.ne_none_none (fin_bl I q (by simp))
   | bl j => cases ry; exact PySem.EqNone.ne_none_bool (fin_bl I q (by simp))
   | int j => obtain ⟨t', rfl⟩ := ry; exact PySem.EqNone.ne_none_int (fin_bl I q (by simp))
   | str j => obtain ⟨t', rfl⟩ := ry; exact PySem.EqNone.ne_none_str (fin_bl I q (by simp))
   | _ => exact absurd (show false = true from hs) Bool.false_ne_true
 | bl i =>
   cases rx
   cases y with
   | non => cases ry; exact PySem.EqNone.ne_bool_none (fin_bl I q (by simp))
   | bl j => cases ry; exact ne_bool (fin_bl I q (congrArg not dec_bl))
   | str j => obtain ⟨t', rfl⟩ := ry; exact PySem.EqMixed.ne_bool_str (fin_bl I q (by simp))
   | _ => exact absurd (show false = true from hs) Bool.false_ne_true
 | int i =>
   obtain ⟨t, rfl⟩ := rx
   cases y with
   | non => cases ry; exact PySem.EqNone.ne_int_none (fin_bl I q (by simp))
   | int j => obtain ⟨t', rfl⟩ := ry; exact ne_int (fin_bl I q (congrArg not dec_int))
   | str j => obtain ⟨t', rfl⟩ := ry; exact PySem.EqMixed.ne_int_str (fin_bl I q (by simp))
   | _ => exact absurd (show false = true from hs) Bool.false_ne_true
 | str i =>
   obtain ⟨t, rfl⟩ := rx
   cases y with
   | non => cases ry; exact PySem.EqNone.ne_str_none (fin_bl I q (by simp))
   | bl j => cases ry; exact PySem.EqMixed.ne_str_bool (fin_bl I q (by simp))
   | int j => obtain ⟨t', rfl⟩ := ry; exact PySem.EqMixed.ne_str_int (fin_bl I q (by simp))
   | str j => obtain ⟨t', rfl⟩ := ry; exact ne_str (fin_bl I q (congrArg not dec_str))
   | _ => exact absurd (show false = true from hs) Bool.false_ne_true
 | byt i =>
   obtain ⟨t, rfl⟩ := rx
   cases y with
   | byt j => obtain ⟨t', rfl⟩ := ry; exact PySem.W.ne_bytes (fin_bl I q (congrArg not dec_byt))
   | _ => exact absurd (show false = true from hs) Bool.false_ne_true
 | _ => cases y <;> exact absurd (show false = true from hs) Bool.false_ne_true
theorem op_lt : OpR X (compareOp .Lt) (rI0 fun i j => .bl (decide (i < j))) := opB0 fun _ _ _ _ _ _ _ q => lt_int q
theorem op_le : OpR X (compareOp .LtE) (rI0 fun i j => .bl (decide (i ≤ j))) := opB0 fun _ _ _ _ _ _ _ q => le_int q
theorem op_gt : OpR X (compareOp .Gt) (rI0 fun i j => .bl (decide (j < i))) := opB0 fun _ _ _ _ _ _ _ q => gt_int q
theorem op_ge : OpR X (compareOp .GtE) (rI0 fun i j => .bl (decide (j ≤ i))) := opB0 fun _ _ _ _ _ _ _ q => ge_int q
theorem op_isN : OpR X (compareOp .Is) (fun x y H Q => y = .non ∧ Q (.bl (decide (x = .non))) H) := by
 intro pins s σ H x y v u Q I rx ry h
 obtain ⟨rfl, q⟩ := h
 cases ry
 refine is_none_gen (fin_bl I q ?_)
 cases x <;> first
   | (cases rx; rfl)
   | (obtain ⟨t, rfl⟩ := rx; rfl)
theorem op_notN : OpR X (compareOp .IsNot) (fun x y H Q => y = .non ∧ Q (.bl (!decide (x = .non))) H) := by
 intro pins s σ H x y v u Q I rx ry h
 obtain ⟨rfl, q⟩ := h
 cases ry
 refine isnot_none_gen (fin_bl I q ?_)
 cases x <;> first
   | (cases rx; rfl)
   | (obtain ⟨t, rfl⟩ := rx; rfl)
theorem nomark (b : Expr) {op : CmpOp} (h : op ≠ .In := by decide) (h2 : op ≠ .NotIn := by decide) : behindInMarks op b = false := by
 have e1 : (op == CmpOp.In) = false := by cases op <;> first | rfl | exact absurd rfl h
 have e2 : (op == CmpOp.NotIn) = false := by cases op <;> first | rfl | exact absurd rfl h2
 cases b <;> simp [behindInMarks, e1, e2]
theorem pe_cmpR {op : CmpOp} {r : R2} (ho : OpR X (compareOp op) r) (ha : PE X a ta) (hb : PE X b tb) (hm : behindInMarks op b = false) : PE X (.Compare a [op] [b] pos) (tOp r ta tb) := by
 intro pins s σ H Q I h
 exact wpAny_Compare1 (binT ha hb I h fun v u s2 x y H2 I2 rx ry q => ho pins s2 σ H2 x y v u Q I2 rx ry q) hm
noncomputable def tTest (t : TE) : TT := fun σ H Q => t σ H fun x H' => ∃ k, x = .bl k ∧ Q k H'
theorem pt_cmpR {op : CmpOp} {r : R2} (ho : OpR X (compareOp op) r) (ha : PE X a ta) (hb : PE X b tb) (hm : behindInMarks op b = false) : PT X (.Compare a [op] [b] pos) (tTest (tOp r ta tb)) := by
 intro pins s σ H Q I h
 refine wpAny_isTrue_Compare1 (thn (ha pins s σ H _ I h) fun v s1 ⟨x, H1, I1, r1, q1⟩ => thn (hb pins s1 σ H1 _ I1 q1) fun u s2 ⟨y, H2, I2, r2, q2⟩ =>
   thn (ho pins s2 σ H2 x y v u _ I2 r1 r2 q2) fun c s3 ⟨z, H3, I3, r3, k, e, q3⟩ => ?_) hm
 subst e
 cases r3
 exact wpAny_truthy_bool ⟨H3, I3, q3⟩
noncomputable def tChain (r r' : R2) (ta tb tc : TE) : TE := fun σ H Q => ta σ H fun x H1 => tb σ H1 fun y H2 => r x y H2 fun z H3 => ∃ k, z = .bl k ∧
 (if k = true then tc σ H3 fun w' H4 => r' y w' H4 Q else Q (.bl false) H3)
theorem pe_chain {op op' : CmpOp} {r r' : R2} (ho : OpR X (compareOp op) r) (ho' : OpR X (compareOp op') r') (ha : PE X a ta) (hb : PE X b tb) (hc : PE X c tc)
   (hm : lastMarks [op, op'] [b, c] = false := by with_unfolding_all rfl) : PE X (.Compare a [op, op'] [b, c] pos) (tChain r r' ta tb tc) := by
 intro pins s σ H Q I h
 refine Compare_chain (thn (ha pins s σ H _ I h) fun v s1 ⟨x, H1, I1, r1, q1⟩ => chain_link (thn (hb pins s1 σ H1 _ I1 q1) fun u s2 ⟨y, H2, I2, r2, q2⟩ =>
   thn (ho pins s2 σ H2 x y v u _ I2 r1 r2 q2) fun d s3 ⟨z, H3, I3, r3, k, e, q3⟩ => ?_)) hm
 subst e
 cases r3
 refine wpAny_truthy_bool ?_
 cases k with
 | false => exact ite_ff ⟨.bl false, H3, I3, rfl, q3⟩
 | true => exact ite_tt (chain_last (thn (hc pins s3 σ H3 _ I3 q3) fun w' s4 ⟨z', H4, I4, r4, q4⟩ => ho' pins s4 σ H4 y z' u w' Q I4 r2 r4 q4))
theorem line63 : (sizeLine : Nat) < 2 ^ 63 := by rw [sizeLine_eq]; decide
theorem vals1 {x : V} {us : List Value} (r : Vals [x] us) : ∃ u, us = [u] ∧ RelV x u := by
 cases r with
 | cons r1 r2 => cases r2; exact ⟨_, rfl, r1⟩
theorem vals2 {x y : V} {us : List Value} (r : Vals [x, y] us) : ∃ u w', us = [u, w'] ∧ RelV x u ∧ RelV y w' := by
 cases r with
 | cons r1 r2 =>
   cases r2 with
   | cons r3 r4 => cases r4; exact ⟨_, _, rfl, r1, r3⟩
theorem call_max2 (hc : X.calm = true) : CallR X (.builtin "max") (fun xs H Q => ∃ i j, xs = [.int i, .int j] ∧ Q (.int (if j > i then j else i)) H) := by
 intro pins s σ H xs us Q I r h
 obtain ⟨i, j, rfl, q⟩ := h
 obtain ⟨u, w', rfl, ⟨t, rfl⟩, ⟨t', rfl⟩⟩ := vals2 r
 refine max_two_ints (I.ok.hd hc) fun h' tk k => ⟨_, H, I.kept k, ?_, q⟩
 by_cases hj : j > i
 · rw [if_pos hj, if_pos hj]; exact ⟨_, rfl⟩
 · rw [if_neg hj, if_neg hj]; exact ⟨_, rfl⟩
theorem call_int1 : CallR X (.type "int") (fun xs H Q => (∃ i, xs = [.int i] ∧ Q (.int i) H) ∨ ∃ k, xs = [.bl k] ∧ Q (.int (if k then 1 else 0)) H) := by
 intro pins s σ H xs us Q I r h
 rcases h with ⟨i, rfl, q⟩ | ⟨k, rfl, q⟩
 · obtain ⟨u, rfl, t, rfl⟩ := vals1 r
   exact call_int_int ⟨.int i, H, I, ⟨_, rfl⟩, q⟩
 · obtain ⟨u, rfl, r1⟩ := vals1 r
   cases r1
   exact call_int_bool ⟨.int (if k then 1 else 0), H, I.tok _, ⟨_, rfl⟩, q⟩
end
end L2
namespace L2
open PySem PySem.Spec PyProof.Rows
structure ObjM (h : Heap) (x dx C : Addr) (mA : Str → Option Value) : Prop where
 obj : h.get? x = some (PySem.W.instObj C dx)
 ns : h.Ns1 dx mA
 ne : dx ≠ x
theorem lookIn_ns {h : Heap} {dx : Addr} {mA : Str → Option Value} (n : h.Ns1 dx mA) : ∃ od, h.get? dx = some od ∧ ∀ name, PySem.W.lookIn name od = some (mA name) := by
 obtain ⟨o, es, ep, ho, hd, hk, _, hm⟩ := n
 refine ⟨o, ho, fun name => ?_⟩
 have e := hm name
 unfold nsFind findBy at e
 rw [← Array.find?_toList] at e
 unfold PySem.W.lookIn
 rw [hd]
 dsimp only
 split
 · rename_i y q
   rw [q] at e
   exact congrArg some e
 · rename_i q
   rw [q] at e
   have a : es.toList.any (·.refKey) = false := by
     rw [List.any_eq_false]
     intro y hy
     obtain ⟨z, t, hkey⟩ := hk y (Array.mem_toList_iff.mp hy)
     simp [DictEntry.refKey, hkey]
   have a' : ¬ es.toList.any (·.refKey) = true := by rw [a]; exact Bool.false_ne_true
   rw [if_neg a']
   exact congrArg some e
theorem ObjM.look {h : Heap} {x dx C : Addr} {mA : Str → Option Value} (I : ObjM h x dx C mA) : ∃ od, PySem.W.InstAt h x (PySem.W.instObj C dx) C (some od) ∧ ∀ name, PySem.W.lookIn name od = some (mA name) :=
 let ⟨od, ho, hl⟩ := lookIn_ns I.ns
 ⟨od, ⟨I.obj, rfl, rfl, ho⟩, hl⟩
section
variable {prog : Program} {w : World} {A : Around} {E : Value → Shared → Prop} {s : Shared} {K : PySem.W.Frag} {x dx C f : Addr} {mA : Str → Option Value} {name : Str} {v : Value}
theorem get_map {expr : Bool} {Q : Value → Shared → Prop} (X : K.In s.heap) (I : ObjM s.heap x dx C mA) (hg : PySem.W.plainGet K C name = true) (hh : PySem.W.hasDictIn K C = true)
   (ha : PySem.W.findIn K (.ref C) name = some none) (hv : mA name = some v) (hv' : PySem.W.handedIn v = true) (h : Q v { s with toks := s.toks + 1 }) :
   wpAny (model prog w) A (getAttr (.ref x) name expr) Q E s := by
 obtain ⟨od, J, hl⟩ := I.look
 exact PySem.W.get_value X J (PySem.W.plainGet_of hg).1 (PySem.W.findObj_own hh ha rfl (by rw [hl, hv])) hv' h
theorem get_meth {pl : Sem Bool} {Q : Value × List Value → Shared → Prop} (X : K.In s.heap) (I : ObjM s.heap x dx C mA) (hg : PySem.W.plainGet K C name = true)
   (hf : PySem.W.findIn K (.ref C) name = some (some (.ref f))) (ht : PySem.W.isFn K (.ref f) = true) (hv : mA name = none) (h : Q (.ref f, [.ref x]) s) :
   wpAny (model prog w) A (getMethod (.ref x) name pl) Q E s := by
 obtain ⟨od, J, hl⟩ := I.look
 exact PySem.W.method_fn X J (PySem.W.plainGet_of hg).1 (PySem.W.plainGet_of hg).2 hf (beq_iff_eq.mp ht) (by show (PySem.W.lookIn name od).map (·.isSome) = some false; rw [hl, hv]; rfl) h
theorem set_map {ns : List Str} {Q : Unit → Shared → Prop} (X : K.In s.heap) (I : ObjM s.heap x dx C mA)
   (hs : PySem.W.findIn K (.ref C) "__setattr__" = some (some (.builtin "object.__setattr__"))) (hp : PySem.W.plainOver K C = true) (ht : PySem.W.takerIn K C name = some none) (hh : PySem.W.hasDictIn K C = true)
   (hw : PySem.Within mA ns) (hsz : ns.length ≤ sizeLine)
   (h : ∀ h', ObjM h' x dx C (fun y => if y = name then some v else mA y) → Heap.SameBut dx s.heap h' → Q () { s with heap := h', toks := s.toks + 2 }) :
   wpAny (model prog w) A (setAttr (.ref x) name v) Q E s := by
 obtain ⟨od, J, hl⟩ := I.look
 refine PySem.W.set_plain X J hs (PySem.W.osa_open (s := { s with toks := s.toks + 1 }) (r := none) X J hp ht fun b => ?_)
 obtain ⟨cd, hc, hd'⟩ := PySem.W.any_some hh
 have hx : s.heap.get? x = some ⟨.ref C, some dx, .plain, #[]⟩ := I.obj
 refine wpAny_bind (wpAny_pure (wpAny_bind (wpAny_bind (wpAny_loadPart hx (wpAny_bind (PySem.W.Looks.here (s := { s with toks := s.toks + 1 }) (PySem.W.looks_clsIn X hc) ?_))))))
 rw [hd']
 refine wpAny_pure (a := some dx) (wpAny_bind (wpAny_pure (wpAny_bind ?_)))
 refine wpAny_nsSet1 (s := { s with toks := s.toks + 1 }) I.ns fun h' hn2 hs2 => ?_
 obtain ⟨oD, esD, epD, hoD, hdD, hcD⟩ := hn2.count (PySem.Within.cons name v hw)
 refine wpAny_bind (wpAny_lookBehind hoD (by rw [hdD]; exact pastItsLine_dict (Nat.le_trans hcD (by rw [List.length_cons]; omega))) ?_)
 exact wpAny_pure (h _ ⟨(hs2.2 _ (Ne.symm I.ne)).trans I.obj, hn2, I.ne⟩ hs2)
theorem make_map {R : Result → Shared → Prop} {vs : List Value} {kw : List (Str × Value)} (X : K.In s.heap) (hm : PySem.W.makesIn K C = true)
   (hi : PySem.W.findIn K (.ref C) "__init__" = some (some (.ref f))) (hf : PySem.W.typeIn K (.ref f) = some (.type "function"))
   (h : codeAny (model prog w) (A.under (.builtin "type.__call__" ⟨.ref C :: vs, kw⟩)) (.call (.ref f) ⟨.ref (s.heap.objs.size + 1) :: vs, kw⟩) (PySem.W.InitBack (s.heap.objs.size + 1) R)
     { s with heap := (s.heap.push PySem.W.emptyDict).push (PySem.W.instObj C s.heap.objs.size) }) :
   codeAny (model prog w) A (.call (.ref C) ⟨vs, kw⟩) R s := by
 obtain ⟨hh, g, d, t, os⟩ := s
 exact PySem.W.make_core (PySem.W.makes_of X hm) (PySem.W.looks_findIn X hi) (fun self => PySem.W.bind_fn X self hf) (.inl rfl) h
end
noncomputable def putF (f : Str) (v : V) : List (Str × V) → List (Str × V)
 | [] => [(f, v)]
 | (g, x) :: r => if g = f then (g, v) :: r else (g, x) :: putF f v r
theorem lookup_putF (f g : Str) (v : V) : ∀ fs : List (Str × V), (putF f v fs).lookup g = if g = f then some v else fs.lookup g
 | [] => by
   show List.lookup g [(f, v)] = _
   by_cases h : g = f
   · have hb : (g == f) = true := beq_iff_eq.mpr h
     simp only [List.lookup, hb, if_pos h]
   · have hb : (g == f) = false := beq_eq_false_iff_ne.mpr h
     simp only [List.lookup, hb, if_neg h]
 | (k, x) :: r => by
   have ih := lookup_putF f g v r
   rw [show putF f v ((k, x) :: r) = (if k = f then (k, v) :: r else (k, x) :: putF f v r) from rfl]
   by_cases hk : k = f
   · rw [if_pos hk]
     by_cases h : g = k
     · have hb : (g == k) = true := beq_iff_eq.mpr h
       simp only [List.lookup, hb, if_pos (h.trans hk)]
     · have hb : (g == k) = false := beq_eq_false_iff_ne.mpr h
       simp only [List.lookup, hb, if_neg (fun e : g = f => h (e.trans hk.symm))]
   · rw [if_neg hk]
     by_cases h : g = k
     · have hb : (g == k) = true := beq_iff_eq.mpr h
       simp only [List.lookup, hb, if_neg (fun e : g = f => hk (h.symm.trans e))]
     · have hb : (g == k) = false := beq_eq_false_iff_ne.mpr h
       simp only [List.lookup, hb]
       exact ih
theorem keys_putF (f : Str) (v : V) : ∀ fs : List (Str × V), f ∈ (putF f v fs).map (·.1) ∧ ∀ g, g ∈ fs.map (·.1) → g ∈ (putF f v fs).map (·.1)
 | [] => ⟨by simp [putF], fun g h => by simp at h⟩
 | (k, x) :: r => by
   obtain ⟨i1, i2⟩ := keys_putF f v r
   rw [show putF f v ((k, x) :: r) = (if k = f then (k, v) :: r else (k, x) :: putF f v r) from rfl]
   by_cases hk : k = f
   · rw [if_pos hk]
     subst hk
     exact ⟨by simp, fun g h => by simpa using h⟩
   · rw [if_neg hk]
     refine ⟨?_, fun g h => ?_⟩
     · rw [List.map_cons]
       exact List.mem_cons_of_mem _ i1
     · rw [List.map_cons] at h ⊢
       rcases List.mem_cons.mp h with e | e
       · exact List.mem_cons.mpr (.inl e)
       · exact List.mem_cons_of_mem _ (i2 g e)
theorem length_putF (f : Str) (v : V) : ∀ fs : List (Str × V), (putF f v fs).length ≤ fs.length + 1
 | [] => by simp [putF]
 | (k, x) :: r => by
   have ih := length_putF f v r
   rw [show putF f v ((k, x) :: r) = (if k = f then (k, v) :: r else (k, x) :: putF f v r) from rfl]
   by_cases hk : k = f
   · rw [if_pos hk, List.length_cons, List.length_cons]; omega
   · rw [if_neg hk, List.length_cons, List.length_cons]; omega
theorem RelO.some_of {v : V} {o : Option Value} (r : RelO (some v) o) : ∃ u, o = some u ∧ RelV v u := by
 cases o with
 | none => exact (show False from r).elim
 | some u => exact ⟨u, rfl, r⟩
theorem RelO.none_of {o : Option Value} (r : RelO none o) : o = none := by
 cases o with
 | none => rfl
 | some u => exact (show False from r).elim
theorem handed_of {v : V} {u : Value} (r : RelV v u) : PySem.W.handedIn u = true := by
 cases v with
 | non => cases (show u = Value.none from r); rfl
 | bl b => cases (show u = Value.bool b from r); rfl
 | int i => obtain ⟨t, e⟩ := (show ∃ t, u = Value.int i t from r); cases e; rfl
 | str x => obtain ⟨t, e⟩ := (show ∃ t, u = Value.str x t from r); cases e; rfl
 | byt b => obtain ⟨t, e⟩ := (show ∃ t, u = Value.bytes b t from r); cases e; rfl
 | flt b => obtain ⟨t, e⟩ := (show ∃ t, u = Value.float b t from r); cases e; rfl
 | ref a => cases (show u = Value.ref a from r); rfl
 | ty n => cases (show u = Value.type n from r); rfl
section
variable {P : Program} {w : World} {H H' : Hp} {h h' : Heap} {a C dx : Addr} {fs fs' : List (Str × V)}
theorem ins_get (hok : HOk P w H h) (e : H a = some (.ins C dx fs)) : ∃ mA, ObjM h a dx C mA ∧ (∀ f, RelO (fs.lookup f) (mA f)) ∧ PySem.Within mA (fs.map (·.1)) ∧ fs.length ≤ 1000 ∧ H dx = some (.own a) := by
 obtain ⟨d, z, ne, ob, mA, n, r, q⟩ := (show ObjOk P w H h a (.ins C dx fs) from hok a _ e)
 exact ⟨mA, ⟨ob, n, ne⟩, r, q, z, d⟩
end
structure Cls (K : PySem.W.Frag) (C : Addr) : Prop where
 pg : PySem.W.plainGet K C Str.empty = true
 hd : PySem.W.hasDictIn K C = true
 po : PySem.W.plainOver K C = true
 sa : PySem.W.findIn K (.ref C) "__setattr__" = some (some (.builtin "object.__setattr__"))
theorem Cls.get {K : PySem.W.Frag} {C : Addr} (c : Cls K C) (f : Str) : PySem.W.plainGet K C f = true := c.pg
noncomputable def NoAttr (K : PySem.W.Frag) (C : Addr) (f : Str) : Prop := PySem.W.findIn K (.ref C) f = some none
theorem NoAttr.taker {K : PySem.W.Frag} {C : Addr} {f : Str} (n : NoAttr K C f) : PySem.W.takerIn K C f = some none := by
 unfold PySem.W.takerIn
 rw [show PySem.W.findIn K (.ref C) f = some none from n]
 rfl
structure Meth (K : PySem.W.Frag) (C : Addr) (m : Str) (f : Addr) : Prop where
 at_ : PySem.W.findIn K (.ref C) m = some (some (.ref f))
 fn : PySem.W.isFn K (.ref f) = true
 kp : PySem.W.keepIn K (.ref f) = true
section
variable {X : Cx} {pins : List (Addr × Obj)} {σ : St} {H : Hp} {s : Shared} {a C dx : Addr} {fs : List (Str × V)} {f : Str} {v : V} {A : Around} {E : Value → Shared → Prop}
theorem getattr_ok {b : Bool} {Q : Value → Shared → Prop} (I : Inv X pins σ H s) (e : H a = some (.ins C dx fs)) (c : Cls X.K C) (n : NoAttr X.K C f) (l : fs.lookup f = some v)
   (h : ∀ u s', Inv X pins σ H s' → RelV v u → Q u s') : wpAny (model X.prog X.w) A (getAttr (.ref a) f b) Q E s := by
 obtain ⟨mA, O, r, _, _, _⟩ := ins_get I.hok e
 obtain ⟨u, hu, ru⟩ := RelO.some_of (v := v) (o := mA f) (by rw [← l]; exact r f)
 exact get_map I.kIn O (c.get f) c.hd n hu (handed_of ru) (h u _ (I.tok _) ru)
theorem getmeth_ok {m : Str} {g : Addr} {pl : Sem Bool} {Q : Value × List Value → Shared → Prop} (I : Inv X pins σ H s) (e : H a = some (.ins C dx fs)) (c : Cls X.K C) (k : Meth X.K C m g) (l : fs.lookup m = none)
   (h : Q (.ref g, [.ref a]) s) : wpAny (model X.prog X.w) A (getMethod (.ref a) m pl) Q E s := by
 obtain ⟨mA, O, r, _, _, _⟩ := ins_get I.hok e
 have hn : mA m = none := RelO.none_of (by rw [← l]; exact r m)
 exact get_meth I.kIn O (c.get m) k.at_ k.fn hn h
theorem setattr_ok {y : V} {u : Value} {Q : Unit → Shared → Prop} (I : Inv X pins σ H s) (e : H a = some (.ins C dx fs)) (c : Cls X.K C) (n : NoAttr X.K C f) (hl : fs.length < 1000) (ry : RelV y u)
   (h : ∀ s', Inv X pins σ (upd H a (.ins C dx (putF f y fs))) s' → Q () s') : wpAny (model X.prog X.w) A (setAttr (.ref a) f u) Q E s := by
 obtain ⟨mA, O, r, wi, _, ho⟩ := ins_get I.hok e
 have hz : (fs.map (·.1)).length ≤ sizeLine := by rw [List.length_map, sizeLine_eq]; omega
 refine set_map I.kIn O c.sa c.po n.taker c.hd wi hz fun h' O' sb => h _ ?_
 have hd : ∃ o, h'.get? dx = some o := let ⟨o, _, _, e', _⟩ := O'.ns; ⟨o, e'⟩
 refine I.write (x := a) (e := dx) (by rw [e]; exact True.intro) (.inr ho) (fun b q hb z => (sb.2 b hb).trans z) hd ?_
 refine ⟨by rw [upd_ne O.ne]; exact ho, ?_, O.ne, O'.obj, _, O'.ns, fun g => ?_, fun g hg => ?_⟩
 · have := length_putF f y fs; omega
 · show RelO ((putF f y fs).lookup g) (if g = f then some u else mA g)
   rw [lookup_putF]
   by_cases q : g = f
   · rw [if_pos q, if_pos q]; exact ry
   · rw [if_neg q, if_neg q]; exact r g
 · by_cases q : g = f
   · rw [q]; exact (keys_putF f y fs).1
   · refine (keys_putF f y fs).2 g (wi g fun z => hg ?_)
     show (if g = f then some u else mA g) = none
     rw [if_neg q]; exact z
theorem Inv.made (I : Inv X pins σ H s) : Inv X pins σ (upd (upd H s.heap.objs.size (.own (s.heap.objs.size + 1))) (s.heap.objs.size + 1) (.ins C s.heap.objs.size []))
   { s with heap := (s.heap.push PySem.W.emptyDict).push (PySem.W.instObj C s.heap.objs.size) } := by
 have e1 : (s.heap.push PySem.W.emptyDict).get? s.heap.objs.size = some PySem.W.emptyDict := Heap.get?_push_size s.heap rfl
 have e2 : ((s.heap.push PySem.W.emptyDict).push (PySem.W.instObj C s.heap.objs.size)).get? (s.heap.objs.size + 1) = some (PySem.W.instObj C s.heap.objs.size) := by
   have := Heap.get?_push_size (s.heap.push PySem.W.emptyDict) (o := PySem.W.instObj C s.heap.objs.size) rfl
   rwa [Heap.size_push] at this
 have e3 : (s.heap.push PySem.W.emptyDict).Ns s.heap.objs.size (fun _ => none) := ⟨PySem.W.emptyDict, #[], _, e1, rfl, (fun e he => absurd he (by simp)), fun _ => rfl⟩
 have I1 := I.laid (a := s.heap.objs.size) (o := .own (s.heap.objs.size + 1)) (h' := s.heap.push PySem.W.emptyDict) (t' := s.toks) (fun b u q => Heap.get?_push_of_some _ q) (Nat.le_refl _) ⟨_, e1⟩
 refine I1.laid (a := s.heap.objs.size + 1) (o := .ins C s.heap.objs.size []) (t' := s.toks) (fun b u q => Heap.get?_push_of_some _ q) (Nat.le_of_eq (Heap.size_push _ _)) ?_
 have ne : s.heap.objs.size ≠ s.heap.objs.size + 1 := Nat.ne_of_lt (Nat.lt_succ_self _)
 refine ⟨by rw [upd_ne ne, upd_same], Nat.zero_le _, ne, e2, fun _ => none, (Heap.Ns1.of_empty e3).at fun o q => Heap.get?_push_of_some _ q, fun _ => True.intro, fun y hy => absurd rfl hy⟩
theorem attr_of {prog : Program} {w : World} {env : Env} {e : Expr} {f : Str} {pos : Pos} {s : Shared} {Q : Value → Shared → Prop} (hb : attributeBase e f env (eval e env) = eval e env)
   (h : wpAny (model prog w) A (eval e env) (fun o s₁ => wpAny (model prog w) A (getAttr o f true) Q E s₁) E s) : wpAny (model prog w) A (eval (.Attribute e f pos) env) Q E s :=
 Attribute_any_ h (by rw [arm_eval_Attribute, hb])
end
noncomputable def tFld (K : PySem.W.Frag) (ta : TE) (f : Str) : TE := fun σ H Q => ta σ H fun x H1 => ∃ a C dx fs v, x = .ref a ∧ H1 a = some (.ins C dx fs) ∧ Cls K C ∧ NoAttr K C f ∧ fs.lookup f = some v ∧ Q v H1
noncomputable def sFld (K : PySem.W.Frag) (ta tv : TE) (f : Str) : TS := fun D σ H => tv σ H fun y H1 => ta σ H1 fun x H2 => ∃ a C dx fs, x = .ref a ∧ H2 a = some (.ins C dx fs) ∧ Cls K C ∧ NoAttr K C f ∧ fs.length < 1000 ∧
 D.nx σ (upd H2 a (.ins C dx (putF f y fs)))
section
variable {X : Cx} {o e value : Expr} {f : Str} {pos pos' tpos : Pos} {ta tv : TE}
theorem pe_fld (he : PE X e ta) (hb : attributeBase e f X.env (eval e X.env) = eval e X.env) : PE X (.Attribute e f pos) (tFld X.K ta f) := by
 intro pins s σ H Q I h
 refine attr_of hb (thn (he pins s σ H _ I h) fun u s1 ⟨x, H1, I1, rx, a, C, dx, fs, v, ex, ea, c, n, l, q⟩ => ?_)
 subst ex
 obtain rfl : u = Value.ref a := rx
 exact getattr_ok I1 ea c n l fun u' s2 I2 ru => ⟨v, H1, I2, ru, q⟩
theorem ps_fld (ha : PE X o ta) (hv : PE X value tv) (hs : swapsWith value (some (.Attribute o f pos')) pos.line X.env = pure false) : PS X (.Assign [.Attribute o f pos'] value pos) (sFld X.K ta tv f) := by
 intro pins s σ H D I h
 refine plainObj_wpAny_Assign_Attribute (thn (hv pins s σ H _ I h) fun u s1 ⟨y, H1, I1, ry, q⟩ => thn (ha pins s1 σ H1 _ I1 q) fun ov s2 ⟨x, H2, I2, rx, a, C, dx, fs, ex, ea, c, n, l, q2⟩ => ?_) hs
 subst ex
 obtain rfl : ov = Value.ref a := rx
 exact setattr_ok I2 ea c n l ry fun s3 I3 => ⟨σ, _, I3, q2⟩
theorem methcall_of {pl : Sem Bool} {m : Str} {apos : Pos} {args : List Expr} {pins : List (Addr × Obj)} {s : Shared} {σ : St} {H : Hp} {Q : Value → Shared → Prop} {te : TE} (he : PE X e te) (I : Inv X pins σ H s)
   (h : te σ H fun x H1 => ∃ a C dx fs g, x = .ref a ∧ H1 a = some (.ins C dx fs) ∧ Cls X.K C ∧ Meth X.K C m g ∧ fs.lookup m = none ∧
     ∀ s1, Inv X pins σ H1 s1 → wpAny (model X.prog X.w) X.A (callWith pos (.ref g) [.ref a] (backTo pos (starEach args X.env)) (backToKw pos (keywordEach [] X.env))) Q X.xe s1)
   (ht : eval (.Call (.Attribute e m apos) args [] pos) X.env = (do
     let ov ← eval e X.env
     standAt apos.atName
     let (f, first) ← holding [ov] (getMethod ov m pl)
     callWith pos f first (backTo pos (starEach args X.env)) (backToKw pos (keywordEach [] X.env)))) :
   wpAny (model X.prog X.w) X.A (eval (.Call (.Attribute e m apos) args [] pos) X.env) Q X.xe s := by
 refine PySem.W.methodCall_KW (pl := pl) (thn (he pins s σ H _ I h) fun u s1 ⟨x, H1, I1, rx, a, C, dx, fs, g, ex, ea, c, k, l, q⟩ => ?_) ht
 subst ex
 obtain rfl : u = Value.ref a := rx
 exact getmeth_ok I1 ea c k l (q s1 I1)
end
section
variable {X : Cx} {pins : List (Addr × Obj)} {σ : St} {H : Hp} {s : Shared} {A : Around} {E : Value → Shared → Prop} {Q : Value → Shared → Prop} {c : Value} {b : Bool}
end
end L2
namespace L2
open PySem PySem.Spec PyProof.Rows
structure Room (k : Nat) (A : Around) : Prop where
 hd : A.handled = none
 dp : A.depth + 3 * k + 5 < recursionLimit
 un : A.units + 16 * k + 200 < cLine
 gd : A.guards = some []
theorem Room.mono {j k : Nat} {A : Around} (r : Room k A) (h : j ≤ k) : Room j A := ⟨r.hd, by have := r.dp; omega, by have := r.un; omega, r.gd⟩
theorem Room.deeper {k : Nat} {A : Around} (r : Room (k + 1) A) (env : Env) : Room k (A.deeper env) :=
 ⟨r.hd, by have := r.dp; show A.depth + 1 + 3 * k + 5 < _; omega, by have := r.un; show A.units + 3 + 16 * k + 200 < _; omega, r.gd⟩
theorem make_depth {A : Around} {C : Addr} {us : List Value} {kw : List (Str × Value)} : (A.under (.builtin "type.__call__" ⟨.ref C :: us, kw⟩)).depth = A.depth + 1 := by
 first | rfl | simp [Around.under, Code.weight, Code.isCreation, Code.isGuard, Code.isCaller, Code.frames, Code.isFrame, guardIds]
theorem make_guards {A : Around} {C : Addr} {us : List Value} {kw : List (Str × Value)} : (A.under (.builtin "type.__call__" ⟨.ref C :: us, kw⟩)).guards = A.guards := by
 first | rfl | simp [Around.under, Code.weight, Code.isCreation, Code.isGuard, Code.isCaller, Code.frames, Code.isFrame, guardIds]
theorem make_units {A : Around} {C : Addr} {us : List Value} {kw : List (Str × Value)} : (A.under (.builtin "type.__call__" ⟨.ref C :: us, kw⟩)).units = A.units + 1 := by
 first | rfl | simp [Around.under, Code.cUnits, Code.frames, Code.isFrame]
theorem Room.make {k : Nat} {A : Around} (r : Room (k + 1) A) (C : Addr) (us : List Value) (kw : List (Str × Value)) : Room k (A.under (.builtin "type.__call__" ⟨.ref C :: us, kw⟩)) :=
 ⟨r.hd, by have := r.dp; rw [make_depth]; omega, by have := r.un; rw [make_units]; omega, by rw [make_guards]; exact r.gd⟩
theorem Room.depth {k : Nat} {A : Around} (r : Room k A) : A.depth < recursionLimit := by have := r.dp; omega
theorem Room.units {k : Nat} {A : Around} (r : Room k A) : A.units + 64 < cLine := by have := r.un; omega
noncomputable def tNil : TA := fun _ H Q => Q [] H
noncomputable def tCons (ta : TE) (tr : TA) : TA := fun σ H Q => ta σ H fun x H1 => tr σ H1 fun xs H2 => Q (x :: xs) H2
section
variable {X : Cx} {e : Expr} {es : List Expr} {te : TE} {t : TA} {pos : Pos}
theorem pa_nil : PA X [] tNil := fun _ _ _ _ H Q I h => Calls.spliced_nil ⟨[], H, I, .nil, h⟩
theorem pa_cons (ha : PE X e te) (hr : PA X es t) (hs : starEach (e :: es) X.env = (false, eval e X.env) :: starEach es X.env := by rfl) : PA X (e :: es) (tCons te t) := by
 intro pos pins s σ H Q I h
 rw [hs]
 show wpAny _ _ (spliced ((false, eval e X.env) :: backTo pos (starEach es X.env))) _ _ s
 refine Calls.spliced_cons (thn (ha pins s σ H _ I h) fun u s1 ⟨x, H1, I1, r1, q1⟩ => ?_)
 exact thn (hr pos pins s1 σ H1 _ I1 q1) fun us s2 ⟨xs, H2, I2, r2, q2⟩ => ⟨x :: xs, H2, I2, .cons r1 r2, q2⟩
noncomputable def tTup (t : TA) : TE := fun σ H Q => t σ H fun xs H1 => xs.length ≤ sizeLine ∧ ∀ p, H1 p = none → Q (.ref p) (upd H1 p (.tup xs))
noncomputable def tLst (t : TA) : TE := fun σ H Q => t σ H fun xs H1 => xs.length ≤ sizeLine ∧ ∀ p, H1 p = none → Q (.ref p) (upd H1 p (.lst xs))
theorem pe_tup {x1} (h : PA X es t) : PE X (.Tuple es x1 pos) (tTup t) := by
 intro pins s σ H Q I hq
 refine wpAny_Tuple_spliced (thn (h pos pins s σ H _ I hq) fun us s1 ⟨xs, H1, I1, r, z, q⟩ => ⟨by rw [← r.length]; exact z, ?_⟩)
 have hf : H1 s1.heap.objs.size = none := I1.hok.fresh (Nat.le_refl _)
 refine ⟨.ref s1.heap.objs.size, upd H1 s1.heap.objs.size (.tup xs), I1.laid (t' := s1.toks) (fun b u e => Heap.get?_push_of_some _ e) (Nat.le_refl _) ?_, rfl, q _ hf⟩
 exact ⟨z, us, r, ⟨_, Heap.get?_push_size _ rfl, rfl, rfl, _, rfl⟩⟩
theorem pe_lst (h : PA X es t) : PE X (.List es pos) (tLst t) := by
 intro pins s σ H Q I hq
 refine wpAny_List_spliced (thn (h pos pins s σ H _ I hq) fun us s1 ⟨xs, H1, I1, r, z, q⟩ => ⟨by rw [← r.length]; exact z, ?_⟩)
 have hf : H1 s1.heap.objs.size = none := I1.hok.fresh (Nat.le_refl _)
 refine ⟨.ref s1.heap.objs.size, upd H1 s1.heap.objs.size (.lst xs), I1.laid (t' := s1.toks) (fun b u e => Heap.get?_push_of_some _ e) (Nat.le_refl _) ?_, rfl, q _ hf⟩
 exact ⟨z, us, 0, r, Heap.get?_push_size _ rfl⟩
end
noncomputable abbrev Sp := List V → Hp → VK → XK → Prop
noncomputable abbrev CXT := List Env → Hp → Shared → XK → Value → Shared → Prop
structure Env0 (P : Program) (w : World) (K : PySem.W.Frag) (mg : Str → Option Value) (base : Heap) (A : Around) (outer : List Env) (s : Shared) (H : Hp) : Prop where
 frames : A.frames = some outer
 mod : Mod K mg base
 bs : ∀ b o, base.get? b = some o → s.heap.get? b = some o ∧ H b = none
 bsz : base.objs.size ≤ s.heap.objs.size
 funs : s.heap.FunFrames base outer
 frf : ∀ b ∈ frs outer, H b = none
 hok : HOk P w H s.heap
 bare : AllBare s.gens
noncomputable def CE (outer : List Env) (P : Program) (w : World) (H : Hp) (s : Shared) (Q : VK) (u : Value) (s' : Shared) : Prop :=
 ∃ v H', s'.os = s.os ∧ AllBare s'.gens ∧ Un (frs outer) [] H H' s.heap s'.heap ∧ HOk P w H' s'.heap ∧ RelV v u ∧ Q v H'
noncomputable def CR (CX : CXT) (outer : List Env) (P : Program) (w : World) (H : Hp) (s : Shared) (Q : VK) (E : XK) (r : Result) (s' : Shared) : Prop :=
 match r with
 | .ok (.ret u) => CE outer P w H s Q u s'
 | .ok _ => False
 | .error e => CX outer H s E e s'
structure FnOk (P : Program) (w : World) (K : PySem.W.Frag) (mg : Str → Option Value) (base : Heap) (CX : CXT) (k : Nat) (f : Addr) (fd : FuncData) (ps : List Str) (sp : Sp) : Prop where
 len : ∀ vs H Q E, sp vs H Q E → vs.length = ps.length
 run : ∀ (A : Around) (outer : List Env) (s : Shared) (H : Hp) (args : Args) (us : List Value) (vs : List V) (Q : VK) (E : XK), Room k A → Env0 P w K mg base A outer s H → BindsTo s fd args (ps.zip us) → Vals vs us → sp vs H Q E →
   codeAny (model P w) A (.call (.ref f) args) (CR CX outer P w H s Q E) s
theorem Env0.make {P : Program} {w : World} {K : PySem.W.Frag} {mg : Str → Option Value} {base : Heap} {A : Around} {outer : List Env} {s : Shared} {H : Hp} (e : Env0 P w K mg base A outer s H) (C : Addr) (us : List Value) (kw : List (Str × Value)) :
   Env0 P w K mg base (A.under (.builtin "type.__call__" ⟨.ref C :: us, kw⟩)) outer s H := ⟨by first | exact e.frames | (simpa [Around.under, Code.envs, Code.isFrame, pushEnvs] using e.frames), e.mod, e.bs, e.bsz, e.funs, e.frf, e.hok, e.bare⟩
section
variable {X : Cx} {pins : List (Addr × Obj)} {σ : St} {H : Hp} {s s' : Shared}
theorem Inv.env0 (I : Inv X pins σ H s) : Env0 X.prog X.w X.K X.mg X.base X.A X.stack s H :=
 ⟨I.ok.frames, I.ok.mod, I.bs, Nat.le_trans I.ok.bsz I.sz, I.stack, I.stkFree, I.hok, I.bare⟩
theorem Inv.after {Q : VK} {u : Value} (I : Inv X pins σ H s) (h : CE X.stack X.prog X.w H s Q u s') : EP X pins σ Q u s' := by
 obtain ⟨v, H', os, bare, un, hok, r, q⟩ := h
 obtain ⟨hh, g, d, t, os'⟩ := s'
 obtain rfl : os' = s.os := os
 exact ⟨v, H', I.call (h' := hh) (g' := g) (d' := d) (t' := t) (ch := []) un hok bare (fun b z => absurd z (by simp)), r, q⟩
end
noncomputable def tCall (sp : Sp) (dvs : List V) (E : XK) (t : TA) : TE := fun σ H Q => t σ H fun vs H1 => sp (vs ++ dvs) H1 Q E
noncomputable def tMeth (C : Addr) (m : Str) (sp : Sp) (dvs : List V) (E : XK) (ta : TE) (t : TA) : TE := fun σ H Q => ta σ H fun x H1 => ∃ a dx fs, x = .ref a ∧ H1 a = some (.ins C dx fs) ∧ fs.lookup m = none ∧
 t σ H1 fun vs H2 => sp (x :: (vs ++ dvs)) H2 Q E
noncomputable def tMake (C : Addr) (sp : Sp) (dvs : List V) (E : XK) (t : TA) : TE := fun σ H Q => t σ H fun vs H1 => ∀ x dx, H1 x = none → H1 dx = none → dx ≠ x →
 sp (.ref x :: (vs ++ dvs)) (upd (upd H1 dx (.own x)) x (.ins C dx [])) (fun v H2 => v = .non ∧ Q (.ref x) H2) E
noncomputable def Binds (K : PySem.W.Frag) (fd : FuncData) (ps : List Str) (ds : List Value) : Prop :=
 ∀ (s : Shared) (us : List Value), K.In s.heap → (us ++ ds).length = ps.length → BindsTo s fd ⟨us, []⟩ (ps.zip (us ++ ds))
theorem Binds.all {K : PySem.W.Frag} {fd : FuncData} {ps : List Str} (h : ∀ us : List Value, us.length = ps.length → bindArgs fd ⟨us, []⟩ = pure (ps.zip us)) : Binds K fd ps [] := fun s us _ hl => by
 rw [List.append_nil] at hl ⊢
 exact .of_eq (h us hl)
noncomputable def Passes (CX : CXT) (X : Cx) (E : XK) : Prop := ∀ (pins : List (Addr × Obj)) (σ : St) (H : Hp) (s : Shared) (e : Value) (s' : Shared), Inv X pins σ H s → CX X.stack H s E e s' → X.xe e s'
section
variable {X : Cx} {CX : CXT} {k : Nat} {f C : Addr} {fd : FuncData} {ps : List Str} {sp : Sp} {dvs : List V} {ds : List Value} {E : XK} {x m : Str} {p pos apos : Pos} {e o : Expr} {es : List Expr} {ta : TE} {t : TA}
theorem run_fn {pins : List (Addr × Obj)} {σ : St} {H : Hp} {s : Shared} {Q : VK} {us : List Value} {vs : List V} (F : FnOk X.prog X.w X.K X.mg X.base CX k f fd ps sp) (hr : Room k X.A) (hb : Binds X.K fd ps ds) (hd : Vals dvs ds) (hx : Passes CX X E)
   (I : Inv X pins σ H s) (r : Vals vs us) (h : sp (vs ++ dvs) H Q E) : wpAny (model X.prog X.w) X.A (call (.ref f) us) (EP X pins σ Q) X.xe s := by
 have r2 : Vals (vs ++ dvs) (us ++ ds) := r.append hd
 have hl : (us ++ ds).length = ps.length := by rw [← r2.length]; exact F.len _ _ _ _ h
 refine wpAny_call (codeAny_mono (F.run X.A X.stack s H ⟨us, []⟩ (us ++ ds) (vs ++ dvs) Q E hr I.env0 (hb s us I.kIn hl) r2 h) fun r s' hq => ?_)
 cases r with
 | error e => exact hx pins σ H s e s' I hq
 | ok fl =>
   cases fl with
   | ret u => exact I.after hq
   | next => exact False.elim hq
   | brk => exact False.elim hq
   | cont => exact False.elim hq
theorem pe_call (F : FnOk X.prog X.w X.K X.mg X.base CX k f fd ps sp) (hr : Room k X.A) (hg : Gl X x) (hm : X.mg x = some (.ref f)) (hk : PySem.W.keepIn X.K (.ref f) = true) (hb : Binds X.K fd ps ds) (hd : Vals dvs ds) (hx : Passes CX X E)
   (ha : PA X (e :: es) t) (hdb : (x == ("__debug__" : Str)) = false := by decide) (he : starEach (e :: es) X.env = (false, eval e X.env) :: starEach es X.env := by rfl) (hpl : (backTo pos (starEach es X.env)).any (·.1) = false := by rfl) :
   PE X (.Call (.Name x p) (e :: es) [] pos) (tCall sp dvs E t) := by
 intro pins s σ H Q I h
 refine wpAny_Call_Name_kw (ld_glob I hg hm ?_ hdb)
 refine PySem.W.callWith_K (h₀ := X.base) I.ok.mod.kin hk (thn (ha pos pins s σ H _ I h) fun us s1 ⟨vs, H1, I1, r, q⟩ => ⟨I1.kIn, ?_⟩) he hpl
 exact run_fn F hr hb hd hx I1 r q
theorem pe_meth {pl : Sem Bool} (he : PE X o ta) (c : Cls X.K C) (hm : Meth X.K C m f) (F : FnOk X.prog X.w X.K X.mg X.base CX k f fd ps sp) (hr : Room k X.A) (hb : Binds X.K fd ps ds) (hd : Vals dvs ds) (hx : Passes CX X E) (ha : PA X (e :: es) t)
   (hst : starEach (e :: es) X.env = (false, eval e X.env) :: starEach es X.env := by rfl) (hpl : (backTo pos (starEach es X.env)).any (·.1) = false := by rfl)
   (ht : eval (.Call (.Attribute o m apos) (e :: es) [] pos) X.env = (do
     let ov ← eval o X.env
     standAt apos.atName
     let (f, first) ← holding [ov] (getMethod ov m pl)
     callWith pos f first (backTo pos (starEach (e :: es) X.env)) (backToKw pos (keywordEach [] X.env))) := by rfl) :
   PE X (.Call (.Attribute o m apos) (e :: es) [] pos) (tMeth C m sp dvs E ta t) := by
 intro pins s σ H Q I h
 refine PySem.W.methodCall_KW (pl := pl) (thn (he pins s σ H _ I h) fun u s1 ⟨x, H1, I1, rx, a, dx, fs, ex, ea, l, q⟩ => ?_) ht
 subst ex
 obtain rfl : u = Value.ref a := rx
 refine getmeth_ok I1 ea c hm l ?_
 refine PySem.W.callWith_K (first := [.ref a]) (h₀ := X.base) I.ok.mod.kin hm.kp (thn (ha pos pins s1 σ H1 _ I1 q) fun us s2 ⟨vs, H2, I2, r, q2⟩ => ⟨I2.kIn, ?_⟩) hst hpl
 exact run_fn (us := .ref a :: us) (vs := .ref a :: vs) F hr hb hd hx I2 (.cons rfl r) q2
theorem pe_meth0 {pl : Sem Bool} (he : PE X o ta) (c : Cls X.K C) (hm : Meth X.K C m f) (F : FnOk X.prog X.w X.K X.mg X.base CX k f fd ps sp) (hr : Room k X.A) (hb : Binds X.K fd ps ds) (hd : Vals dvs ds) (hx : Passes CX X E)
   (ht : eval (.Call (.Attribute o m apos) [] [] pos) X.env = (do
     let ov ← eval o X.env
     standAt apos.atName
     let (f, first) ← holding [ov] (getMethod ov m pl)
     callWith pos f first (backTo pos (starEach [] X.env)) (backToKw pos (keywordEach [] X.env))) := by rfl) :
   PE X (.Call (.Attribute o m apos) [] [] pos) (tMeth C m sp dvs E ta tNil) := by
 intro pins s σ H Q I h
 refine PySem.W.methodCall_KW (pl := pl) (thn (he pins s σ H _ I h) fun u s1 ⟨x, H1, I1, rx, a, dx, fs, ex, ea, l, q⟩ => ?_) ht
 subst ex
 obtain rfl : u = Value.ref a := rx
 refine getmeth_ok I1 ea c hm l ?_
 exact PySem.W.callWith_K0 (first := [.ref a]) I1.kIn hm.kp (run_fn (us := [.ref a]) (vs := [.ref a]) F hr hb hd hx I1 (.cons rfl .nil) q)
structure Mk (K : PySem.W.Frag) (C f : Addr) : Prop where
 makes : PySem.W.makesIn K C = true
 init : PySem.W.findIn K (.ref C) "__init__" = some (some (.ref f))
 fn : PySem.W.isFn K (.ref f) = true
 kp : PySem.W.keepIn K (.ref C) = true
theorem run_make {pins : List (Addr × Obj)} {σ : St} {H : Hp} {s : Shared} {Q : VK} {us : List Value} {vs : List V} (M : Mk X.K C f) (F : FnOk X.prog X.w X.K X.mg X.base CX k f fd ps sp) (hr : Room (k + 1) X.A) (hb : Binds X.K fd ps ds) (hd : Vals dvs ds)
   (hx : Passes CX X E) (I : Inv X pins σ H s) (r : Vals vs us)
   (h : ∀ x dx, H x = none → H dx = none → dx ≠ x → sp (.ref x :: (vs ++ dvs)) (upd (upd H dx (.own x)) x (.ins C dx [])) (fun v H2 => v = .non ∧ Q (.ref x) H2) E) :
   wpAny (model X.prog X.w) X.A (call (.ref C) us) (EP X pins σ Q) X.xe s := by
 have hq := h (s.heap.objs.size + 1) s.heap.objs.size (I.hok.fresh (Nat.le_succ _)) (I.hok.fresh (Nat.le_refl _)) (Nat.ne_of_lt (Nat.lt_succ_self _))
 have I2 := Inv.made (C := C) I
 have r2 : Vals (V.ref (s.heap.objs.size + 1) :: (vs ++ dvs)) (Value.ref (s.heap.objs.size + 1) :: (us ++ ds)) := .cons rfl (r.append hd)
 have hl : (Value.ref (s.heap.objs.size + 1) :: us ++ ds).length = ps.length := by
   have e := r2.length
   rw [F.len _ _ _ _ hq] at e
   exact e.symm
 refine wpAny_call (make_map (f := f) I.kIn M.makes M.init (beq_iff_eq.mp M.fn) (codeAny_mono (F.run _ X.stack _ _ ⟨Value.ref (s.heap.objs.size + 1) :: us, []⟩ (Value.ref (s.heap.objs.size + 1) :: (us ++ ds)) _ _ E (hr.make C us [])
   (I2.env0.make C us []) (hb _ (Value.ref (s.heap.objs.size + 1) :: us) I2.kIn hl) r2 hq) fun r s' hq' => ?_))
 cases r with
 | error e => exact hx pins σ _ _ e s' I2 hq'
 | ok fl =>
   cases fl with
   | ret u =>
     obtain ⟨v, H', I3, rv, ev, q3⟩ := I2.after hq'
     subst ev
     exact ⟨rv, ⟨V.ref (s.heap.objs.size + 1), H', I3, rfl, q3⟩⟩
   | next => exact False.elim hq'
   | brk => exact False.elim hq'
   | cont => exact False.elim hq'
theorem pe_make0 (M : Mk X.K C f) (F : FnOk X.prog X.w X.K X.mg X.base CX k f fd ps sp) (hr : Room (k + 1) X.A) (hg : Gl X x) (hm : X.mg x = some (.ref C)) (hb : Binds X.K fd ps ds) (hd : Vals dvs ds) (hx : Passes CX X E)
   (hdb : (x == ("__debug__" : Str)) = false := by decide) : PE X (.Call (.Name x p) [] [] pos) (tMake C sp dvs E tNil) := by
 intro pins s σ H Q I h
 refine wpAny_Call_Name_kw (ld_glob I hg hm ?_ hdb)
 exact PySem.W.callWith_K0 I.kIn M.kp (run_make (us := []) M F hr hb hd hx I .nil h)
end
section
variable {X : Cx} {CX : CXT} {k : Nat} {f C : Addr} {fd : FuncData} {ps ks : List Str} {sp : Sp} {E : XK} {x m : Str} {p pos apos kpos : Pos} {e o : Expr} {es : List Expr} {kws : List Keyword} {te ta : TE} {t tk : TA} {nm : Option Str}
variable {g : List Value → List Value → List Value} {gV : List V → List V → List V}
end
structure FnScope (N P : List Str) (sc : Scope) : Prop where
 kind : sc.kind = .function
 co : sc.isCoroutine = false
 gen : sc.isGenerator = false
 nd : N.Nodup
 pre : N.take P.length = P
 par : ∀ x ∈ P, sc.names.lookup x = some .local ∨ sc.names.lookup x = some .cell
 nofree : ∀ y ∈ sc.names, y.2 ≠ .free
theorem bindL_out {kindOf : Str → Option NameKind} {x : Str} : ∀ {binds : List (Str × Value)} {m : Str → Option Value}, (∀ v, (x, v) ∉ binds) → bindL kindOf binds m x = m x
 | [], _, _ => rfl
 | (n, v) :: r, m, h => by
   unfold bindL
   rw [bindL_out fun w hw => h w (List.mem_cons_of_mem _ hw)]
   split
   · have : x ≠ n := by rintro rfl; exact h v List.mem_cons_self
     simp [this]
   · rfl
theorem bindC_out {kindOf : Str → Option NameKind} {x : Str} : ∀ {binds : List (Str × Value)} {m : Str → Option Value}, (∀ v, (x, v) ∉ binds) → bindC kindOf binds m x = m x
 | [], _, _ => rfl
 | (n, v) :: r, m, h => by
   unfold bindC
   rw [bindC_out fun w hw => h w (List.mem_cons_of_mem _ hw)]
   split
   · rfl
   · have : x ≠ n := by rintro rfl; exact h v List.mem_cons_self
     simp [this]
theorem bindL_get {kindOf : Str → Option NameKind} {x : Str} {v : Value} : ∀ {P : List Str} {vs : List Value} {i : Nat} {m : Str → Option Value}, P.Nodup → P[i]? = some x → vs[i]? = some v → kindOf x = some .local →
   bindL kindOf (P.zip vs) m x = some v
 | [], _, _, _, _, h, _, _ => by simp at h
 | _ :: _, [], _, _, _, _, h, _ => by simp at h
 | p :: P, w :: vs, 0, m, nd, h1, h2, hk => by
   simp at h1 h2; subst h1; subst h2
   show bindL kindOf ((p, w) :: P.zip vs) m p = _
   unfold bindL
   rw [bindL_out fun v hv => (List.nodup_cons.mp nd).1 (List.of_mem_zip hv).1, if_pos hk]
   simp
 | p :: P, w :: vs, i + 1, m, nd, h1, h2, hk => by
   show bindL kindOf ((p, w) :: P.zip vs) m x = _
   unfold bindL
   exact bindL_get (i := i) (List.nodup_cons.mp nd).2 (by simpa using h1) (by simpa using h2) hk
theorem bindC_get {kindOf : Str → Option NameKind} {x : Str} {v : Value} : ∀ {P : List Str} {vs : List Value} {i : Nat} {m : Str → Option Value}, P.Nodup → P[i]? = some x → vs[i]? = some v → kindOf x ≠ some .local →
   bindC kindOf (P.zip vs) m x = some v
 | [], _, _, _, _, h, _, _ => by simp at h
 | _ :: _, [], _, _, _, _, h, _ => by simp at h
 | p :: P, w :: vs, 0, m, nd, h1, h2, hk => by
   simp at h1 h2; subst h1; subst h2
   show bindC kindOf ((p, w) :: P.zip vs) m p = _
   unfold bindC
   rw [bindC_out fun v hv => (List.nodup_cons.mp nd).1 (List.of_mem_zip hv).1, if_neg hk]
   simp
 | p :: P, w :: vs, i + 1, m, nd, h1, h2, hk => by
   show bindC kindOf ((p, w) :: P.zip vs) m x = _
   unfold bindC
   exact bindC_get (i := i) (List.nodup_cons.mp nd).2 (by simpa using h1) (by simpa using h2) hk
noncomputable def start (N : List Str) (vs : List V) : St := vs.map some ++ List.replicate (N.length - vs.length) none
noncomputable def cxOf (CX : CXT) (P : Program) (w : World) (K : PySem.W.Frag) (mg : Str → Option Value) (base : Heap) (N : List Str) (qual : Str) (scope : Scope) (f : Addr) (cd : Value) (A : Around) (outer : List Env) (s : Shared) (H : Hp) (E : XK) : Cx where
 prog := P
 w := w
 K := K
 mg := mg
 base := base
 A := A.deeper (envOfC qual scope s.heap.objs.size f cd)
 N := N
 s₀ := s
 H₀ := H
 env := envOfC qual scope s.heap.objs.size f cd
 outer := outer
 stack := envOfC qual scope s.heap.objs.size f cd :: outer
 ex := []
 calm := true
 fn := fun _ => true
 pn := []
 xe := fun e s' => wpAny (model P w) (A.deeper (envOfC qual scope s.heap.objs.size f cd)) (leaving (envOfC qual scope s.heap.objs.size f cd) e) (fun _ s'' => CX outer H s E e s'') (fun e' s'' => CX outer H s E e' s'') s'
theorem cell_has {sc : Scope} {n : Nat} {x : Str} (h : sc.names.lookup x = some .cell) : ∃ c, (cellsFrom n sc.names []).lookup x = some c := by
 have q := PySem.W.cellsFrom_some sc.names n [] (.inl h)
 exact Option.isSome_iff_exists.mp q
theorem inv_start {CX : CXT} {P : Program} {w : World} {K : PySem.W.Frag} {mg : Str → Option Value} {base : Heap} {N ps : List Str} {qual : Str} {scope : Scope} {f : Addr} {cd : Value} {A : Around} {outer : List Env} {s s1 : Shared} {H : Hp} {E : XK} {us : List Value} {vs : List V}
   (S : FnScope N ps scope) (hd : A.handled = none) (e0 : Env0 P w K mg base A outer s H) (hl : vs.length = ps.length) (r : Vals vs us)
   (x : InCallC s s.heap.objs.size (bindL (envOfC qual scope s.heap.objs.size f cd).kindOf (ps.zip us) fun _ => none) (cellsFrom (s.heap.objs.size + 1) scope.names []) (bindC (envOfC qual scope s.heap.objs.size f cd).kindOf (ps.zip us) fun _ => none) s1) :
   Inv (cxOf CX P w K mg base N qual scope f cd A outer s H E) [] (start N vs) H s1 := by
 have hpl : ps.length ≤ N.length := by have := congrArg List.length S.pre; rw [List.length_take] at this; omega
 obtain ⟨h1, tk, rfl, hk⟩ := x.done
 have noA : ∀ b : Addr, b ∉ (cxOf CX P w K mg base N qual scope f cd A outer s H E).ex := fun b z => absurd (show b ∈ ([] : List Addr) from z) (by simp)
 refine ⟨⟨e0.mod, S.kind, rfl, rfl, Nat.le_refl _, fun y z c h1 h2 => ?_, fun y hy => ?_, fun y c _ h => ?_, fun _ => hd, Around.frames_deeper e0.frames, .inr ⟨rfl, rfl⟩, fun b z => absurd z (noA b), e0.bs, e0.bsz, fun b _ _ => noA b, fun b z => absurd z (noA b), e0.funs, e0.frf⟩,
   rfl, e0.bare, Un.kept hk, ⟨_, x.toInCall.ns, fun i y v h1 h2 h3 => ?_⟩, fun y c h => ⟨_, x.cell y c h⟩, e0.hok.fresh (Nat.le_refl _), fun y c h => ?_, fun p hp => absurd (show p ∈ ([] : List (Addr × Obj)) from hp) (by simp), e0.hok.kept hk, ?_⟩
 · exact name_of_addr x.apart (PySem.mem_of_lookup h1) (PySem.mem_of_lookup h2)
 · have hy : scope.names.lookup y = some .cell ∨ scope.names.lookup y = some .free := hy
   rcases hy with hy | hy
   · exact cell_has hy
   · exact absurd rfl (S.nofree _ (PySem.mem_of_lookup hy))
 · exact Nat.le_of_lt (x.above y c (PySem.mem_of_lookup h))
 · have hi : i < vs.length := by
     unfold start at h2
     by_cases hi : i < vs.length
     · exact hi
     · rw [List.getElem?_append_right (by simpa using hi)] at h2
       rw [List.getElem?_replicate] at h2
       split at h2 <;> cases h2
   have ha : vs[i]? = some v := by
     unfold start at h2
     rw [List.getElem?_append_left (by simpa using hi), List.getElem?_map] at h2
     cases e : vs[i]? with
     | none => rw [e] at h2; cases h2
     | some a => rw [e] at h2; cases h2; rfl
   obtain ⟨u, hu, rv⟩ := r.get ha
   have hp : ps[i]? = some y := by
     rw [← S.pre, List.getElem?_take_of_lt (by omega)]; exact h1
   have ndP : ps.Nodup := by rw [← S.pre]; exact S.nd.sublist (List.take_sublist _ _)
   refine ⟨u, rv, ?_⟩
   rcases S.par y (List.mem_of_getElem? hp) with k | k
   · exact .inl ⟨k, bindL_get ndP hp hu k⟩
   · obtain ⟨c, e⟩ := cell_has (n := s.heap.objs.size + 1) k
     refine .inr ⟨.inl k, c, e, ?_⟩
     have q := x.cell y c e
     rw [bindC_get ndP hp hu (by show scope.names.lookup y ≠ _; rw [k]; decide)] at q
     exact q
 · exact e0.hok.fresh (Nat.le_of_lt (x.above y c (PySem.mem_of_lookup h)))
 · unfold start
   show _ = N.length
   rw [List.length_append, List.length_map, List.length_replicate]
   omega
theorem fn_of {CX : CXT} {P : Program} {w : World} {K : PySem.W.Frag} {mg : Str → Option Value} {base : Heap} {k : Nat} {f : Addr} {name qual : Str} {params : Arguments} {body : List Stmt} {scope : Scope} {dV kV doc pm cdv ct oc : Value} {an od : Option Addr}
   {osl : Array (Option Value)} {N ps : List Str} {sp : Sp} (lk : K.lookup f = some ⟨oc, od, .func (PySem.W.fnOf name qual params body scope dV kV doc pm an cdv ct), osl⟩) (hcd : PySem.W.codeIn K cdv qual = true) (S : FnScope N ps scope)
   (len : ∀ vs H Q E, sp vs H Q E → vs.length = ps.length)
   (hbody : ∀ (A : Around) (outer : List Env) (s : Shared) (H : Hp) (vs : List V) (Q : VK) (E : XK), Room k (A.deeper (envOfC qual scope s.heap.objs.size f cdv)) → sp vs H Q E →
     ∃ t, PSs (cxOf CX P w K mg base N qual scope f cdv A outer s H E) body t ∧ t { nx := fun _ H' => Q .non H', rt := Q } (start N vs) H) :
   FnOk P w K mg base CX (k + 1) f (PySem.W.fnOf name qual params body scope dV kV doc pm an cdv ct) ps sp := by
 refine ⟨len, fun A outer s H args us vs Q E hr e0 hb r hsp => ?_⟩
 have hl := len _ _ _ _ hsp
 have KX : K.In s.heap := e0.mod.kin.keeps fun b o e => (e0.bs b o e).1
 have lim : s.heap.NoLimit := e0.mod.nolimit.keeps fun b o e => (e0.bs b o e).1
 have hkind : ∀ y ∈ ps.zip us, scope.names.lookup y.1 = some .local ∨ (scope.names.lookup y.1 = some .cell ∧ ((cellsFrom (s.heap.objs.size + 1) scope.names []).lookup y.1).isSome = true) := fun ⟨n, v⟩ hy => by
   rcases S.par n (List.of_mem_zip hy).1 with q | q
   · exact .inl q
   · exact .inr ⟨q, PySem.W.cellsFrom_some _ _ _ (.inl q)⟩
 refine codeAny_call_function hr.depth (KX _ _ lk) rfl S.co S.gen rfl (PySem.W.codeRec_of KX hcd) (hb _ _ _ _ ?_)
 refine wpAny_newFunctionEnv_cells S.kind hkind fun env he s1 x => ?_
 subst he
 refine ⟨lim.keeps x.toInCall.keep, codeAny_func ?_⟩
 obtain ⟨t, ht, hq⟩ := hbody A outer s H vs Q E (hr.deeper _) hsp
 have I : Inv (cxOf CX P w K mg base N qual scope f cdv A outer s H E) [] (start N vs) H s1 := inv_start S hr.hd e0 hl r x
 refine wpAny_mono (ht [] s1 (start N vs) H _ I hq) (fun fl s' hs => ?_) fun e s' hs => hs
 have fin : ∀ {σ' : St} {H' : Hp} {v : V} {u : Value}, Inv (cxOf CX P w K mg base N qual scope f cdv A outer s H E) [] σ' H' s' → RelV v u → Q v H' → CE outer P w H s Q u s' :=
   fun {σ' H' v u} J rv q => ⟨v, H', J.os, J.bare, J.base, J.hok, rv, q⟩
 cases fl with
 | ret u =>
   obtain ⟨v, σ', H', J, rv, q⟩ := hs
   exact fin J rv q
 | next =>
   obtain ⟨σ', H', J, q⟩ := hs
   exact fin (v := V.non) (u := Value.none) J rfl q
 | brk =>
   obtain ⟨_, _, _, q⟩ := hs
   exact False.elim q
 | cont =>
   obtain ⟨_, _, _, q⟩ := hs
   exact False.elim q
end L2
namespace L2
open PySem PySem.Spec PyProof.Rows
section
variable {X : Cx} {x : Str} {p pos : Pos} {e : Expr} {es : List Expr} {t : TA} {id T : String} {r : List V → Hp → VK → Prop}
noncomputable def tCB (r : List V → Hp → VK → Prop) (t : TA) : TE := fun σ H Q => t σ H fun vs H1 => r vs H1 Q
theorem pe_callB (hc : CallR X (.builtin id) r) (hg : Gl X x) (hm : X.mg x = none) (hv : bootBuiltins x = some (.builtin id)) (ha : PA X (e :: es) t) (hn : x ≠ "__name__" := by decide) (hdb : (x == ("__debug__" : Str)) = false := by decide)
   (he : starEach (e :: es) X.env = (false, eval e X.env) :: starEach es X.env := by rfl) (hpl : (backTo pos (starEach es X.env)).any (·.1) = false := by rfl) : PE X (.Call (.Name x p) (e :: es) [] pos) (tCB r t) := by
 intro pins s σ H Q I h
 refine wpAny_Call_Name_kw (ld_blt I hg hm hv ?_ hn hdb)
 exact PyProof.Rows.callWith_builtin1 (thn (ha pos pins s σ H _ I h) fun us s1 ⟨vs, H1, I1, r1, q1⟩ => hc pins s1 σ H1 vs us Q I1 r1 q1) he hpl
theorem pe_callTy (hc : CallR X (.type T) r) (hg : Gl X x) (hm : X.mg x = none) (hv : bootBuiltins x = some (.type T)) (ha : PA X (e :: es) t) (hn : x ≠ "__name__" := by decide) (hdb : (x == ("__debug__" : Str)) = false := by decide)
   (he : starEach (e :: es) X.env = (false, eval e X.env) :: starEach es X.env := by rfl) (hpl : (backTo pos (starEach es X.env)).any (·.1) = false := by rfl) : PE X (.Call (.Name x p) (e :: es) [] pos) (tCB r t) := by
 intro pins s σ H Q I h
 refine wpAny_Call_Name_kw (ld_blt I hg hm hv ?_ hn hdb)
 exact PyProof.Rows.callWith_type1 (thn (ha pos pins s σ H _ I h) fun us s1 ⟨vs, H1, I1, r1, q1⟩ => hc pins s1 σ H1 vs us Q I1 r1 q1) he hpl
end
end L2
namespace HT
open PySem PyProof.Rows
section
open PySem.SeqAt
open PySem.AutoSeq1 (wpAny_loadPart')
open PySem.MeetsSeq PySem.MeetsSeq2 PySem.MeetsSeq3
end
section
variable {prog : Program} {w : World} {A : Around} {E : Value → Shared → Prop} {s : Shared}
theorem cat_tup {t b : Addr} {vs ws : List Value} {Q : Value → Shared → Prop} (ht : IsTup s.heap t vs.toArray) (hb : IsTup s.heap b ws.toArray) (hv : vs ≠ [])
   (h1 : ws = [] → Q (.ref t) s) (h2 : ws ≠ [] → Q (.ref s.heap.objs.size) { s with heap := s.heap.push { cls := .type "tuple", data := .seq (vs ++ ws).toArray } })
   (hsz : vs.length + ws.length ≤ sizeLine) : wpAny (model prog w) A (binaryOp .Add (.ref t) (.ref b)) Q E s := by
 obtain ⟨⟨cls, dd, data, sl⟩, ho, hc, n, hd⟩ := id ht
 obtain ⟨⟨cls2, dd2, data2, sl2⟩, ho2, hc2, n2, hd2⟩ := id hb
 simp only at hc hd hc2 hd2
 subst hc hd hc2 hd2
 have e : vs.toArray ++ ws.toArray = (vs ++ ws).toArray := by simp
 by_cases hw : ws = []
 · exact concat_meets ⟨_, ho, rfl⟩ ⟨_, ho2, rfl⟩ noFill_tuple_add seq_tuple_add PySem.F.slot_tuple_add PySem.F.entry_tuple_add (PySem.F.args_tuple_add_2 _ _)
     (tuple_addW1 t b vs.toArray ws.toArray n n2 dd dd2 sl sl2 (by simpa using hv) (by simp [hw])) ⟨ho, ho2, h1 hw⟩
 · refine concat_meets ⟨_, ho, rfl⟩ ⟨_, ho2, rfl⟩ noFill_tuple_add seq_tuple_add PySem.F.slot_tuple_add PySem.F.entry_tuple_add (PySem.F.args_tuple_add_2 _ _)
     (tuple_addW2 t b vs.toArray ws.toArray n n2 dd dd2 sl sl2 (by simpa using hv) (by simpa using hw) (by rw [List.size_toArray, List.size_toArray]; exact hsz)) ⟨ho, ho2, ?_⟩
   rw [e]
   exact h2 hw
noncomputable def sIx (n d : Nat) : Option Int → Nat
 | none => d
 | some v => if v < 0 then (v + (n : Int)).toNat else min v.toNat n
theorem sIx_none (n d : Nat) : sIx n d none = d := rfl
theorem sIx_nat (n d k : Nat) : sIx n d (some (k : Int)) = min k n := by
 show (if (k : Int) < 0 then ((k : Int) + (n : Int)).toNat else min (k : Int).toNat n) = min k n
 rw [if_neg (by omega), Int.toNat_natCast]
theorem sIx_le (n d : Nat) (hd : d ≤ n) (o : Option Int) : sIx n d o ≤ n := by
 cases o with
 | none => exact hd
 | some v =>
   show (if v < 0 then (v + (n : Int)).toNat else min v.toNat n) ≤ n
   by_cases hv : v < 0
   · rw [if_pos hv]; omega
   · rw [if_neg hv]; exact Nat.min_le_right _ _
theorem clip_eq (v : Int) (n d : Nat) : (if v < 0 then max (v + (n : Int)) 0 else min v (n : Int)) = ((sIx n d (some v) : Nat) : Int) := by
 show (if v < 0 then max (v + (n : Int)) 0 else min v (n : Int)) = (((if v < 0 then (v + (n : Int)).toNat else min v.toNat n) : Nat) : Int)
 by_cases hv : v < 0
 · simp only [if_pos hv]; omega
 · simp only [if_neg hv]; omega
theorem adjust_gen (lo hi : Option Int) (n : Nat) : Builtin.Slice.sliceAdjust lo hi 1 (n : Int) = (((sIx n 0 lo : Nat) : Int), ((sIx n n hi : Nat) : Int)) := by
 have h1 : ¬ ((1 : Int) < 0) := by omega
 unfold Builtin.Slice.sliceAdjust
 simp only [h1, if_false]
 refine Prod.ext ?_ ?_
 · cases lo with
   | none => rfl
   | some v => exact clip_eq v n 0
 · cases hi with
   | none => rfl
   | some v => exact clip_eq v n n
theorem places_gen (i j : Nat) : Builtin.Slice.slicePlaces (i : Int) (j : Int) 1 = j - i := by
 unfold Builtin.Slice.slicePlaces
 have h1 : (1 : Int) > 0 := by omega
 simp only [h1, if_true, Int.ediv_one]
 split <;> omega
theorem slicePart_ {v : Value} {o : Option Int} {Q : Option Int → Shared → Prop} (p : IsPart v o) (h : Q o s) : wpAny (model prog w) A (Builtin.Slice.slicePartIndex v) Q E s := by
 cases p with
 | none => exact slicePart_none h
 | int i t => exact slicePart_int h
theorem sliceApplied_gen {sl : Addr} {vl vu : Value} {lo hi : Option Int} {n : Nat} {Q : Int × Int × Nat → Shared → Prop} (hs : s.heap.IsSliceOf sl vl vu .none) (pl : IsPart vl lo) (pu : IsPart vu hi)
   (h : Q (((sIx n 0 lo : Nat) : Int), 1, sIx n n hi - sIx n 0 lo) s) : wpAny (model prog w) A (Builtin.Slice.sliceApplied (.ref sl) (pure (n : Int))) Q E s := by
 obtain ⟨os, hos, hcs, hds⟩ := id hs
 unfold Builtin.Slice.sliceApplied Builtin.Slice.sliceFields
 refine wpAny_bind (wpAny_bind (wpAny_field hos hds (x := vl) rfl (wpAny_bind (wpAny_field hos hds (x := vu) rfl (wpAny_bind (wpAny_field hos hds (x := .none) rfl (wpAny_pure ?_)))))))
 refine wpAny_bind (slicePart_none ?_)
 show wpAny _ _ (if ((1 : Int) == 0) = true then _ else _) _ _ s
 rw [if_neg (by decide)]
 refine wpAny_bind (slicePart_ pl (wpAny_bind (slicePart_ pu (wpAny_bind (wpAny_pure ?_)))))
 show wpAny _ _ (match Builtin.Slice.sliceAdjust lo hi 1 (n : Int) with | (lo, hi) => pure (lo, (1 : Int), Builtin.Slice.slicePlaces lo hi 1)) _ _ s
 rw [adjust_gen lo hi n]
 show wpAny _ _ (pure (((sIx n 0 lo : Nat) : Int), (1 : Int), Builtin.Slice.slicePlaces ((sIx n 0 lo : Nat) : Int) ((sIx n n hi : Nat) : Int) 1)) _ _ s
 rw [places_gen]
 exact wpAny_pure h
theorem pick_gen (xs : Array Value) (i k : Nat) : ((List.range k).filterMap fun (m : Nat) => xs[((i : Int) + (m : Int) * 1).toNat]?).toArray = ((xs.toList.drop i).take k).toArray := by
 have e : (fun (m : Nat) => xs[((i : Int) + (m : Int) * 1).toNat]?) = fun m => xs[i + m]? := by
   funext m
   have : ((i : Int) + (m : Int) * 1).toNat = i + m := by omega
   rw [this]
 rw [e]
 have := pick_run xs i k
 rw [List.filterMap_map] at this
 have e2 : ((fun x => xs[x]?) ∘ fun x => i + x) = fun m => xs[i + m]? := rfl
 rw [e2] at this
 rw [this]
theorem getItem_tuple_cut {t sl : Addr} {items : Array Value} {vl vu : Value} {lo hi : Option Int} {Q : Value → Shared → Prop} (ht : IsTup s.heap t items) (hs : s.heap.IsSliceOf sl vl vu .none) (pl : IsPart vl lo) (pu : IsPart vu hi)
   (hw : ¬ (sIx items.size 0 lo = 0 ∧ sIx items.size items.size hi = items.size))
   (h : Q (.ref s.heap.objs.size) { s with heap := s.heap.push { cls := .type "tuple", data := .seq ((items.toList.drop (sIx items.size 0 lo)).take (sIx items.size items.size hi - sIx items.size 0 lo)).toArray } })
   (hsz : items.size ≤ sizeLine) : wpAny (model prog w) A (getItem (.ref t) (.ref sl)) Q E s := by
 have htake : sizeOk (.seq ((items.toList.drop (sIx items.size 0 lo)).take (sIx items.size items.size hi - sIx items.size 0 lo)).toArray) := by
   show ((items.toList.drop (sIx items.size 0 lo)).take (sIx items.size items.size hi - sIx items.size 0 lo)).toArray.size ≤ sizeLine
   rw [List.size_toArray, List.length_take, List.length_drop, Array.length_toList]
   omega
 have hj : sIx items.size items.size hi ≤ items.size := sIx_le _ _ (Nat.le_refl _) hi
 obtain ⟨os, hos, hcs, hds⟩ := id hs
 have hTs : s.TypeIs (.ref sl) "slice" := ⟨os, hos, hcs⟩
 unfold getItem
 try with_reducible refine wpAny_holding ?_
 first | refine wpAny_bind (wpAny_pure ?_) | skip
 refine wpAny_bind (wpAny_sequenceKey ht.typeIs (by decide) ?_)
 refine wpAny_bind (wpAny_callSpecial?_slot (name := Str.ofString "__getitem__") ht.typeIs PyProof.Rows.slot_tuple_getitem
   (wpAny_call_entry PyProof.Rows.slot_tuple_getitem ht.typeIs entry_tuple_getitem ?_ (args_tuple_getitem _ _)))
 show wpAny _ _ (Builtin.Tuple.tupleItemsOf (.ref t) >>= _) _ _ s
 refine wpAny_bind (tupleItemsOf_ ht ?_)
 refine wpAny_bind (wpAny_typeOf hTs ?_)
 rw [if_pos (by decide)]
 refine wpAny_bind (sliceApplied_gen hs pl pu ?_)
 have hno : ¬ ((((sIx items.size 0 lo : Nat) : Int) == 0 && (1 : Int) == 1 && (sIx items.size items.size hi - sIx items.size 0 lo) == items.size) = true) := by
   intro q
   rw [Bool.and_eq_true, Bool.and_eq_true] at q
   have q1 : ((sIx items.size 0 lo : Nat) : Int) = 0 := eq_of_beq q.1.1
   have q2 : sIx items.size items.size hi - sIx items.size 0 lo = items.size := eq_of_beq q.2
   exact hw ⟨by omega, by omega⟩
 show wpAny _ _ (if (((sIx items.size 0 lo : Nat) : Int) == 0 && (1 : Int) == 1 && (sIx items.size items.size hi - sIx items.size 0 lo) == items.size) = true then _ else _) _ _ s
 rw [if_neg hno, pick_gen]
 first
   | exact wpAny_bind (m := Builtin.Tuple.tupleExact _) (wpAny_newObj_type (wpAny_pure ⟨_, rfl, wpAny_pure h⟩) htake)
   | exact wpAny_bind (m := Builtin.Tuple.tupleExact _) (wpAny_newObj_type (wpAny_bind (wpAny_pure (wpAny_pure ⟨_, rfl, wpAny_pure h⟩))) htake)
   | exact wpAny_bind (wpAny_bind (m := Builtin.Tuple.tupleExact _) (wpAny_newObj_type (wpAny_pure (wpAny_pure ⟨_, rfl, wpAny_pure h⟩)) htake))
   | exact wpAny_bind (wpAny_bind (m := Builtin.Tuple.tupleExact _) (wpAny_newObj_type (wpAny_pure ⟨_, rfl, wpAny_pure h⟩) htake))
end
end HT
namespace L2
open PySem PySem.Spec PyProof.Rows
noncomputable abbrev TO := St → Hp → (Option Int → Hp → Prop) → Prop
noncomputable def PO (X : Cx) (e : Option Expr) (t : TO) : Prop :=
 ∀ (pins : List (Addr × Obj)) (s : Shared) (σ : St) (H : Hp) (Q : Option Int → Hp → Prop), Inv X pins σ H s → t σ H Q →
   wpAny (model X.prog X.w) X.A (evalPart e X.env) (fun u s' => ∃ o H', Inv X pins σ H' s' ∧ IsPart u o ∧ Q o H') X.xe s
noncomputable def tNoPart : TO := fun _ H Q => Q none H
noncomputable def tPart (t : TE) : TO := fun σ H Q => t σ H fun x H1 => ∃ i, x = .int i ∧ Q (some i) H1
section
variable {X : Cx} {e : Expr} {te : TE} {lo hi : Option Expr} {tl th : TO} {pos p2 : Pos}
theorem po_none : PO X none tNoPart := by
 intro pins s σ H Q I h
 rw [evalPart_none]
 exact wpAny_pure ⟨none, H, I, .none, h⟩
theorem po_some (h : PE X e te) : PO X (some e) (tPart te) := by
 intro pins s σ H Q I hw
 rw [evalPart_some]
 refine thn (h pins s σ H _ I hw) fun u s1 ⟨x, H1, I1, r1, q1⟩ => ?_
 obtain ⟨i, rfl, q⟩ := q1
 obtain ⟨t, rfl⟩ := r1
 exact ⟨some i, H1, I1, .int i t, q⟩
noncomputable def SlR (X : Cx) (r : V → Option Int → Option Int → Hp → VK → Prop) : Prop :=
 ∀ (pins : List (Addr × Obj)) (s : Shared) (σ : St) (H : Hp) (x : V) (v vl vu : Value) (lo hi : Option Int) (sl : Addr) (Q : VK), Inv X pins σ H s → RelV x v → s.heap.IsSliceOf sl vl vu .none → IsPart vl lo → IsPart vu hi → r x lo hi H Q →
   ∃ T id, typeLookup (.type T) "__getitem__" = pure (some (.builtin id)) ∧ s.TypeIs v T ∧ wpAny (model X.prog X.w) X.A (getItem v (.ref sl)) (EP X pins σ Q) X.xe s
noncomputable def tSl (r : V → Option Int → Option Int → Hp → VK → Prop) (te : TE) (tl th : TO) : TE := fun σ H Q => te σ H fun x H1 => tl σ H1 fun l H2 => th σ H2 fun u H3 => r x l u H3 Q
theorem pe_slice {r : V → Option Int → Option Int → Hp → VK → Prop} (hr : SlR X r) (he : PE X e te) (hl : PO X lo tl) (hu : PO X hi th) : PE X (.Subscript e (.Slice lo hi none p2) pos) (tSl r te tl th) := by
 intro pins s σ H Q I h
 refine Subscript_ (thn (he pins s σ H _ I h) fun v s1 ⟨x, H1, I1, r1, q1⟩ => ?_)
 refine wpAny_Slice (thn (hl pins s1 σ H1 _ I1 q1) fun vl s2 ⟨l, H2, I2, pl, q2⟩ => thn (hu pins s2 σ H2 _ I2 q2) fun vu s3 ⟨u, H3, I3, pu, q3⟩ => ?_)
 rw [evalPart_none]
 refine wpAny_pure ?_
 have I4 : Inv X pins σ H3 { s3 with heap := s3.heap.push { cls := .type "slice", data := .fields #[vl, vu, .none] } } := I3.kept (t' := s3.toks) fun b ob q => Heap.get?_push_of_some _ q
 obtain ⟨T, id, hT, ht, hg⟩ := hr pins { s3 with heap := s3.heap.push { cls := .type "slice", data := .fields #[vl, vu, .none] } } σ H3 x v vl vu l u s3.heap.objs.size Q I4 r1 (Heap.IsSliceOf.new ..) pl pu q3
 show wpAny (model X.prog X.w) X.A (subscriptTail e (.Slice lo hi none p2) v (.ref s3.heap.objs.size)) (EP X pins σ Q) X.xe { s3 with heap := s3.heap.push { cls := .type "slice", data := .fields #[vl, vu, .none] } }
 exact tail_any (ops := [.ref s3.heap.objs.size, v]) ht hT hg (by with_unfolding_all rfl)
noncomputable def cutV (xs : List V) (lo hi : Option Int) : List V := (xs.drop (HT.sIx xs.length 0 lo)).take (HT.sIx xs.length xs.length hi - HT.sIx xs.length 0 lo)
theorem cutV_length (xs : List V) (lo hi : Option Int) : (cutV xs lo hi).length ≤ xs.length := by
 unfold cutV
 rw [List.length_take, List.length_drop]
 omega
noncomputable def rSlT (K : PySem.W.Frag) : V → Option Int → Option Int → Hp → VK → Prop := fun x lo hi H Q => ∃ a xs, x = .ref a ∧ SqT K H a xs ∧
 ¬ (HT.sIx xs.length 0 lo = 0 ∧ HT.sIx xs.length xs.length hi = xs.length) ∧ ∀ p, H p = none → Q (.ref p) (upd H p (.tup (cutV xs lo hi)))
theorem sl_tup : SlR X (rSlT X.K) := by
 intro pins s σ H x v vl vu lo hi sl Q I rx hs pl pu h
 obtain ⟨a, xs, rfl, hx, hw, q⟩ := h
 cases rx
 obtain ⟨its, r, ht, hz⟩ := I.tuple hx
 have hlen : its.toArray.size = xs.length := by rw [List.size_toArray]; exact r.length.symm
 refine ⟨"tuple", _, PyProof.Rows.slot_tuple_getitem.lookup, ht.typeIs, ?_⟩
 refine HT.getItem_tuple_cut ht hs pl pu (by rw [hlen]; exact hw) ?_ (by rw [hlen]; exact hz)
 rw [hlen]
 refine ⟨.ref s.heap.objs.size, _, I.laid (t' := s.toks) (o := .tup (cutV xs lo hi)) (fun b ob q => Heap.get?_push_of_some _ q) (Nat.le_refl _) ?_, rfl, q _ (I.hok.fresh (Nat.le_refl _))⟩
 exact ⟨Nat.le_trans (cutV_length xs lo hi) hz, _, (r.drop (HT.sIx xs.length 0 lo)).take (HT.sIx xs.length xs.length hi - HT.sIx xs.length 0 lo), IsTupN.new _ _⟩
noncomputable def rCatT (K : PySem.W.Frag) : R2 := fun x y H Q => ∃ a b xs ys, x = .ref a ∧ y = .ref b ∧ SqT K H a xs ∧ SqT K H b ys ∧ xs ≠ [] ∧ xs.length + ys.length ≤ sizeLine ∧
 (ys = [] → Q (.ref a) H) ∧ (ys ≠ [] → ∀ p, H p = none → Q (.ref p) (upd H p (.tup (xs ++ ys))))
theorem Vals.nil_iff {xs : List V} {us : List Value} (r : Vals xs us) : us = [] ↔ xs = [] := by
 cases r with
 | nil => simp
 | cons _ _ => simp
theorem op_catT : OpR X (binaryOp .Add) (rCatT X.K) := by
 intro pins s σ H x y v u Q I rx ry h
 obtain ⟨a, b, xs, ys, rfl, rfl, ha, hb, hx, hz, q1, q2⟩ := h
 cases rx
 cases ry
 obtain ⟨its, r1, p1, _⟩ := I.tuple ha
 obtain ⟨its2, r2, p2, _⟩ := I.tuple hb
 refine HT.cat_tup p1 p2 (fun z => hx (r1.nil_iff.mp z)) (fun z => ⟨.ref a, H, I, rfl, q1 (r2.nil_iff.mp z)⟩) (fun z => ?_) (by rw [← r1.length, ← r2.length]; exact hz)
 refine ⟨.ref s.heap.objs.size, _, I.laid (t' := s.toks) (o := .tup (xs ++ ys)) (fun b ob q => Heap.get?_push_of_some _ q) (Nat.le_refl _) ?_, rfl, q2 (fun w => z (r2.nil_iff.mpr w)) _ (I.hok.fresh (Nat.le_refl _))⟩
 exact ⟨by rw [List.length_append]; exact hz, _, r1.append r2, IsTupN.new _ _⟩
end
end L2
namespace L2
open PySem PySem.Spec PyProof.Rows
noncomputable def ixN (n : Nat) (i : Int) : Option Nat := if 0 ≤ i then (if i < n then some i.toNat else none) else if -(n : Int) ≤ i then some (i + n).toNat else none
noncomputable def atI {α : Type} (xs : List α) (i : Int) : Option α := (ixN xs.length i).bind fun j => xs[j]?
theorem ixN_seq {n : Nat} {i : Int} {j : Nat} (h : ixN n i = some j) : seqIndex? i n = some j ∧ j < n ∧ -(n : Int) ≤ i ∧ i < n := by
 unfold ixN at h
 by_cases h0 : 0 ≤ i
 · rw [if_pos h0] at h
   by_cases h1 : i < n
   · rw [if_pos h1] at h
     have e : i.toNat = j := Option.some.inj h
     exact ⟨by rw [seqIndex_of h0 h1, e], by omega, by omega, h1⟩
   · rw [if_neg h1] at h; cases h
 · rw [if_neg h0] at h
   by_cases h1 : -(n : Int) ≤ i
   · rw [if_pos h1] at h
     have e : (i + n).toNat = j := Option.some.inj h
     exact ⟨by rw [seqIndex_neg (by omega) h1, e], by omega, h1, by omega⟩
   · rw [if_neg h1] at h; cases h
theorem atI_get {α : Type} {xs : List α} {i : Int} {v : α} (h : atI xs i = some v) : ∃ j, seqIndex? i xs.length = some j ∧ xs[j]? = some v ∧ j < xs.length ∧ -(xs.length : Int) ≤ i ∧ i < xs.length := by
 unfold atI at h
 cases e : ixN xs.length i with
 | none => rw [e] at h; cases h
 | some j =>
   rw [e] at h
   obtain ⟨h1, h2, h3, h4⟩ := ixN_seq e
   exact ⟨j, h1, h, h2, h3, h4⟩
theorem atI_nat {α : Type} {xs : List α} {j : Nat} {v : α} (h : xs[j]? = some v) : atI xs (j : Int) = some v := by
 have hj : j < xs.length := (List.getElem?_eq_some_iff.mp h).1
 have e : ixN xs.length (j : Int) = some j := by
   unfold ixN
   rw [if_pos (by omega), if_pos (by omega)]; simp
 unfold atI; rw [e]; exact h
noncomputable def PlainIx (b : Expr) : Prop := ∀ o i, subscripted b false o i = operate [o, i] (getItem o i)
noncomputable def IxR (X : Cx) (r : R2) : Prop :=
 ∀ (value slice : Expr) (pins : List (Addr × Obj)) (s : Shared) (σ : St) (H : Hp) (x y : V) (v u : Value) (Q : VK), Inv X pins σ H s → RelV x v → RelV y u → r x y H Q →
   subscripted slice false v u = operate [v, u] (getItem v u) → wpAny (model X.prog X.w) X.A (subscriptTail value slice v u) (EP X pins σ Q) X.xe s
noncomputable def MtR (X : Cx) (id : String) (r : V → List V → Hp → VK → Prop) : Prop :=
 ∀ (pins : List (Addr × Obj)) (s : Shared) (σ : St) (H : Hp) (x : V) (xs : List V) (v : Value) (us : List Value) (Q : VK), Inv X pins σ H s → RelV x v → Vals xs us → r x xs H Q →
   wpAny (model X.prog X.w) X.A (call (.builtin id) (v :: us)) (EP X pins σ Q) X.xe s
section
variable {X : Cx} {a b : Expr} {ta tb : TE} {pos : Pos}
theorem pe_ix {r : R2} (hr : IxR X r) (ha : PE X a ta) (hb : PE X b tb) (hs : PlainIx b) : PE X (.Subscript a b pos) (tOp r ta tb) := by
 intro pins s σ H Q I h
 exact Subscript_ (binT ha hb I h fun v u s2 x y H2 I2 rx ry q => hr a b pins s2 σ H2 x y v u Q I2 rx ry q (hs _ _))
noncomputable def rIxL (K : PySem.W.Frag) : R2 := fun x y H Q => ∃ p xs i v, x = .ref p ∧ y = .int i ∧ SqL K H p xs ∧ atI xs i = some v ∧ Q v H
noncomputable def rIxT (K : PySem.W.Frag) : R2 := fun x y H Q => ∃ p xs i v, x = .ref p ∧ y = .int i ∧ SqT K H p xs ∧ atI xs i = some v ∧ Q v H
theorem ix_list : IxR X (rIxL X.K) := by
 intro value slice pins s σ H x y v u Q I rx ry h hs
 obtain ⟨p, xs, i, z, rfl, rfl, hq, he, q⟩ := h
 cases rx
 obtain ⟨t, rfl⟩ := ry
 obtain ⟨its, r, pl, hz⟩ := I.list hq
 obtain ⟨j, h1, h2, h3, h4, h5⟩ := atI_get he
 obtain ⟨w, ew, rw'⟩ := r.get h2
 have hl := r.length
 have hn := line63
 have fin : EP X pins σ Q w s := ⟨z, H, I, rw', q⟩
 by_cases h0 : 0 ≤ i
 · have hj : i.toNat = j := by
     rw [seqIndex_of h0 h5] at h1
     exact Option.some.inj h1
   exact item_listR pl.isList h0 (by omega) (by rw [hj]; simpa using ew) fin hs
 · have hj : (i + (its.toArray.size : Int)).toNat = j := by
     rw [seqIndex_neg (by omega) h4] at h1
     rw [List.size_toArray, ← hl]
     exact Option.some.inj h1
   exact subscriptTail_builtinR (x := w) pl.isList.typeIs slot_list_getitem.lookup
     (wpAny_getItem_list_neg (Q := fun r s' => r = w ∧ EP X pins σ Q r s') pl.isList (by omega) (by rw [List.size_toArray] <;> omega) (by omega) (by rw [hj]; simpa using ew) ⟨rfl, fin⟩) hs
theorem ix_tup : IxR X (rIxT X.K) := by
 intro value slice pins s σ H x y v u Q I rx ry h hs
 obtain ⟨p, xs, i, z, rfl, rfl, hq, he, q⟩ := h
 cases rx
 obtain ⟨t, rfl⟩ := ry
 obtain ⟨its, r, pl, hz⟩ := I.tuple hq
 obtain ⟨j, h1, h2, h3, h4, h5⟩ := atI_get he
 obtain ⟨w, ew, rw'⟩ := r.get h2
 have hl := r.length
 have hn := line63
 have fin : EP X pins σ Q w s := ⟨z, H, I, rw', q⟩
 exact subscriptTail_builtinR (x := w) pl.typeIs slot_tuple_getitem.lookup
   (getItem_tuple (j := j) (Q := fun r s' => r = w ∧ EP X pins σ Q r s') pl (by omega) (by omega) (by rw [List.size_toArray, ← hl]; exact h1) (by simpa using ew) ⟨rfl, fin⟩) hs
theorem slice_bounds (lo hi : Option Int) (n : Nat) : (sliceBounds lo hi none n).1 = ((HT.sIx n 0 lo : Nat) : Int) ∧ (sliceBounds lo hi none n).2.1 = ((HT.sIx n n hi : Nat) : Int) ∧ (sliceBounds lo hi none n).2.2 = 1 := by
 refine ⟨?_, ?_, rfl⟩
 · cases lo with
   | none => simp [sliceBounds, HT.sIx]
   | some i =>
     simp only [sliceBounds, HT.sIx, Option.getD_none, show (1 : Int) > 0 by decide, if_true]
     by_cases h : i < 0
     · simp only [h, if_true] <;> omega
     · simp only [h, if_false] <;> omega
 · cases hi with
   | none => simp [sliceBounds, HT.sIx]
   | some i =>
     simp only [sliceBounds, HT.sIx, Option.getD_none, show (1 : Int) > 0 by decide, if_true]
     by_cases h : i < 0
     · simp only [h, if_true] <;> omega
     · simp only [h, if_false] <;> omega
theorem slicePick_cut (its : List Value) (lo hi : Option Int) : slicePick its.toArray lo hi none = ((its.drop (HT.sIx its.length 0 lo)).take (HT.sIx its.length its.length hi - HT.sIx its.length 0 lo)).toArray := by
 obtain ⟨h1, h2, h3⟩ := slice_bounds lo hi its.toArray.size
 unfold slicePick
 rw [h1, h2, h3]
 simp only [sliceRange_one, pick_run, List.size_toArray] <;> rfl
noncomputable def rSlL (K : PySem.W.Frag) : V → Option Int → Option Int → Hp → VK → Prop := fun x lo hi H Q => ∃ a xs, x = .ref a ∧ SqL K H a xs ∧ ∀ p, H p = none → Q (.ref p) (upd H p (.lst (cutV xs lo hi)))
theorem sl_list : SlR X (rSlL X.K) := by
 intro pins s σ H x v vl vu lo hi sl Q I rx hs pl pu h
 obtain ⟨a, xs, rfl, hx, q⟩ := h
 cases rx
 obtain ⟨its, r, ht, hz⟩ := I.list hx
 have hlen := r.length
 refine ⟨"list", _, slot_list_getitem.lookup, ht.isList.typeIs, ?_⟩
 refine wpAny_getItem_list_slice ht.isList hs pl pu .none (by simp) ?_ (by rw [List.size_toArray] <;> omega)
 rw [slicePick_cut, ← hlen]
 refine ⟨.ref s.heap.objs.size, _, I.laid (t' := s.toks) (o := .lst (cutV xs lo hi)) (fun b ob q => Heap.get?_push_of_some _ q) (Nat.le_refl _) ?_, rfl, q _ (I.hok.fresh (Nat.le_refl _))⟩
 exact ⟨Nat.le_trans (cutV_length xs lo hi) hz, _, 0, (r.drop (HT.sIx xs.length 0 lo)).take (HT.sIx xs.length xs.length hi - HT.sIx xs.length 0 lo), Heap.get?_push_size _ rfl⟩
theorem call_len_seq : CallR X (.builtin "len") (fun xs H Q => ∃ p ys, xs = [.ref p] ∧ (SqL X.K H p ys ∨ SqT X.K H p ys) ∧ Q (.int ys.length) H) := by
 intro pins s σ H xs us Q I r h
 obtain ⟨p, ys, rfl, hq, q⟩ := h
 obtain ⟨u, rfl, rx⟩ := vals1 r
 cases rx
 have hn := line63
 rcases hq with hq | hq
 · obtain ⟨its, r', pl, hz⟩ := I.list hq
   have hlen := r'.length
   exact Calls.call_len_list pl.isList (by simp only [List.size_toArray] <;> omega) ⟨.int ys.length, H, I.tok _, ⟨s.toks + 1, by rw [List.size_toArray, hlen]⟩, q⟩
 · obtain ⟨its, r', pl, hz⟩ := I.tuple hq
   have hlen := r'.length
   exact len_tuple pl (by simp only [List.size_toArray] <;> omega) ⟨.int ys.length, H, I.tok _, ⟨s.toks + 1, by rw [List.size_toArray, hlen]⟩, q⟩
theorem call_list_of : CallR X (.type "list") (fun xs H Q => ∃ p ys, xs = [.ref p] ∧ (SqL X.K H p ys ∨ SqT X.K H p ys) ∧ ∀ l, H l = none → Q (.ref l) (upd H l (.lst ys))) := by
 intro pins s σ H xs us Q I r h
 obtain ⟨p, ys, rfl, hq, q⟩ := h
 obtain ⟨u, rfl, rx⟩ := vals1 r
 cases rx
 have fin : ∀ (its : List Value), Vals ys its → ys.length ≤ sizeLine → ∀ (h' : Heap) (c' : Nat), (∀ b o', s.heap.get? b = some o' → h'.get? b = some o') →
     h'.get? s.heap.objs.size = some { cls := .type "list", dict := none, data := .seq its.toArray c', slots := #[] } → EP X pins σ Q (.ref s.heap.objs.size) { s with heap := h' } := fun its r' hz h' c' kp e =>
   ⟨.ref s.heap.objs.size, _, I.laid (t' := s.toks) kp (Nat.le_refl _) (show ObjOk X.prog X.w _ h' _ (.lst ys) from ⟨hz, its, c', r', e⟩), rfl, q _ (I.hok.fresh (Nat.le_refl _))⟩
 rcases hq with hq | hq
 · obtain ⟨its, r', pl, hz⟩ := I.list hq
   have hlen := r'.length
   obtain ⟨o, ho, hc, n, hd⟩ := pl.isList
   exact call_list_seq p (.inl rfl) ho hc hd (fun h' c' kp e => fin its r' hz h' c' kp e) (by simp only [List.size_toArray] <;> omega)
 · obtain ⟨its, r', pl, hz⟩ := I.tuple hq
   have hlen := r'.length
   obtain ⟨o, ho, hc, n, hd⟩ := pl
   exact call_list_seq p (.inr rfl) ho hc hd (fun h' c' kp e => fin its r' hz h' c' kp e) (by simp only [List.size_toArray] <;> omega)
theorem call_tuple_of : CallR X (.type "tuple") (fun xs H Q => ∃ p ys, xs = [.ref p] ∧ ((SqL X.K H p ys ∧ ∀ l, H l = none → Q (.ref l) (upd H l (.tup ys))) ∨ (SqT X.K H p ys ∧ Q (.ref p) H))) := by
 intro pins s σ H xs us Q I r h
 obtain ⟨p, ys, rfl, h⟩ := h
 obtain ⟨u, rfl, rx⟩ := vals1 r
 cases rx
 rcases h with ⟨hq, q⟩ | ⟨hq, q⟩
 · obtain ⟨its, r', pl, hz⟩ := I.list hq
   have hlen := r'.length
   refine call_tuple_list pl.isList (fun h' kp => ?_) (by simp only [List.size_toArray] <;> omega)
   have I1 : Inv X pins σ H { s with heap := h' } := I.kept (t' := s.toks) kp
   have I2 : Inv X pins σ (upd H h'.objs.size (.tup ys)) { s with heap := h'.push { cls := .type "tuple", data := .seq its.toArray } } :=
     I1.laid (t' := s.toks) (fun b o e => Heap.get?_push_of_some _ e) (Nat.le_refl _) (show ObjOk X.prog X.w _ _ _ (.tup ys) from ⟨hz, its, r', IsTupN.new _ _⟩)
   exact ⟨.ref h'.objs.size, _, I2, rfl, q _ (I1.hok.fresh (Nat.le_refl _))⟩
 · obtain ⟨its, r', pl, hz⟩ := I.tuple hq
   exact call_tuple_same pl ⟨.ref p, H, I, rfl, q⟩
noncomputable def tyV (K : PySem.W.Frag) (T : String) (x : V) (H : Hp) : Prop := match x with
 | .str _ => T = "str"
 | .int _ => T = "int"
 | .ref p => (T = "list" ∧ ∃ xs, SqL K H p xs) ∨ (T = "tuple" ∧ ∃ o, K.lookup p = some o ∧ o.cls = .type "tuple" ∧ o.dict = none) ∨
     (T = "dict" ∧ ((∃ kvs, H p = some (.dK kvs)) ∨ ∃ kvs, H p = some (.dT kvs))) ∨ (T = "set" ∧ ∃ S n, H p = some (.set S n))
 | _ => False
theorem tyV_is {pins : List (Addr × Obj)} {σ : St} {H : Hp} {s : Shared} {T : String} {x : V} {v : Value} (I : Inv X pins σ H s) (r : RelV x v) (ty : tyV X.K T x H) :
   s.TypeIs v T ∧ ∀ a, v = .ref a → ∃ ob, s.heap.get? a = some ob ∧ ob.dict = none := by
 cases x with
 | str z =>
   obtain ⟨t, rfl⟩ := r
   cases (show T = "str" from ty)
   exact ⟨typeIs_str s z t, fun _ e => nomatch e⟩
 | int i =>
   obtain ⟨t, rfl⟩ := r
   cases (show T = "int" from ty)
   exact ⟨typeIs_int s i t, fun _ e => nomatch e⟩
 | ref p =>
   cases r
   rcases ty with ⟨rfl, xs, hq⟩ | ⟨rfl, o, hk, hc, hd⟩ | ⟨rfl, hk⟩ | ⟨rfl, S, n, hk⟩
   · obtain ⟨its, _, pl, _⟩ := I.list hq
     refine ⟨pl.isList.typeIs, fun a e => ?_⟩
     cases e
     obtain ⟨o, n, e, c, hd, _⟩ := pl
     exact ⟨o, e, hd⟩
   · refine ⟨⟨o, I.kIn p o hk, hc⟩, fun a e => ?_⟩
     cases e
     exact ⟨o, I.kIn _ o hk, hd⟩
   · have z : ∃ o, s.heap.get? p = some o ∧ o.ExactDict := by
       rcases hk with ⟨kvs, hk⟩ | ⟨kvs, hk⟩
       · obtain ⟨_, _, _, _, o, _, _, e, ex, _⟩ := I.hok p _ hk
         exact ⟨o, e, ex⟩
       · obtain ⟨_, _, _, _, o, _, _, e, ex, _⟩ := I.hok p _ hk
         exact ⟨o, e, ex⟩
     obtain ⟨o, e, ex⟩ := z
     refine ⟨⟨o, e, ex.1⟩, fun a e2 => ?_⟩
     cases e2
     exact ⟨o, e, ex.2.1⟩
   · obtain ⟨o, _, _, _, e, ex, _⟩ := I.hok p _ hk
     refine ⟨⟨o, e, ex.1⟩, fun a e2 => ?_⟩
     cases e2
     exact ⟨o, e, ex.2.1⟩
 | _ => exact False.elim ty
noncomputable def tBM0 (K : PySem.W.Frag) (T : String) (r : V → List V → Hp → VK → Prop) (to : TE) : TE := fun σ H Q => to σ H fun x H1 => tyV K T x H1 ∧ r x [] H1 Q
noncomputable def tBM (K : PySem.W.Frag) (T : String) (r : V → List V → Hp → VK → Prop) (to : TE) (t : TA) : TE := fun σ H Q => to σ H fun x H1 => tyV K T x H1 ∧ t σ H1 fun xs H2 => r x xs H2 Q
variable {o e : Expr} {es : List Expr} {to : TE} {t : TA} {name : Str} {apos cpos : Pos} {T id : String} {r : V → List V → Hp → VK → Prop}
theorem pe_bm0 (pa : PlainAttrs T) (slot : Slot T name id) (hty : typeOf (.builtin id) = pure (.type "method_descriptor")) (hm : MtR X id r) (ho : PE X o to)
   (hbase : attributeBase o name X.env (eval o X.env) = eval o X.env := by rfl) (hline : (apos.endLine == cpos.line) = true := by rfl) : PE X (.Call (.Attribute o name apos) [] [] cpos) (tBM0 X.K T r to) := by
 intro pins s σ H Q I h
 refine wpAny_Call_method0_late hbase hline (thn (ho pins s σ H _ I h) fun v s1 ⟨x, H1, I1, r1, ty, q1⟩ => ?_)
 obtain ⟨h1, h2⟩ := tyV_is I1 r1 ty
 exact ⟨T, id, pa, slot, hty, h1, h2, Calls.callWith_builtin rfl (PySem.evalArgs_none (hm pins s1 σ H1 x [] v [] Q I1 r1 .nil q1))⟩
theorem pe_bm (pa : PlainAttrs T) (slot : Slot T name id) (hty : typeOf (.builtin id) = pure (.type "method_descriptor")) (hm : MtR X id r) (ho : PE X o to) (ha : PA X (e :: es) t)
   (hbase : attributeBase o name X.env (eval o X.env) = eval o X.env := by rfl)
   (hfew : ((backTo cpos (starEach (e :: es) X.env)).all (fun x => !x.1) && (backToKw cpos (keywordEach [] X.env)).all (fun x => x.1.isSome)
     && decide ((e :: es).length + ([] : List Keyword).length + (if ([] : List Keyword).isEmpty then 0 else 1) < 30)) = true := by rfl)
   (hline : (apos.endLine == cpos.line) = true := by rfl) (hs : starEach (e :: es) X.env = (false, eval e X.env) :: starEach es X.env := by rfl) (hplain : (backTo cpos (starEach es X.env)).any (·.1) = false := by rfl) :
   PE X (.Call (.Attribute o name apos) (e :: es) [] cpos) (tBM X.K T r to t) := by
 intro pins s σ H Q I h
 refine wpAny_Call_method_late hbase hfew hline rfl (thn (ho pins s σ H _ I h) fun v s1 ⟨x, H1, I1, r1, ty, q1⟩ => ?_)
 obtain ⟨h1, h2⟩ := tyV_is I1 r1 ty
 refine ⟨T, id, pa, slot, hty, h1, h2, ?_⟩
 have hA := ha cpos pins s1 σ H1 _ I1 q1
 rw [hs] at hA ⊢
 refine Calls.callWith_builtin (by show (false || (backTo cpos (starEach es X.env)).any (·.1)) = false; rw [hplain] <;> rfl) (Calls.evalArgs_plain ?_)
 exact thn hA fun us s2 ⟨vs, H2, I2, r2, q2⟩ => hm pins s2 σ H2 x vs v us Q I2 r1 r2 q2
end
end L2
namespace L2
open PySem PySem.Spec PyProof.Rows
noncomputable def MtM (X : Cx) (id : String) (r : V → List V → Hp → VK → Prop) : Prop :=
 ∀ (pins : List (Addr × Obj)) (s : Shared) (σ : St) (H : Hp) (x : V) (xs : List V) (v : Value) (us : List Value) (Q : VK), Inv X pins σ H s → RelV x v → Vals xs us → r x xs H Q →
   wpAny (model X.prog X.w) X.A (call (.builtin id) (v :: us)) (EP X pins σ Q) X.xe s
theorem Vals.one : ∀ {x : V} {us : List Value}, Vals [x] us → ∃ u, us = [u] ∧ RelV x u
 | _, _, .cons r .nil => ⟨_, rfl, r⟩
theorem Vals.zero : ∀ {us : List Value}, Vals [] us → us = []
 | _, .nil => rfl
theorem Vals.dropLast {xs : List V} {us : List Value} (h : Vals xs us) : Vals xs.dropLast us.dropLast := by
 induction h with
 | nil => exact .nil
 | cons r t ih =>
   cases t with
   | nil => exact .nil
   | cons q t' => exact .cons r ih
theorem erase_last {α : Type} (l : List α) : l.eraseIdx (l.length - 1) = l.dropLast := by
 induction l with
 | nil => rfl
 | cons a r ih =>
   cases r with
   | nil => rfl
   | cons b r =>
     have e : (a :: b :: r).length - 1 = ((b :: r).length - 1) + 1 := by
       have h1 : (a :: b :: r).length = r.length + 2 := rfl
       have h2 : (b :: r).length = r.length + 1 := rfl
       omega
     rw [e, List.eraseIdx_cons_succ, ih]
     all_goals rfl
section
variable {X : Cx} {pins : List (Addr × Obj)} {σ : St} {H : Hp} {s : Shared} {l b : Addr} {xs ys zs : List V}
theorem Inv.lset {its its' : List Value} {n : Nat} {f : Array Value → Array Value} {t' : Nat} (I : Inv X pins σ H s) (hH : H l = some (.lst xs))
   (e : s.heap.get? l = some { cls := .type "list", data := .seq its.toArray n }) (hf : f its.toArray = its'.toArray) (hv : Vals ys its') (hz : ys.length ≤ sizeLine) :
   Inv X pins σ (upd H l (.lst ys)) { s with heap := s.heap.update l (Obj.mapSeq f), toks := t' } := by
 have q := PySem.IsL.update e f
 rw [hf] at q
 refine I.write (x := l) (e := l) (by rw [hH]; exact trivial) (.inl rfl) (fun b' u hb hu => (Heap.get?_update_other s.heap (Obj.mapSeq f) (Ne.symm hb)).trans hu) ⟨_, q⟩ ?_
 exact ⟨hz, its', _, hv, q⟩
theorem Inv.lnew {its : List Value} {t' : Nat} (I : Inv X pins σ H s) (hv : Vals ys its) (hz : ys.length ≤ sizeLine) :
   Inv X pins σ (upd H s.heap.objs.size (.lst ys)) { s with heap := s.heap.push { cls := .type "list", data := .seq its.toArray }, toks := t' } :=
 I.laid (fun _ _ q => Heap.get?_push_of_some _ q) (Nat.le_refl _) ⟨hz, its, 0, hv, Heap.get?_push_size _ rfl⟩
theorem Inv.fresh (I : Inv X pins σ H s) : H s.heap.objs.size = none := I.hok.fresh (Nat.le_refl _)
theorem Inv.lstM (I : Inv X pins σ H s) (hH : H l = some (.lst xs)) : xs.length ≤ sizeLine ∧ ∃ (its : List Value) (n : Nat), Vals xs its ∧ xs.length = its.length ∧ s.heap.get? l = some { cls := .type "list", data := .seq its.toArray n } := by
 obtain ⟨z, its, n, r, e⟩ := I.hok l _ hH
 exact ⟨z, its, n, r, r.length, e⟩
end
section
variable {X : Cx}
noncomputable def rAppend : V → List V → Hp → VK → Prop := fun x vs H Q => ∃ l xs y, x = .ref l ∧ vs = [y] ∧ H l = some (.lst xs) ∧ xs.length < sizeLine ∧ Q .non (upd H l (.lst (xs ++ [y])))
theorem mt_append : MtM X "list.append" rAppend := by
 intro pins s σ H x vs v us Q I rx rv h
 obtain ⟨l, xs, y, rfl, rfl, hH, hz, q⟩ := h
 cases rx
 obtain ⟨u, rfl, ru⟩ := rv.one
 obtain ⟨z, its, n, r, hl, e⟩ := I.lstM hH
 refine call_meets F.slot_list_append ⟨_, e, rfl⟩ F.entry_list_append (F.args_list_append_2 _ _) (PySem.list_append l its.toArray n u (by rw [List.size_toArray]; omega)) ⟨e, ?_⟩
 refine ⟨.non, _, I.lset (its' := its ++ [u]) hH e (by simp) (r.append (.cons ru .nil)) ?_, rfl, q⟩
 rw [List.length_append, List.length_singleton]
 omega
noncomputable def rPop : V → List V → Hp → VK → Prop := fun x vs H Q => ∃ l xs y, x = .ref l ∧ vs = [] ∧ H l = some (.lst xs) ∧ xs[xs.length - 1]? = some y ∧ Q y (upd H l (.lst xs.dropLast))
theorem mt_pop : MtM X "list.pop" rPop := by
 intro pins s σ H x vs v us Q I rx rv h
 obtain ⟨l, xs, y, rfl, rfl, hH, hy, q⟩ := h
 cases rx
 have hus := rv.zero
 subst hus
 obtain ⟨z, its, n, r, hl, e⟩ := I.lstM hH
 obtain ⟨u, hu, ru⟩ := r.get hy
 have hy' : its.toArray[its.toArray.size - 1]? = some u := by
   show its.toArray[its.length - 1]? = some u
   rw [← Array.getElem?_toList, ← hl]
   exact hu
 refine call_meets F.slot_list_pop ⟨_, e, rfl⟩ F.entry_list_pop (F.args_list_pop_1 _) (MeetsSeq.list_pop_last l its.toArray n u hy' (by rw [List.size_toArray]; omega)) ⟨e, ?_⟩
 refine ⟨y, _, I.lset (its' := its.dropLast) hH e ?_ r.dropLast ?_, ru, q⟩
 · show its.toArray.eraseIdxIfInBounds (its.toArray.size - 1) = its.dropLast.toArray
   rw [List.size_toArray, List.eraseIdxIfInBounds_toArray, erase_last]
 · rw [List.length_dropLast]
   omega
noncomputable def rClear : V → List V → Hp → VK → Prop := fun x vs H Q => ∃ l xs, x = .ref l ∧ vs = [] ∧ H l = some (.lst xs) ∧ Q .non (upd H l (.lst []))
theorem mt_clear : MtM X "list.clear" rClear := by
 intro pins s σ H x vs v us Q I rx rv h
 obtain ⟨l, xs, rfl, rfl, hH, q⟩ := h
 cases rx
 have hus := rv.zero
 subst hus
 obtain ⟨z, its, n, r, hl, e⟩ := I.lstM hH
 refine call_meets F.slot_list_clear ⟨_, e, rfl⟩ F.entry_list_clear (F.args_list_clear_1 _) (AutoSeq1.list_clear_list_0 l its.toArray n (by rw [List.size_toArray]; omega)) ⟨e, ?_⟩
 exact ⟨.non, _, I.lset (its' := []) (ys := []) hH e rfl .nil (Nat.zero_le _), rfl, q⟩
end
section
variable {prog : Program} {w : World} {A : Around} {E : Value → Shared → Prop} {s : Shared}
end
section
variable {X : Cx}
end
end L2
namespace Att
open PySem PySem.W PySem.Calls PyProof.Rows
theorem ints_of_wellAll {P : Params} {h : Heap} : ∀ (ns : List Int) (vs : List Value), WellAll P h vs (ns.map WData.int) → IntsAre vs ns := by
 intro ns
 induction ns with
 | nil =>
   intro vs w
   rw [List.map_nil] at w
   cases w
   exact .nil
 | cons n ns ih =>
   intro vs w
   rw [List.map_cons] at w
   cases w with
   | cons a b =>
     cases a
     exact .cons _ _ (ih _ b)
theorem script_of {l : OpenLaw} {n : Nat} (hn : l.most = some n) {P : Params} {h : Heap} {args : List WData} {vals : List Value}
   (hpre : l.row.toRowW.claim.pre args = true) (hwl : WellAll P h vals args) :
   ∃ a vs ns, vals = [Value.ref a] ∧ args = [WData.list (ns.map WData.int)] ∧ h.get? a = some { cls := .type "list", data := .seq vs.toArray } ∧ IntsAre vs ns ∧ ns.length ≤ n := by
 have hsh : WShape.hasAll [] args [.list .int] = true := (pre_splitW hpre).1
 have hc : l.pre.holds [] { args := args } = true := (pre_splitW hpre).2
 obtain ⟨d, r, rfl, h1, h2⟩ := hasAllW_cons hsh
 obtain rfl := hasAllW_nil h2
 obtain ⟨xs, rfl, h3⟩ := hasW_list h1
 obtain ⟨ns, rfl⟩ := items_int h3
 have hlen : ns.length ≤ n := by
   unfold OpenLaw.pre at hc
   have h4 : (WTm.not (.lt (.lit (.int (n : Int))) (.len (.arg 0)))).holds [] { args := [.list (ns.map .int)] } = true := by
     have h4 := (holds_andW hc).1
     rw [hn] at h4
     exact h4
   have h5 := condW_of h4 (w_not (w_lt w_lit (w_len_list (w_arg rfl))))
   rw [List.length_map] at h5
   refine Nat.le_of_not_lt fun q => ?_
   have q' : (n : Int) < ((ns.length : Nat) : Int) := by omega
   first
     | (rw [decide_eq_true q'] at h5; exact absurd h5 (by decide))
     | (simp at h5; omega)
 cases hwl with
 | cons w1 w2 =>
   cases w2
   cases w1 with
   | list ho hall => exact ⟨_, _, ns, rfl, rfl, ho, ints_of_wellAll ns _ hall, hlen⟩
theorem post_true (l : OpenLaw) (args : List WData) : l.row.toRowW.claim.post args (.bool true) args = true :=
 postW_of (r := l.row.toRowW) (X := (true == true))
   (show WShape.has [] (.bool true) .bool = true by first | rfl | decide | simp [WShape.has, WShape.arms, WShape.armsAll])
   (show (WTm.eq .res (.lit (.bool true))).value [] { args := args, res := some (.bool true), after := args } = some (.bool (true == true)) from w_eq_bool (w_res rfl) w_lit) rfl
theorem attach_call {l : OpenLaw} {n : Nat} {q : Program} {loose : List Str} {XP : (Str → Option Value) → Heap → Prop} {YP : World → Heap → Prop} {d : DefRec}
   (hn : l.most = some n) (hdf : d.params.defaults = [])
   (call : ∀ (w : World) (s₀ s₁ : Shared) (mg mb : Str → Option Value) (fa : Addr) (o : Obj) (pm cd doc : Value) (a : Addr) (vs : List Value) (ns : List Int),
     Ground q loose [] XP w s₀ mg mb s₁.heap → YP w s₁.heap →
     s₁.heap.get? fa = some o → o.data = .func (docDef d.name d.params d.body d.scope pm cd doc) → s₁.heap.CodeRec cd d.name → mg d.name = some (.ref fa) →
     s₁.heap.get? a = some { cls := .type "list", data := .seq vs.toArray } → IntsAre vs ns → ns.length ≤ n → s₁.gens = #[] →
     codeAny (model l.prog w) callerA (.call (.ref fa) ⟨[.ref a], []⟩) (fun r s' => r = .ok (.ret (.bool true)) ∧ OldK s₁.heap s'.heap ∧ s'.os = s₁.os ∧ AllBare s'.gens) s₁) :
   WalkO q loose XP YP l.row.toRowW d [] (fun f vs => PySem.call f vs) := by
 intro w s₀ s₁ mg mb G Y fa o pm cd doc dV kV ho hd hcd hD hmg hg args vals as hpre hlay hrd hwl hlo
 obtain rfl : dV = .none := Dflts.none hD hdf
 obtain rfl : kV = .none := Dflts.noKw hD
 obtain ⟨a, vs, ns, rfl, rfl, hobj, hints, hlen⟩ := script_of hn hpre hwl
 refine enter_call (codeAny_mono (call w s₀ s₁ mg mb fa o pm cd doc a vs ns G Y ho (fd_plain hd) hcd hmg hobj hints hlen hg) fun r s' hq => ?_)
 obtain ⟨rfl, h2, h3, h4⟩ := hq
 exact ⟨.inl ⟨.bool true, .bool true, [], rfl, fun _ => rfl, .bool true, post_true l _, fun _ => ⟨List.Pairwise.nil, fun _ hm => (nomatch hm)⟩⟩, h2, h3, h4⟩
section
variable {prog : Program} {w : World} {A : Around} {E : Value → Shared → Prop} {s : Shared} {K : Frag}
end
end Att
namespace L2
open PySem PySem.Spec PyProof.Rows
theorem vals_ints : ∀ {vs : List Value} {ns : List Int}, IntsAre vs ns → Vals (ns.map V.int) vs
 | _, _, .nil => .nil
 | _, _, .cons n t h => .cons ⟨t, rfl⟩ (vals_ints h)
noncomputable def Only (H : Hp) : Prop := ∀ b, H b = none ∨ ∃ o xs, H b = some (.frz o (.lst xs))
theorem law_call {P : Program} {w : World} {K : PySem.W.Frag} {mg mb : Str → Option Value} {CX : CXT} {k : Nat} {fa a : Addr} {fd : FuncData} {x : Str} {sp : Sp} {s₁ : Shared} {vs : List Value} {ns : List Int}
   (KX : K.In s₁.heap) (hns : s₁.heap.Ns mainGlobals mg) (hb : s₁.heap.Ns builtinsNs mb) (hbb : ∀ x : Str, x ≠ "__name__" → mb x = bootBuiltins x) (hlim : s₁.heap.NoLimit) (hg : s₁.gens = #[])
   (ha : s₁.heap.get? a = some { cls := .type "list", data := .seq vs.toArray }) (hi : IntsAre vs ns) (hl : ns.length ≤ sizeLine) (hr : Room k callerA)
   (F : ∀ base : Heap, K.In base → base.Ns mainGlobals mg → FnOk P w K mg base CX k fa fd [x] sp) (hbind : ∀ (s : Shared) (u : Value), BindsTo s fd ⟨[u], []⟩ [(x, u)])
   (hsp : ∀ H : Hp, Only H → SqL K H a (ns.map V.int) → sp [.ref a] H (fun v _ => v = .bl true) fun _ _ _ => False)
   (hCX : ∀ H e s', CX [] H s₁ (fun _ _ _ => False) e s' → False) :
   codeAny (model P w) callerA (.call (.ref fa) ⟨[.ref a], []⟩) (fun r s' => r = .ok (.ret (.bool true)) ∧ OldK s₁.heap s'.heap ∧ s'.os = s₁.os ∧ AllBare s'.gens) s₁ := by
 have rv := vals_ints hi
 have lenV := hi.length
 have core : ∀ H : Hp, Only H → SqL K H a (ns.map V.int) → HOk P w H s₁.heap → (∀ b, H b ≠ none → b = a) → (H a ≠ none → K.lookup a = none) →
     codeAny (model P w) callerA (.call (.ref fa) ⟨[.ref a], []⟩) (fun r s' => r = .ok (.ret (.bool true)) ∧ OldK s₁.heap s'.heap ∧ s'.os = s₁.os ∧ AllBare s'.gens) s₁ := by
   intro H hO hS hok hA hK
   have base_of : ∀ {b : Addr} {o : Obj}, s₁.heap.get? b = some o → H b = none → (hidT s₁.heap H).get? b = some o := fun e n => hidT_get e n
   have noA : ∀ {b : Addr} {o : Obj} {es : Array DictEntry} {ep : Nat}, s₁.heap.get? b = some o → o.data = .dict es ep → H b = none := fun {b o es ep} e d => by
     cases q : H b with
     | none => rfl
     | some u =>
       have e' : b = a := hA b (by rw [q]; simp)
       subst e'
       rw [ha] at e; cases e
       have d' : Data.seq vs.toArray _ = Data.dict es ep := d
       cases d'
   have nsK : ∀ {b : Addr} {m : Str → Option Value}, s₁.heap.Ns b m → (hidT s₁.heap H).Ns b m := fun {b m} ⟨o, es, ep, e, d, r⟩ => ⟨o, es, ep, base_of e (noA e d), d, r⟩
   have hKb : K.In (hidT s₁.heap H) := fun b o e => base_of (KX b o e) (by
     cases q : H b with
     | none => rfl
     | some u =>
       have e' : b = a := hA b (by rw [q]; simp)
       subst e'
       rw [hK (by rw [q]; simp)] at e; cases e)
   have hM : Mod K mg (hidT s₁.heap H) := ⟨hKb, nsK hns, ⟨mb, nsK hb, hbb⟩, let ⟨mc, h1, h2⟩ := hlim; ⟨mc, nsK h1, h2⟩⟩
   have e0 : Env0 P w K mg (hidT s₁.heap H) callerA [] s₁ H := ⟨rfl, hM, fun b o e => of_hidT e, Nat.le_of_eq (hidT_size _ _), trivial, fun b hb => absurd (show b ∈ ([] : List Addr) from hb) (by simp), hok, .of_eq hg⟩
   refine codeAny_mono ((F _ hKb (nsK hns)).run callerA [] s₁ H ⟨[.ref a], []⟩ [.ref a] [.ref a] _ _ hr e0 (hbind s₁ (.ref a)) (.cons rfl .nil) (hsp H hO hS)) fun r s' h => ?_
   cases r with
   | error e => exact (hCX H e s' h).elim
   | ok fl =>
     cases fl with
     | next => exact False.elim h
     | brk => exact False.elim h
     | cont => exact False.elim h
     | ret u =>
       obtain ⟨v, H', os, bare, un, hok', r', q⟩ := h
       have q' : v = .bl true := q
       subst q'
       obtain rfl : u = Value.bool true := r'
       refine ⟨rfl, OldK.of_keep fun b o e => ?_, os, bare⟩
       cases q : H b with
       | none => exact un.keep b o e q (by intro z; exact absurd (show b ∈ ([] : List Addr) from z) (by simp)) (by simp)
       | some u =>
         rcases hO b with z | ⟨ob, xs, z⟩
         · rw [q] at z; cases z
         · have z2 := un.frzs b ob _ z
           obtain ⟨e1, _⟩ := hok b _ z
           obtain ⟨e2, _⟩ := hok' b _ z2
           rw [e] at e1; cases e1
           exact e2
 cases hk : K.lookup a with
 | some o =>
   have e := KX a o hk
   rw [ha] at e
   cases e
   refine core (fun _ => none) (fun _ => .inl rfl) (.inr ⟨_, vs.toArray, _, hk, rfl, rfl, rfl, by rw [List.size_toArray, lenV]; exact hl, by simpa using rv⟩) (fun b u z => by have z' : (none : Option HO) = some u := z; cases z') (fun b z => absurd rfl z) fun z => absurd rfl z
 | none =>
   refine core (fun b => if b = a then some (.frz { cls := .type "list", data := .seq vs.toArray } (.lst (ns.map V.int))) else none) (fun b => ?_) (.inl (.inr ⟨{ cls := .type "list", data := .seq vs.toArray }, if_pos rfl⟩)) (fun b u z => ?_) (fun b z => ?_) fun _ => hk
   · by_cases hb : b = a
     · exact .inr ⟨_, _, if_pos hb⟩
     · exact .inl (if_neg hb)
   · by_cases hb : b = a
     · have z' := (if_pos hb).symm.trans z
       cases z'
       subst hb
       exact ⟨ha, by rw [List.length_map]; exact hl, vs, _, rv, ha⟩
     · have z' := (if_neg hb).symm.trans z
       cases z'
   · by_cases hb : b = a
     · exact hb
     · exact absurd (if_neg hb) z
end L2
namespace L2
open PySem PySem.Spec PyProof.Rows
theorem walk_of {l : PySem.W.OpenLaw} {n k : Nat} {q : Program} {loose : List Str} {XP : (Str → Option Value) → Heap → Prop} {YP : World → Heap → Prop} {d : DefRec} {K : Params → PySem.W.Frag} {CX : World → CXT} {sp : World → Sp} {x : Str}
   (hn : l.most = some n) (hn2 : n ≤ sizeLine) (hdf : d.params.defaults = []) (hr : Room k callerA)
   (hY : ∀ (w : World) (h : Heap), YP w h → (K w.params).In h)
   (F : ∀ (w : World) (mg : Str → Option Value) (fa : Addr) (h : Heap), (K w.params).In h → h.Ns mainGlobals mg → mg d.name = some (.ref fa) →
     ∃ fd : FuncData, (∀ (s : Shared) (u : Value), BindsTo s fd ⟨[u], []⟩ [(x, u)]) ∧
       ∀ base : Heap, (K w.params).In base → base.Ns mainGlobals mg → FnOk l.prog w (K w.params) mg base (CX w) k fa fd [x] (sp w))
   (hsp : ∀ (w : World) (H : Hp) (a : Addr) (ns : List Int), ns.length ≤ n → Only H → SqL (K w.params) H a (ns.map V.int) → sp w [.ref a] H (fun v _ => v = .bl true) fun _ _ _ => False)
   (hCX : ∀ (w : World) (H : Hp) (s : Shared) (e : Value) (s' : Shared), CX w [] H s (fun _ _ _ => False) e s' → False) :
   PySem.W.WalkO q loose XP YP l.row.toRowW d [] (fun f vs => PySem.call f vs) := by
 refine Att.attach_call hn hdf fun w s₀ s₁ mg mb fa o pm cd doc a vs ns G Y ho hd hcd hmg hobj hints hlen hg => ?_
 have KX := hY w _ Y
 obtain ⟨fd, hb, hF⟩ := F w mg fa _ KX G.T.g hmg
 exact law_call KX G.T.g G.T.b G.T.builtins G.T.nolimit hg hobj hints (Nat.le_trans hlen hn2) hr hF hb (fun H hO hS => hsp w H a ns hlen hO hS) fun H e s' => hCX w H s₁ e s'
end L2
namespace L2
open PySem PySem.Spec PyProof.Rows
noncomputable def inClass (s : Stmt) (j : Nat) : Stmt := match s with
 | .ClassDef _ _ _ body _ _ _ _ _ _ _ => body.getD j (.Pass ⟨0, 0, 0, 0⟩)
 | _ => .Pass ⟨0, 0, 0, 0⟩
noncomputable def defArgs (s : Stmt) : Arguments := match s with
 | .FunctionDef _ a _ _ _ _ _ _ _ _ => a
 | _ => { posonlyargs := [], args := [], vararg := none, kwonlyargs := [], kw_defaults := [], kwarg := none, defaults := [] }
noncomputable def defBody (s : Stmt) : List Stmt := match s with
 | .FunctionDef _ _ b _ _ _ _ _ _ _ => b
 | _ => []
noncomputable def defScope (s : Stmt) : Scope := match s with
 | .FunctionDef _ _ _ _ _ _ sc _ _ _ => sc
 | _ => { kind := .function, names := [], isGenerator := false, isCoroutine := false }
noncomputable abbrev CX0 : CXT := fun _ _ _ _ _ _ => False
noncomputable abbrev E0 : XK := fun _ _ _ => False
theorem pass0 {X : Cx} : Passes CX0 X E0 := fun _ _ _ _ _ _ _ h => h.elim
structure Fun (K : PySem.W.Frag) (x qual : Str) (st : Stmt) (f : Addr) (fd : FuncData) : Prop where
 ex : ∃ (oc : Value) (od : Option Addr) (kV doc pm : Value) (an : Option Addr) (cdv ct : Value) (osl : Array (Option Value)),
   fd = PySem.W.fnOf x qual (defArgs st) (defBody st) (defScope st) .none kV doc pm an cdv ct ∧ K.lookup f = some ⟨oc, od, .func fd, osl⟩ ∧ PySem.W.codeIn K cdv qual = true
 kp : PySem.W.keepIn K (.ref f) = true
section
variable {P : Program} {w : World} {K : PySem.W.Frag} {mg : Str → Option Value} {base : Heap}
theorem Fun.ok {x qual : Str} {st : Stmt} {f : Addr} {fd : FuncData} {N ps : List Str} {k : Nat} {sp : Sp} (F : Fun K x qual st f fd) (S : FnScope N ps (defScope st)) (len : ∀ vs H Q E, sp vs H Q E → vs.length = ps.length)
   (hbody : ∀ (cdv : Value) (A : Around) (outer : List Env) (s : Shared) (H : Hp) (vs : List V) (Q : VK) (E : XK), Room k (A.deeper (envOfC qual (defScope st) s.heap.objs.size f cdv)) → sp vs H Q E →
     ∃ t, PSs (cxOf CX0 P w K mg base N qual (defScope st) f cdv A outer s H E).nox (defBody st) t ∧ t { nx := fun _ H' => Q .non H', rt := Q } (start N vs) H) : FnOk P w K mg base CX0 (k + 1) f fd ps sp := by
 obtain ⟨oc, od, kV, doc, pm, an, cdv, ct, osl, rfl, lk, hcd⟩ := F.ex
 refine fn_of lk hcd S len fun A outer s H vs Q E hr hsp => ?_
 obtain ⟨t, h, q⟩ := hbody cdv A outer s H vs Q E hr hsp
 exact ⟨t, h.nox, q⟩
theorem Fun.binds {x qual : Str} {st : Stmt} {f : Addr} {fd : FuncData} {ps : List Str} (F : Fun K x qual st f fd)
   (h : ∀ (kV doc pm : Value) (an : Option Addr) (cdv ct : Value) (us : List Value), us.length = ps.length → bindArgs (PySem.W.fnOf x qual (defArgs st) (defBody st) (defScope st) .none kV doc pm an cdv ct) ⟨us, []⟩ = pure (ps.zip us)) : Binds K fd ps [] := by
 obtain ⟨oc, od, kV, doc, pm, an, cdv, ct, osl, rfl, lk, hcd⟩ := F.ex
 exact .all (h kV doc pm an cdv ct)
theorem fun_mk {x qual : Str} {st : Stmt} {f : Addr} {oc : Value} {od an : Option Addr} {osl : Array (Option Value)} {kV doc pm cdv ct : Value} (l : K.lookup f = some ⟨oc, od, .func (PySem.W.fnOf x qual (defArgs st) (defBody st) (defScope st) .none kV doc pm an cdv ct), osl⟩)
   (c : PySem.W.codeIn K cdv qual = true) (k : PySem.W.keepIn K (.ref f) = true) : Fun K x qual st f (PySem.W.fnOf x qual (defArgs st) (defBody st) (defScope st) .none kV doc pm an cdv ct) := ⟨⟨oc, od, kV, doc, pm, an, cdv, ct, osl, rfl, l, c⟩, k⟩
end
section
variable {X : Cx}
theorem pv (i : Nat) {x : Str} {pos : Pos} (hN : X.N[i]? = some x := by rfl) (hv : Vis X.env.scope x := by first | exact Or.inl rfl | exact Or.inr (Or.inl rfl) | exact Or.inr (Or.inr rfl)) (hd : (x == ("__debug__" : Str)) = false := by decide)
   (hcd : (x == ("__classdict__" : Str)) = false := by decide) : PE X (.Name x pos) (tVar i) := pe_var hN hv hd hcd
end
theorem ite2 {c A B : Prop} [Decidable c] (h1 : c → A) (h2 : ¬ c → B) : if c then A else B := by
 by_cases h : c
 · rw [if_pos h]
   exact h1 h
 · rw [if_neg h]
   exact h2 h
noncomputable def Same (H H' : Hp) : Prop := ∀ b o, H b = some o → H' b = some o
theorem Same.refl (H : Hp) : Same H H := fun _ _ h => h
theorem Same.trans {H H1 H2 : Hp} (a : Same H H1) (b : Same H1 H2) : Same H H2 := fun c o h => b c o (a c o h)
theorem Same.free {H H' : Hp} (e : Same H H') {l : Addr} (h : H' l = Option.none) : H l = Option.none := by
 cases q : H l with
 | none => rfl
 | some o =>
   rw [e l o q] at h
   cases h
theorem Same.seq {K : PySem.W.Frag} {H H' : Hp} {a : Addr} {xs : List V} (e : Same H H') (h : SqL K H a xs) : SqL K H' a xs := by
 rcases h with (h | ⟨o, h⟩) | h
 · exact .inl (.inl (e _ _ h))
 · exact .inl (.inr ⟨o, e _ _ h⟩)
 · exact .inr h
end L2
namespace L2
open PySem PySem.Spec PyProof.Rows
section
variable {κ : Type} [DecidableEq κ]
noncomputable def valV (kvs : List (κ × V)) (k : κ) : Option V := (kvs.find? fun kv => decide (kv.1 = k)).map (·.2)
noncomputable def putK (kvs : List (κ × V)) (k : κ) (v : V) : List (κ × V) :=
 if (kvs.any fun kv => decide (kv.1 = k)) = true then kvs.map (fun kv => if kv.1 = k then (kv.1, v) else kv) else kvs ++ [(k, v)]
noncomputable def dropK (kvs : List (κ × V)) (k : κ) : List (κ × V) := kvs.filter fun kv => decide (kv.1 ≠ k)
theorem valV_pos {p : κ × V} {r : List (κ × V)} {k : κ} (e : p.1 = k) : valV (p :: r) k = some p.2 := by simp [valV, List.find?_cons, e]
theorem valV_neg {p : κ × V} {r : List (κ × V)} {k : κ} (e : ¬ p.1 = k) : valV (p :: r) k = valV r k := by simp [valV, List.find?_cons, e]
theorem valV_any (k : κ) : ∀ kvs : List (κ × V), (kvs.any fun kv => decide (kv.1 = k)) = (valV kvs k).isSome
 | [] => rfl
 | p :: r => by
   rw [List.any_cons]
   by_cases e : p.1 = k
   · simp only [valV_pos e, decide_eq_true e, Bool.true_or, Option.isSome_some]
   · rw [valV_neg e, decide_eq_false e, Bool.false_or]; exact valV_any k r
theorem length_putK (kvs : List (κ × V)) (k : κ) (v : V) : (putK kvs k v).length ≤ kvs.length + 1 := by
 unfold putK
 split
 · rw [List.length_map]; omega
 · rw [List.length_append, List.length_cons, List.length_nil]; omega
theorem RelO.isSome_eq {o : Option V} {u : Option Value} (r : RelO o u) : o.isSome = u.isSome := by
 cases o with
 | none => cases u with
   | none => rfl
   | some _ => exact (show False from r).elim
 | some _ => cases u with
   | none => exact (show False from r).elim
   | some _ => rfl
theorem RelO.getD {o : Option V} {u : Option Value} {d : V} {d' : Value} (r : RelO o u) (rd : RelV d d') : RelV (o.getD d) (u.getD d') := by
 cases o with
 | none => cases u with
   | none => exact rd
   | some _ => exact (show False from r).elim
 | some _ => cases u with
   | none => exact (show False from r).elim
   | some _ => exact r
theorem KV.val {kvs : List (κ × V)} {vs : List (κ × Value)} (r : KV kvs vs) (k : κ) : RelO (valV kvs k) (valueAt vs k) := by
 unfold KV at r
 induction r with
 | nil => exact True.intro
 | @cons p q ps qs h t ih =>
   obtain ⟨h1, h2⟩ := h
   by_cases e : p.1 = k
   · have e' : q.1 = k := h1.symm.trans e
     have b : valueAt (q :: qs) k = some q.2 := by simp [valueAt, List.find?_cons, e']
     rw [valV_pos e, b]; exact h2
   · have e' : ¬ q.1 = k := fun z => e (h1.trans z)
     have b : valueAt (q :: qs) k = valueAt qs k := by simp [valueAt, List.find?_cons, e']
     rw [valV_neg e, b]; exact ih
theorem KV.any {kvs : List (κ × V)} {vs : List (κ × Value)} (r : KV kvs vs) (k : κ) : (kvs.any fun kv => decide (kv.1 = k)) = vs.any fun kv => decide (kv.1 = k) := by
 unfold KV at r
 induction r with
 | nil => rfl
 | cons h t ih => rw [List.any_cons, List.any_cons, ih, h.1]
theorem KV.repl {kvs : List (κ × V)} {vs : List (κ × Value)} (r : KV kvs vs) (k : κ) {y : V} {u : Value} (ry : RelV y u) :
   KV (kvs.map fun kv => if kv.1 = k then (kv.1, y) else kv) (vs.map fun kv => if kv.1 = k then (kv.1, u) else kv) := by
 unfold KV at r ⊢
 induction r with
 | nil => exact .nil
 | @cons p q ps qs h t ih =>
   rw [List.map_cons, List.map_cons]
   refine .cons ?_ ih
   obtain ⟨h1, h2⟩ := h
   by_cases e : p.1 = k
   · rw [if_pos e, if_pos (h1.symm.trans e)]; exact ⟨h1, ry⟩
   · rw [if_neg e, if_neg (fun z => e (h1.trans z))]; exact ⟨h1, h2⟩
theorem KV.put {kvs : List (κ × V)} {vs : List (κ × Value)} (r : KV kvs vs) (k : κ) {y : V} {u : Value} (ry : RelV y u) : KV (putK kvs k y) (stored vs k u) := by
 unfold putK stored
 rw [r.any k]
 by_cases e : (vs.any fun kv => decide (kv.1 = k)) = true
 · rw [if_pos e, if_pos e]; exact r.repl k ry
 · rw [if_neg e, if_neg e]; exact Paired.snoc r ⟨rfl, ry⟩
theorem KV.drop {kvs : List (κ × V)} {vs : List (κ × Value)} (r : KV kvs vs) (k : κ) : KV (dropK kvs k) (without vs k) := by
 unfold KV at r ⊢
 unfold dropK without
 induction r with
 | nil => exact .nil
 | @cons p q ps qs h t ih =>
   obtain ⟨h1, h2⟩ := h
   rw [List.filter_cons, List.filter_cons]
   by_cases e : p.1 = k
   · have a : ¬ decide (p.1 ≠ k) = true := by simp [e]
     have b : ¬ decide (q.1 ≠ k) = true := by simp [h1.symm.trans e]
     rw [if_neg a, if_neg b]; exact ih
   · have e' : ¬ q.1 = k := fun z => e (h1.trans z)
     have a : decide (p.1 ≠ k) = true := by simp [e]
     have b : decide (q.1 ≠ k) = true := by simp [e']
     rw [if_pos a, if_pos b]; exact .cons ⟨h1, h2⟩ ih
theorem KV.keys {kvs : List (κ × V)} {vs : List (κ × Value)} (r : KV kvs vs) : kvs.map (·.1) = vs.map (·.1) := by
 unfold KV at r
 induction r with
 | nil => rfl
 | cons h t ih => rw [List.map_cons, List.map_cons, ih, h.1]
theorem KV.length {kvs : List (κ × V)} {vs : List (κ × Value)} (r : KV kvs vs) : kvs.length = vs.length := Paired.length r
theorem dropK_le (kvs : List (κ × V)) (k : κ) : (dropK kvs k).length ≤ kvs.length := List.length_filter_le _ _
end
theorem kV_is {P : Program} {w : World} {k : Key} {u : Value} (r : RelV (kV k) u) : (mixKind P w).is k u = true := by
 cases k with
 | inl i => obtain ⟨t, e⟩ := (show ∃ t, u = Value.int i t from r); subst e; exact mixKind_int P w i t
 | inr x => obtain ⟨t, e⟩ := (show ∃ t, u = Value.str x t from r); subst e; exact mixKind_str P w x t
theorem items_are {P : Program} {w : World} : ∀ {ks : List Key} {us : List Value}, Vals (ks.map kV) us → ItemsAre (mixKind P w) ks us
 | [], _, r => by rw [List.map_nil] at r; cases r; exact .nil
 | k :: ks, _, r => by
   rw [List.map_cons] at r
   cases r with
   | cons h t => exact .cons (kV_is h) (items_are t)
noncomputable abbrev KT (H : Hp) : List (List Key × V) → List (List Key × Addr × Value) → Prop := Paired fun p q => p.1 = q.1 ∧ H q.2.1 = some (.tup (p.1.map kV)) ∧ RelV p.2 q.2.2
theorem KT.val {H : Hp} {kvs : List (List Key × V)} {xs : List (List Key × Addr × Value)} (r : KT H kvs xs) (k : List Key) : RelO (valV kvs k) ((atKey xs k).map (·.2)) := by
 induction r with
 | nil => exact True.intro
 | @cons p q ps qs h t ih =>
   obtain ⟨h1, _, h2⟩ := h
   by_cases e : p.1 = k
   · have e' : q.1 = k := h1.symm.trans e
     have b : atKey (q :: qs) k = some q.2 := by simp [atKey, List.find?_cons, e']
     rw [valV_pos e, b]; exact h2
   · have e' : ¬ q.1 = k := fun z => e (h1.trans z)
     have b : atKey (q :: qs) k = atKey qs k := by simp [atKey, List.find?_cons, e']
     rw [valV_neg e, b]; exact ih
theorem KT.repl {H : Hp} {kvs : List (List Key × V)} {xs : List (List Key × Addr × Value)} (r : KT H kvs xs) (k : List Key) {y : V} {u : Value} (ry : RelV y u) :
   KT H (kvs.map fun kv => if kv.1 = k then (kv.1, y) else kv) (xs.map (putAt k u)) := by
 induction r with
 | nil => exact .nil
 | @cons p q ps qs h t ih =>
   rw [List.map_cons, List.map_cons]
   refine .cons ?_ ih
   obtain ⟨h1, h2, h3⟩ := h
   unfold putAt
   by_cases e : p.1 = k
   · rw [if_pos e, if_pos (h1.symm.trans e)]; exact ⟨h1, h2, ry⟩
   · rw [if_neg e, if_neg (fun z => e (h1.trans z))]; exact ⟨h1, h2, h3⟩
theorem KT.put {H : Hp} {kvs : List (List Key × V)} {xs : List (List Key × Addr × Value)} (r : KT H kvs xs) (k : List Key) {b : Addr} {y : V} {u : Value} (hb : H b = some (.tup (k.map kV))) (ry : RelV y u) :
   KT H (putK kvs k y) (storedH xs k b u) := by
 have e : (kvs.any fun kv => decide (kv.1 = k)) = (atKey xs k).isSome := by
   rw [valV_any, (r.val k).isSome_eq, Option.isSome_map]
 unfold putK storedH
 rw [e]
 by_cases q : (atKey xs k).isSome = true
 · rw [if_pos q, if_pos q]; exact r.repl k ry
 · rw [if_neg q, if_neg q]; exact Paired.snoc r ⟨rfl, hb, ry⟩
theorem KT.keeps {H H' : Hp} {kvs : List (List Key × V)} {xs : List (List Key × Addr × Value)} (r : KT H kvs xs) (ht : ∀ b ys, H b = some (.tup ys) → H' b = some (.tup ys)) : KT H' kvs xs :=
 Paired.mapP r fun _ _ z => ⟨z.1, ht _ _ z.2.1, z.2.2⟩
section
variable {P : Program} {w : World} {H : Hp} {h : Heap} {a : Addr}
theorem rd_of {u : HO} (ok : HOk P w H h) (e : Rd H a u) : ObjOk P w H h a u := e.ok ok
theorem dk_rd {kvs : List (Key × V)} (ok : HOk P w H h) (e : Rd H a (.dK kvs)) : kvs.length ≤ sizeLine ∧ (a == sysModules) = false ∧ ∃ vs, KV kvs vs ∧ h.DictOf (mixKind P w) a vs :=
 show ObjOk P w H h a (.dK kvs) from rd_of ok e
theorem dk_of {kvs : List (Key × V)} (ok : HOk P w H h) (e : H a = some (.dK kvs)) : kvs.length ≤ sizeLine ∧ (a == sysModules) = false ∧ ∃ vs, KV kvs vs ∧ h.DictOf (mixKind P w) a vs := dk_rd ok (.inl e)
theorem key_of {ks : List Key} (ok : HOk P w H h) (e : H a = some (.tup (ks.map kV))) : (tupleKind (mixKind P w)).is h ks a := by
 obtain ⟨_, its, r, o, h1, h2, _, n, h3⟩ := (show ObjOk P w H h a (.tup (ks.map kV)) from ok a _ e)
 exact ⟨o, its.toArray, n, h1, h2, h3, by simpa using items_are r⟩
theorem dt_rd {kvs : List (List Key × V)} (ok : HOk P w H h) (e : Rd H a (.dT kvs)) : kvs.length ≤ sizeLine ∧ (a == sysModules) = false ∧
   ∃ xs, KT H kvs xs ∧ h.DictOfH (tupleKind (mixKind P w)) a xs := by
 obtain ⟨z, y, xs, r, o, es, ep, h1, h2, h3, h4, h5⟩ := (show ObjOk P w H h a (.dT kvs) from rd_of ok e)
 refine ⟨z, y, xs, r, o, es, ep, h1, h2, h3, h4, fun x hx => ?_, h5⟩
 have all : ∀ {l : List (List Key × V)} {m : List (List Key × Addr × Value)}, KT H l m → ∀ x ∈ m, (tupleKind (mixKind P w)).is h x.1 x.2.1 := by
   intro l m q
   induction q with
   | nil => intro x hx; exact nomatch hx
   | @cons p q ps qs hq t ih =>
     intro x hx
     rcases List.mem_cons.mp hx with e | hx
     · subst e
       exact key_of ok (by rw [← hq.1]; exact hq.2.1)
     · exact ih x hx
 exact all r x hx
theorem dt_of {kvs : List (List Key × V)} (ok : HOk P w H h) (e : H a = some (.dT kvs)) : kvs.length ≤ sizeLine ∧ (a == sysModules) = false ∧
   ∃ xs, KT H kvs xs ∧ h.DictOfH (tupleKind (mixKind P w)) a xs := dt_rd ok (.inl e)
end
noncomputable def DGet (H : Hp) (a : Addr) (y : V) (r : Option V) : Prop :=
 (∃ kvs k, Rd H a (.dK kvs) ∧ y = kV k ∧ r = valV kvs k) ∨ ∃ kvs k b, Rd H a (.dT kvs) ∧ y = .ref b ∧ H b = some (.tup (k.map kV)) ∧ r = valV kvs k
noncomputable def DPut (H : Hp) (a : Addr) (y v : V) (H' : Hp) : Prop :=
 (∃ kvs k, H a = some (.dK kvs) ∧ y = kV k ∧ kvs.length < sizeLine ∧ H' = upd H a (.dK (putK kvs k v))) ∨
 ∃ kvs k b, H a = some (.dT kvs) ∧ y = .ref b ∧ H b = some (.tup (k.map kV)) ∧ kvs.length < sizeLine ∧ H' = upd H a (.dT (putK kvs k v))
theorem DGet.k {H : Hp} {a : Addr} {kvs : List (Key × V)} {k : Key} (e : H a = some (.dK kvs)) : DGet H a (kV k) (valV kvs k) := .inl ⟨kvs, k, .inl e, rfl, rfl⟩
section
variable {X : Cx} {pins : List (Addr × Obj)} {σ : St} {H : Hp} {s : Shared} {a : Addr} {y v : V} {u r : Value} {o : Option V} {A : Around} {E : Value → Shared → Prop}
theorem Inv.big (I : Inv X pins σ H s) : sysModules < s.heap.objs.size := by
 have h : mainGlobals < s.heap.objs.size := (I.mod.glob.keeps I.bk).lt
 exact Nat.lt_trans (by decide) h
theorem d_getItem {Q : Value → Shared → Prop} (hu : A.units + 1 < cLine) (I : Inv X pins σ H s) (g : DGet H a y (some v)) (ry : RelV y u) (h : ∀ w' s', Inv X pins σ H s' → RelV v w' → Q w' s') :
   wpAny (model X.prog X.w) A (getItem (.ref a) u) Q E s := by
 rcases g with ⟨kvs, k, e, ey, l⟩ | ⟨kvs, k, b, e, ey, eb, l⟩
 · subst ey
   obtain ⟨z, hd, vs, rel, dd⟩ := dk_rd I.hok e
   obtain ⟨w', hw, rw'⟩ := RelO.some_of (v := v) (o := valueAt vs k) (by rw [l]; exact rel.val k)
   exact wpAny_getItem_of (kV_is ry) dd.mapOf hw (h w' _ (I.tok _) rw')
 · subst ey
   cases (show u = Value.ref b from ry)
   obtain ⟨z, hd, xs, rel, dd⟩ := dt_rd I.hok e
   obtain ⟨w', hw, rw'⟩ := RelO.some_of (v := v) (o := (atKey xs k).map (·.2)) (by rw [l]; exact rel.val k)
   obtain ⟨p, hp, hp2⟩ := Option.map_eq_some_iff.mp hw
   refine wpAny_getItem_heap (tupleKind_room_in1 hu) (key_of I.hok eb) dd hp ?_
   rw [hp2]
   exact h w' _ (I.tok _) rw'
theorem d_in {Q : Value → Shared → Prop} (hu : A.units + 1 < cLine) (I : Inv X pins σ H s) (g : DGet H a y o) (ry : RelV y u) (h : ∀ s', Inv X pins σ H s' → Q (.bool o.isSome) s') :
   wpAny (model X.prog X.w) A (compareOp .In u (.ref a)) Q E s := by
 rcases g with ⟨kvs, k, e, ey, l⟩ | ⟨kvs, k, b, e, ey, eb, l⟩
 · subst ey
   obtain ⟨z, hd, vs, rel, dd⟩ := dk_rd I.hok e
   refine wpAny_in_of (kV_is ry) hd dd.mapOf ?_
   rw [← (rel.val k).isSome_eq, ← l]
   exact h _ (I.tok _)
 · subst ey
   cases (show u = Value.ref b from ry)
   obtain ⟨z, hd, xs, rel, dd⟩ := dt_rd I.hok e
   refine wpAny_in_heap (tupleKind_room_in1 hu) (key_of I.hok eb) hd dd ?_
   have q := (rel.val k).isSome_eq
   rw [Option.isSome_map] at q
   rw [← q, ← l]
   exact h _ (I.tok _)
theorem d_write {h' : Heap} {t' : Nat} {ob : HO} (I : Inv X pins σ H s) (mu : Mut (H a)) (hs : Heap.SameBut a s.heap h') (he : ∃ q, h'.get? a = some q) (new : ObjOk X.prog X.w (upd H a ob) h' a ob) :
   Inv X pins σ (upd H a ob) { s with heap := h', toks := t' } :=
 I.write (x := a) (e := a) mu (.inl rfl) (fun b q hb z => (hs.2 b hb).trans z) he new
theorem dk_new {P : Program} {w : World} {H' : Hp} {h' : Heap} {kvs : List (Key × V)} {vs : List (Key × Value)} (z : kvs.length ≤ sizeLine) (hd : (a == sysModules) = false) (rel : KV kvs vs) (dd : h'.DictOf (mixKind P w) a vs) :
   ObjOk P w H' h' a (.dK kvs) := ⟨z, hd, vs, rel, dd⟩
theorem d_setItem {H' : Hp} {Q : Unit → Shared → Prop} (hu : A.units + 1 < cLine) (I : Inv X pins σ H s) (g : DPut H a y v H') (ry : RelV y u) (rv : RelV v r) (h : ∀ s', Inv X pins σ H' s' → Q () s') :
   wpAny (model X.prog X.w) A (setItem (.ref a) u r) Q E s := by
 rcases g with ⟨kvs, k, e, ey, l, eH⟩ | ⟨kvs, k, b, e, ey, eb, l, eH⟩
 · subst ey eH
   obtain ⟨z, hd, vs, rel, dd⟩ := dk_of I.hok e
   have hz : vs.length ≤ sizeLine := by rw [← rel.length]; exact z
   have hl : (putK kvs k v).length ≤ sizeLine := by have := length_putK kvs k v; omega
   refine wpAny_setItem_pairs (hsz := hz) (kV_is ry) dd fun h' dd' hs => h _ ?_
   have he : ∃ q, h'.get? a = some q := let ⟨q, _, _, hq, _⟩ := dd'; ⟨q, hq⟩
   exact d_write I (by rw [e]; exact True.intro) hs he (dk_new hl hd (rel.put k rv) dd')
 · subst ey eH
   cases (show u = Value.ref b from ry)
   obtain ⟨z, hd, xs, rel, dd⟩ := dt_of I.hok e
   have hz : xs.length ≤ sizeLine := by rw [← Paired.length rel]; exact z
   have hl : (putK kvs k v).length ≤ sizeLine := by have := length_putK kvs k v; omega
   refine wpAny_setItem_heap (hsz := hz) (tupleKind_room_in1 hu) (key_of I.hok eb) dd fun h' dd' hs => h _ ?_
   obtain ⟨q, es, ep, hq, h2, h3, h4, _, h5⟩ := dd'
   refine d_write I (by rw [e]; exact True.intro) hs ⟨q, hq⟩ ⟨hl, hd, _, (rel.put k eb rv).keeps fun c ys ec => ?_, q, es, ep, hq, h2, h3, h4, h5⟩
   rw [upd_ne (ne_of ec e (fun z => nomatch z))]
   exact ec
end
section
variable {X : Cx} {pins : List (Addr × Obj)} {σ : St} {H : Hp} {s : Shared} {a : Addr} {kvs : List (Key × V)} {k : Key} {u : Value} {A : Around} {E : Value → Shared → Prop}
theorem d_delItem {Q : Unit → Shared → Prop} (I : Inv X pins σ H s) (e : H a = some (.dK kvs)) (ry : RelV (kV k) u) (l : (valV kvs k).isSome = true) (h : ∀ s', Inv X pins σ (upd H a (.dK (dropK kvs k))) s' → Q () s') :
   wpAny (model X.prog X.w) A (delItem (.ref a) u) Q E s := by
 obtain ⟨z, hd, vs, rel, dd⟩ := dk_of I.hok e
 refine wpAny_delItem_slot dd.typeIs (by decide) PySem.F.slot_dict_delitem
   (call_meetsIn PySem.F.slot_dict_delitem dd.typeIs PySem.F.entry_dict_delitem (PySem.F.args_dict_delitem_2 _ _) (meets_dict_delitem_pairs (mixKind X.prog X.w) a (kV_is ry)) ⟨vs, dd, by rw [← rel.length]; exact z, by rw [← (rel.val k).isSome_eq]; exact l, fun h' dd' hs => h _ ?_⟩)
 have he : ∃ q, h'.get? a = some q := let ⟨q, _, _, hq, _⟩ := dd'; ⟨q, hq⟩
 exact d_write I (by rw [e]; exact True.intro) hs he (dk_new (Nat.le_trans (dropK_le kvs k) z) hd (rel.drop k) dd')
theorem d_pop {v : V} {more : List Value} {Q : Value → Shared → Prop} (I : Inv X pins σ H s) (e : H a = some (.dK kvs)) (ry : RelV (kV k) u) (l : valV kvs k = some v) (hm : more = [] ∨ ∃ x, more = [x])
   (h : ∀ w' s', Inv X pins σ (upd H a (.dK (dropK kvs k))) s' → RelV v w' → Q w' s') : wpAny (model X.prog X.w) A (call (.builtin "dict.pop") (.ref a :: u :: more)) Q E s := by
 obtain ⟨z, hd, vs, rel, dd⟩ := dk_of I.hok e
 obtain ⟨w', hw, rw'⟩ := RelO.some_of (v := v) (o := valueAt vs k) (by rw [← l]; exact rel.val k)
 have hp : (keyPart u).isSome = true := by
   cases k with
   | inl i => obtain ⟨t, q⟩ := (show ∃ t, u = Value.int i t from ry); subst q; rfl
   | inr x => obtain ⟨t, q⟩ := (show ∃ t, u = Value.str x t from ry); subst q; rfl
 have ha : argsOk "dict.pop" ⟨.ref a :: u :: more, []⟩ := by
   rcases hm with q | ⟨x, q⟩
   · subst q; exact PySem.F.args_dict_pop_2 _ _
   · subst q; exact PySem.F.args_dict_pop_3 _ _ _
 refine call_meetsIn PySem.F.slot_dict_pop dd.typeIs PySem.F.entry_dict_pop ha (meets_dict_pop_there (mixKind X.prog X.w) a (kV_is ry) more hm hp)
   ⟨vs, w', dd, by rw [← rel.length]; exact z, hw, fun h' dd' hs => h w' _ ?_ rw'⟩
 have he : ∃ q, h'.get? a = some q := let ⟨q, _, _, hq, _⟩ := dd'; ⟨q, hq⟩
 exact d_write I (by rw [e]; exact True.intro) hs he (dk_new (Nat.le_trans (dropK_le kvs k) z) hd (rel.drop k) dd')
theorem d_popD {r : Value} {Q : Value → Shared → Prop} (I : Inv X pins σ H s) (e : H a = some (.dK kvs)) (ry : RelV (kV k) u) (l : valV kvs k = none) (h : ∀ s', Inv X pins σ H s' → Q r s') :
   wpAny (model X.prog X.w) A (call (.builtin "dict.pop") [.ref a, u, r]) Q E s := by
 obtain ⟨z, hd, vs, rel, dd⟩ := dk_of I.hok e
 have hn : valueAt vs k = none := RelO.none_of (by rw [← l]; exact rel.val k)
 have hp : (keyPart u).isSome = true := by
   cases k with
   | inl i => obtain ⟨t, q⟩ := (show ∃ t, u = Value.int i t from ry); subst q; rfl
   | inr x => obtain ⟨t, q⟩ := (show ∃ t, u = Value.str x t from ry); subst q; rfl
 exact call_meetsIn PySem.F.slot_dict_pop dd.typeIs PySem.F.entry_dict_pop (PySem.F.args_dict_pop_3 _ _ _) (meets_dict_pop_default (mixKind X.prog X.w) a (kV_is ry) hd hp r) ⟨vs, dd, hn, h _ (I.tok _)⟩
theorem d_len {Q : Value → Shared → Prop} (I : Inv X pins σ H s) (e : Rd H a (.dK kvs)) (h : ∀ t s', Inv X pins σ H s' → Q (.int kvs.length t) s') : wpAny (model X.prog X.w) A (call (.builtin "len") [.ref a]) Q E s := by
 obtain ⟨z, hd, vs, rel, dd⟩ := dk_rd I.hok e
 refine call_len_dict hd dd (by rw [← rel.length]; rw [sizeLine_eq] at z; omega) ?_
 rw [← rel.length]
 exact h _ _ (I.tok _)
end
noncomputable def NoSl (i : Expr) : Prop := ∀ ov iv, subscripted i false ov iv = operate [ov, iv] (getItem ov iv)
theorem subD_of {prog : Program} {w : World} {A : Around} {E : Value → Shared → Prop} {s : Shared} {env : Env} {value slice : Expr} {pos : Pos} {T id : String} {Q : Value → Shared → Prop}
   (hl : typeLookup (.type T) "__getitem__" = pure (some (.builtin id))) (hs : NoSl slice)
   (h : wpAny (model prog w) A (eval value env) (fun o s₁ => wpAny (model prog w) A (eval slice env) (fun i s₂ => s₂.TypeIs o T ∧ wpAny (model prog w) A (getItem o i) Q E s₂) E s₁) E s) :
   wpAny (model prog w) A (eval (.Subscript value slice pos) env) Q E s := by
 refine Subscript_ (wpAny_mono h (fun o s₁ h₁ => wpAny_mono h₁ (fun i s₂ h₂ => ?_) fun _ _ x => x) fun _ _ x => x)
 obtain ⟨hT, h₂⟩ := h₂
 unfold subscriptTail
 refine wpAny_bind ?_
 rw [getitemInPython_of_ne hT.not_modules]
 refine wpAny_bind (wpAny_specialOf hT hl ?_)
 have fin : wpAny (model prog w) A (subscripted slice false o i) (fun r s₃ => wpAny (model prog w) A (letTemporaryGo value o r >>= fun _ => pure r) Q E s₃) E s₂ := by
   rw [hs o i]
   exact wpAny_operating (wpAny_mono h₂ (fun r s₃ h₃ => wpAny_bind (wpAny_letTemporaryGo (wpAny_pure h₃))) fun _ _ x => x)
 first
   | exact wpAny_pure (wpAny_bind fin)
   | exact wpAny_bind (wpAny_pure (wpAny_bind fin))
   | exact wpAny_bind fin
theorem dict_typeIs {X : Cx} {pins : List (Addr × Obj)} {σ : St} {H : Hp} {s : Shared} {a : Addr} {y : V} {o : Option V} (I : Inv X pins σ H s) (g : DGet H a y o) : s.TypeIs (.ref a) "dict" := by
 rcases g with ⟨kvs, k, e, _, _⟩ | ⟨kvs, k, b, e, _, _, _⟩
 · obtain ⟨_, _, vs, _, dd⟩ := dk_rd I.hok e
   exact dd.typeIs
 · obtain ⟨_, _, xs, _, dd⟩ := dt_rd I.hok e
   exact dd.typeIs
noncomputable def tDGet (td ty : TE) : TE := fun σ H Q => td σ H fun x H1 => ty σ H1 fun y H2 => ∃ a v, x = .ref a ∧ DGet H2 a y (some v) ∧ Q v H2
noncomputable def sDPut (td ty tv : TE) : TS := fun D σ H => tv σ H fun v H1 => td σ H1 fun x H2 => ty σ H2 fun y H3 => ∃ a H4, x = .ref a ∧ DPut H3 a y v H4 ∧ D.nx σ H4
section
variable {X : Cx} {o i e value : Expr} {pos pos' tpos : Pos} {td ty tv : TE}
theorem pe_dget (hu : X.A.units + 1 < cLine) (ho : PE X o td) (hi : PE X i ty) (hs : NoSl i) : PE X (.Subscript o i pos) (tDGet td ty) := by
 intro pins s σ H Q I h
 refine subD_of PySem.F.slot_dict_getitem.lookup hs (thn (ho pins s σ H _ I h) fun u s1 ⟨x, H1, I1, rx, q1⟩ => thn (hi pins s1 σ H1 _ I1 q1) fun iv s2 ⟨y, H2, I2, ry, a, v, ex, g, q2⟩ => ?_)
 subst ex
 obtain rfl : u = Value.ref a := rx
 exact ⟨dict_typeIs I2 g, d_getItem hu I2 g ry fun w' s3 I3 rw' => ⟨v, H2, I3, rw', q2⟩⟩
theorem ps_dput (hu : X.A.units + 1 < cLine) (ho : PE X o td) (hi : PE X i ty) (hv : PE X value tv) (hs : swapsWith value (some (.Subscript o i pos')) pos.line X.env = pure false) :
   PS X (.Assign [.Subscript o i pos'] value pos) (sDPut td ty tv) := by
 intro pins s σ H D I h
 refine wpAny_Assign_Subscript (thn (hv pins s σ H _ I h) fun r s1 ⟨v, H1, I1, rv, q1⟩ => thn (ho pins s1 σ H1 _ I1 q1) fun u s2 ⟨x, H2, I2, rx, q2⟩ => thn (hi pins s2 σ H2 _ I2 q2) fun iv s3 ⟨y, H3, I3, ry, a, H4, ex, g, q3⟩ => ?_) hs
 subst ex
 obtain rfl : u = Value.ref a := rx
 exact d_setItem hu I3 g ry rv fun s4 I4 => ⟨σ, H4, I4, q3⟩
end
theorem dk_empty {P : Program} {w : World} {H : Hp} (h : Heap) (hb : sysModules < h.objs.size) : ObjOk P w H (h.push { cls := .type "dict", data := .dict #[] }) h.objs.size (.dK []) :=
 ⟨Nat.zero_le _, beq_eq_false_iff_ne.mpr (Ne.symm (Nat.ne_of_lt hb)), [], .nil, Heap.DictOf.new h⟩
noncomputable def tDNewK : TE := fun _ H Q => ∀ p, H p = none → Q (.ref p) (upd H p (.dK []))
section
variable {X : Cx} {pos : Pos}
theorem pe_dnewK : PE X (.Dict [] [] pos) tDNewK := fun pins s σ H Q I h =>
 wpAny_Dict_empty ⟨.ref s.heap.objs.size, _, I.laid (a := s.heap.objs.size) (o := .dK []) (t' := s.toks) (fun _ _ q => Heap.get?_push_of_some _ q) (Nat.le_refl _) (dk_empty s.heap I.big), rfl, h _ (I.hok.fresh (Nat.le_refl _))⟩
end
noncomputable def tPairs : List (TE × TE) → St → Hp → (List (V × V) → Hp → Prop) → Prop
 | [], _, H, Q => Q [] H
 | (tk, tv) :: r, σ, H, Q => tk σ H fun x H1 => tv σ H1 fun y H2 => tPairs r σ H2 fun ps H3 => Q ((x, y) :: ps) H3
noncomputable abbrev VV : List (V × V) → List (Value × Value) → Prop := Paired fun p q => RelV p.1 q.1 ∧ RelV p.2 q.2
noncomputable def PPs (X : Cx) (pos : Pos) (keys : List (Option Expr)) (values : List Expr) (trs : List (TE × TE)) : Prop :=
 ∀ (pins : List (Addr × Obj)) (s : Shared) (σ : St) (H : Hp) (Q : List (V × V) → Hp → Prop), Inv X pins σ H s → tPairs trs σ H Q →
   wpAny (model X.prog X.w) X.A (evalPairs (pairTrees keys values X.env pos)) (fun vs s' => ∃ ps H', Inv X pins σ H' s' ∧ VV ps vs ∧ Q ps H') X.xe s
theorem pps_nil {X : Cx} {pos : Pos} : PPs X pos [] [] [] := fun pins s σ H Q I h => pairTrees_nil_walk ⟨[], H, I, .nil, h⟩
theorem pps_cons {X : Cx} {pos : Pos} {k v : Expr} {ks : List (Option Expr)} {vs : List Expr} {tk tv : TE} {trs : List (TE × TE)} (hk : PE X k tk) (hv : PE X v tv) (hr : PPs X pos ks vs trs) :
   PPs X pos (some k :: ks) (v :: vs) ((tk, tv) :: trs) := fun pins s σ H Q I h =>
 pairTrees_cons_walk (thn (hk pins s σ H _ I h) fun u s1 ⟨x, H1, I1, rx, q1⟩ => thn (hv pins s1 σ H1 _ I1 q1) fun w2 s2 ⟨y, H2, I2, ry, q2⟩ =>
   thn (hr pins s2 σ H2 _ I2 q2) fun ws s3 ⟨ps, H3, I3, rel, q3⟩ => ⟨(x, y) :: ps, H3, I3, .cons ⟨rx, ry⟩ rel, q3⟩)
noncomputable def mergeK (kvs more : List (Key × V)) : List (Key × V) := more.foldl (fun acc kv => putK acc kv.1 kv.2) kvs
theorem KV.merge : ∀ {more : List (Key × V)} {rs : List (Key × Value)} {kvs : List (Key × V)} {vs : List (Key × Value)}, KV more rs → KV kvs vs → KV (mergeK kvs more) (merged vs rs) := by
 intro more rs kvs vs r
 unfold KV at r
 induction r generalizing kvs vs with
 | nil => intro q; exact q
 | @cons p q ps qs h t ih =>
   intro r0
   have e : KV (putK kvs p.1 p.2) (stored vs q.1 q.2) := by
     have := r0.put p.1 h.2
     rw [← h.1]; exact this
   exact ih e
theorem length_mergeK : ∀ (more kvs : List (Key × V)), (mergeK kvs more).length ≤ kvs.length + more.length
 | [], kvs => by show kvs.length ≤ kvs.length + 0; omega
 | p :: r, kvs => by
   have h1 := length_mergeK r (putK kvs p.1 p.2)
   have h2 := length_putK kvs p.1 p.2
   show (mergeK (putK kvs p.1 p.2) r).length ≤ _
   rw [List.length_cons]; omega
theorem carries_of {P : Program} {w : World} : ∀ {kvs : List (Key × V)} {ws : List (Value × Value)}, VV (kvs.map fun kv => (kV kv.1, kv.2)) ws → ∃ rs, Carries (mixKind P w) ws rs ∧ KV kvs rs
 | [], _, r => by rw [List.map_nil] at r; cases r; exact ⟨[], True.intro, .nil⟩
 | p :: kvs, _, r => by
   rw [List.map_cons] at r
   cases r with
   | @cons a b as bs h t =>
     obtain ⟨rs, c, q⟩ := carries_of (P := P) (w := w) t
     obtain ⟨b1, b2⟩ := b
     exact ⟨(p.1, b2) :: rs, ⟨kV_is h.1, rfl, c⟩, .cons ⟨rfl, h.2⟩ q⟩
noncomputable def tDisp (trs : List (TE × TE)) : TE := fun σ H Q => ∀ p, H p = none → tPairs trs σ (upd H p (.dK [])) fun ps H2 => H2 p = some (.dK []) ∧ ∃ kvs : List (Key × V), ps = kvs.map (fun kv => (kV kv.1, kv.2)) ∧ kvs.length ≤ 15 ∧ Q (.ref p) (upd H2 p (.dK (mergeK [] kvs)))
theorem pe_disp {X : Cx} {pos : Pos} {keys : List (Option Expr)} {values : List Expr} {trs : List (TE × TE)} (h : PPs X pos keys values trs) (hall : keys.all (·.isSome) = true) (hl : keys.length = values.length) (h0 : keys ≠ [])
   (h15 : keys.length ≤ 15) : PE X (.Dict keys values pos) (tDisp trs) := by
 intro pins s σ H Q I q
 have hn := I.hok.fresh (Nat.le_refl s.heap.objs.size)
 have I1 := I.laid (a := s.heap.objs.size) (o := .dK []) (h' := s.heap.push { cls := .type "dict", data := .dict #[] }) (t' := s.toks) (fun _ _ q => Heap.get?_push_of_some _ q) (Nat.le_refl _) (dk_empty s.heap I.big)
 refine wpAny_Dict_walk (knd := mixKind X.prog X.w) hall hl h0 h15 (thn (h pins _ σ _ _ I1 (q _ hn)) fun ws s2 ⟨ps, H2, I2, rel, e, kvs, ep, lk, q2⟩ => ?_)
 subst ep
 obtain ⟨rs, c, rk⟩ := carries_of (P := X.prog) (w := X.w) rel
 obtain ⟨z, hd, vs0, r0, dd⟩ := dk_of I2.hok e
 cases r0
 refine ⟨rs, c, dd, fun h' dd' hs => ⟨.ref s.heap.objs.size, _, ?_, rfl, q2⟩⟩
 have hz : (mergeK [] kvs).length ≤ sizeLine := by
   have h1 := length_mergeK kvs []
   rw [List.length_nil] at h1
   rw [sizeLine_eq]; omega
 have he : ∃ q, h'.get? s.heap.objs.size = some q := let ⟨q, _, _, hq, _⟩ := dd'; ⟨q, hq⟩
 exact d_write I2 (by rw [e]; exact True.intro) hs he (dk_new hz hd (rk.merge .nil) dd')
structure M1 (X : Cx) (o : Expr) (m : Str) (apos : Pos) (e : Expr) (cpos : Pos) : Prop where
 base : attributeBase o m X.env (eval o X.env) = eval o X.env
 few : ((backTo cpos (starEach [e] X.env)).all (fun x => !x.1) && (backToKw cpos (keywordEach [] X.env)).all (fun x => x.1.isSome)
   && decide (([e] : List Expr).length + ([] : List Keyword).length + (if ([] : List Keyword).isEmpty then 0 else 1) < 30)) = true
 line : (apos.endLine == cpos.line) = true
 trees : backTo cpos (starEach [e] X.env) = [(false, eval e X.env)]
structure M2 (X : Cx) (o : Expr) (m : Str) (apos : Pos) (e f : Expr) (cpos : Pos) : Prop where
 base : attributeBase o m X.env (eval o X.env) = eval o X.env
 few : ((backTo cpos (starEach [e, f] X.env)).all (fun x => !x.1) && (backToKw cpos (keywordEach [] X.env)).all (fun x => x.1.isSome)
   && decide (([e, f] : List Expr).length + ([] : List Keyword).length + (if ([] : List Keyword).isEmpty then 0 else 1) < 30)) = true
 line : (apos.endLine == cpos.line) = true
 trees : backTo cpos (starEach [e, f] X.env) = [(false, eval e X.env), (false, eval f X.env)]
noncomputable def IsD (H : Hp) (a : Addr) : Prop := (∃ kvs, Rd H a (.dK kvs)) ∨ ∃ kvs, Rd H a (.dT kvs)
theorem isD_at {X : Cx} {pins : List (Addr × Obj)} {σ : St} {H : Hp} {s : Shared} {a : Addr} (I : Inv X pins σ H s) (d : IsD H a) :
   s.TypeIs (.ref a) "dict" ∧ (∀ b, Value.ref a = .ref b → ∃ ob, s.heap.get? b = some ob ∧ ob.dict = none) ∧ (a == sysModules) = false := by
 rcases d with ⟨kvs, e⟩ | ⟨kvs, e⟩
 · obtain ⟨_, hd, vs, _, dd⟩ := dk_rd I.hok e
   refine ⟨dd.typeIs, fun b q => ?_, hd⟩
   cases q
   obtain ⟨ob, _, _, h1, h2, _⟩ := dd
   exact ⟨ob, h1, h2.2.1⟩
 · obtain ⟨_, hd, xs, _, dd⟩ := dt_rd I.hok e
   refine ⟨dd.typeIs, fun b q => ?_, hd⟩
   cases q
   obtain ⟨ob, _, _, h1, h2, _⟩ := dd
   exact ⟨ob, h1, h2.2.1⟩
section
variable {X : Cx} {pins : List (Addr × Obj)} {σ : St} {H : Hp} {s : Shared} {a : Addr} {y d : V} {u r : Value} {o : Option V} {A : Around} {E : Value → Shared → Prop}
theorem d_get2 {Q : Value → Shared → Prop} (hu : A.units + 1 < cLine) (I : Inv X pins σ H s) (g : DGet H a y o) (ry : RelV y u) (rd : RelV d r) (h : ∀ w' s', Inv X pins σ H s' → RelV (o.getD d) w' → Q w' s') :
   wpAny (model X.prog X.w) A (call (.builtin "dict.get") [.ref a, u, r]) Q E s := by
 rcases g with ⟨kvs, k, e, ey, l⟩ | ⟨kvs, k, b, e, ey, eb, l⟩
 · subst ey
   obtain ⟨z, hd, vs, rel, dd⟩ := dk_rd I.hok e
   refine call_meetsIn PySem.F.slot_dict_get dd.typeIs PySem.F.entry_dict_get (PySem.F.args_dict_get_3 _ _ _) (meets_dict_get_default (mixKind X.prog X.w) a (kV_is ry) hd r) ⟨_, dd.mapOf, h _ _ (I.tok _) ?_⟩
   rw [l]
   exact (rel.val k).getD rd
 · subst ey
   cases (show u = Value.ref b from ry)
   obtain ⟨z, hd, xs, rel, dd⟩ := dt_rd I.hok e
   refine call_meetsIn PySem.F.slot_dict_get dd.typeIs PySem.F.entry_dict_get (PySem.F.args_dict_get_3 _ _ _) (meetsH_dict_get_default (tupleKind (mixKind X.prog X.w)) a b hd r) ⟨tupleKind_room_in1 hu, k, xs, key_of I.hok eb, dd, h _ _ (I.tok _) ?_⟩
   rw [l]
   exact (rel.val k).getD rd
end
noncomputable def tDGet2 (td ty tx : TE) : TE := fun σ H Q => td σ H fun x H1 => ∃ a, x = .ref a ∧ IsD H1 a ∧ ty σ H1 fun y H2 => tx σ H2 fun z H3 => ∃ o, DGet H3 a y o ∧ Q (o.getD z) H3
noncomputable def tDPop1 (td ty : TE) : TE := fun σ H Q => td σ H fun x H1 => ∃ a, x = .ref a ∧ IsD H1 a ∧ ty σ H1 fun y H2 => ∃ kvs k v, H2 a = some (.dK kvs) ∧ y = kV k ∧ valV kvs k = some v ∧ Q v (upd H2 a (.dK (dropK kvs k)))
noncomputable def tDPop2 (td ty tx : TE) : TE := fun σ H Q => td σ H fun x H1 => ∃ a, x = .ref a ∧ IsD H1 a ∧ ty σ H1 fun y H2 => tx σ H2 fun z H3 => ∃ kvs k, H3 a = some (.dK kvs) ∧ y = kV k ∧
 (∀ v, valV kvs k = some v → Q v (upd H3 a (.dK (dropK kvs k)))) ∧ (valV kvs k = none → Q z H3)
section
variable {X : Cx} {o e f : Expr} {apos cpos : Pos} {td ty tx : TE}
theorem pe_dget2 (hu : X.A.units + 1 < cLine) (ho : PE X o td) (he : PE X e ty) (hf : PE X f tx) (m : M2 X o "get" apos e f cpos) : PE X (.Call (.Attribute o "get" apos) [e, f] [] cpos) (tDGet2 td ty tx) := by
 intro pins s σ H Q I h
 refine wpAny_Call_method m.base m.few m.line PySem.F.plainAttrs_dict PySem.F.slot_dict_get PySem.F.type_dict_get (thn (ho pins s σ H _ I h) fun u s1 ⟨x, H1, I1, rx, a, ex, d, q1⟩ => ?_)
 subst ex
 obtain rfl : u = Value.ref a := rx
 obtain ⟨t1, t2, _⟩ := isD_at I1 d
 refine ⟨t1, t2, ?_⟩
 rw [m.trees]
 refine Calls.callWith_builtin rfl (Calls.evalArgs_plain (Calls.spliced_cons (thn (he pins s1 σ H1 _ I1 q1) fun iv s2 ⟨y, H2, I2, ry, q2⟩ =>
   Calls.spliced_cons (thn (hf pins s2 σ H2 _ I2 q2) fun fv s3 ⟨z, H3, I3, rz, ov, g, q3⟩ => Calls.spliced_nil ?_))))
 exact d_get2 hu I3 g ry rz fun w' s4 I4 rw' => ⟨_, H3, I4, rw', q3⟩
theorem pe_dpop1 (ho : PE X o td) (he : PE X e ty) (m : M1 X o "pop" apos e cpos) : PE X (.Call (.Attribute o "pop" apos) [e] [] cpos) (tDPop1 td ty) := by
 intro pins s σ H Q I h
 refine wpAny_Call_method m.base m.few m.line PySem.F.plainAttrs_dict PySem.F.slot_dict_pop PySem.F.type_dict_pop (thn (ho pins s σ H _ I h) fun u s1 ⟨x, H1, I1, rx, a, ex, d, q1⟩ => ?_)
 subst ex
 obtain rfl : u = Value.ref a := rx
 obtain ⟨t1, t2, _⟩ := isD_at I1 d
 refine ⟨t1, t2, ?_⟩
 rw [m.trees]
 refine Calls.callWith_builtin rfl (Calls.evalArgs_plain (Calls.spliced_cons (thn (he pins s1 σ H1 _ I1 q1) fun iv s2 ⟨y, H2, I2, ry, kvs, k, v, ea, ey, l, q2⟩ => Calls.spliced_nil ?_)))
 subst ey
 exact d_pop I2 ea ry l (.inl rfl) fun w' s3 I3 rw' => ⟨v, _, I3, rw', q2⟩
theorem pe_dpop2 (ho : PE X o td) (he : PE X e ty) (hf : PE X f tx) (m : M2 X o "pop" apos e f cpos) : PE X (.Call (.Attribute o "pop" apos) [e, f] [] cpos) (tDPop2 td ty tx) := by
 intro pins s σ H Q I h
 refine wpAny_Call_method m.base m.few m.line PySem.F.plainAttrs_dict PySem.F.slot_dict_pop PySem.F.type_dict_pop (thn (ho pins s σ H _ I h) fun u s1 ⟨x, H1, I1, rx, a, ex, d, q1⟩ => ?_)
 subst ex
 obtain rfl : u = Value.ref a := rx
 obtain ⟨t1, t2, _⟩ := isD_at I1 d
 refine ⟨t1, t2, ?_⟩
 rw [m.trees]
 refine Calls.callWith_builtin rfl (Calls.evalArgs_plain (Calls.spliced_cons (thn (he pins s1 σ H1 _ I1 q1) fun iv s2 ⟨y, H2, I2, ry, q2⟩ =>
   Calls.spliced_cons (thn (hf pins s2 σ H2 _ I2 q2) fun fv s3 ⟨z, H3, I3, rz, kvs, k, ea, ey, q3, q4⟩ => Calls.spliced_nil ?_))))
 subst ey
 cases l : valV kvs k with
 | some v => exact d_pop I3 ea ry l (.inr ⟨fv, rfl⟩) fun w' s4 I4 rw' => ⟨v, _, I4, rw', q3 v l⟩
 | none => exact d_popD I3 ea ry l fun s4 I4 => ⟨z, H3, I4, rz, q4 l⟩
end
section
variable {X : Cx} {pins : List (Addr × Obj)} {σ : St} {H : Hp} {s : Shared} {a : Addr} {kvs : List (Key × V)} {A : Around} {E : Value → Shared → Prop}
theorem d_copyOf {Q : Value → Shared → Prop} (I : Inv X pins σ H s) (e : Rd H a (.dK kvs)) (h : ∀ p s', H p = none → Inv X pins σ (upd H p (.dK kvs)) s' → Q (.ref p) s') : wpAny (model X.prog X.w) A (call (.type "dict") [.ref a]) Q E s := by
 obtain ⟨z, hd, vs, rel, dd⟩ := dk_rd I.hok e
 refine kt_call_dict hd dd (by rw [← rel.length]; exact z) fun h' dd' hs => ?_
 refine h _ _ (I.hok.fresh (Nat.le_refl _)) (I.laid (a := s.heap.objs.size) (o := .dK kvs) (t' := s.toks) (fun b q hq => ?_) (Nat.le_refl _) (dk_new z (beq_eq_false_iff_ne.mpr (Ne.symm (Nat.ne_of_lt I.big))) rel dd'))
 exact (hs.2 b (Nat.ne_of_lt (Heap.lt_size hq))).trans (Heap.get?_push_of_some _ hq)
end
section
variable {X : Cx} {pins : List (Addr × Obj)} {σ : St} {H : Hp} {s : Shared} {a : Addr} {y : V} {u : Value} {A : Around} {E : Value → Shared → Prop}
end
end L2
namespace L2
open PySem PySem.Spec PyProof.Rows
section
variable {X : Cx}
theorem call_lenD : CallR X (.builtin "len") (fun xs H Q => ∃ a kvs, xs = [V.ref a] ∧ H a = some (.dK kvs) ∧ Q (.int kvs.length) H) := by
 intro pins s σ H xs us Q I r h
 obtain ⟨a, kvs, rfl, ha, q⟩ := h
 obtain ⟨u, rfl, ru⟩ := vals1 r
 cases ru
 exact d_len I (.inl ha) fun t s' I' => ⟨.int kvs.length, H, I', ⟨t, rfl⟩, q⟩
end
end L2
namespace L2
open PySem PySem.Spec PyProof.Rows
noncomputable def clOf (cells : List (Str × Addr)) : List (Str × NameKind) → List (Str × Addr) → List (Str × Addr)
 | [], acc => acc
 | (n, k) :: r, acc => clOf cells r (if (k == NameKind.free) = true then (n, (cells.lookup n).getD 0) :: acc else acc)
theorem closure_ok {sc : Scope} {env : Env} (h : ∀ n, (n, NameKind.free) ∈ sc.names → ∃ c, env.cells.lookup n = some c) : closureFor sc env = pure (clOf env.cells sc.names []) := by
 have all : ∀ (l : List (Str × NameKind)) (acc : List (Str × Addr)), (∀ n, (n, NameKind.free) ∈ l → ∃ c, env.cells.lookup n = some c) →
     (forIn l acc fun (x : Str × NameKind) (cs : List (Str × Addr)) => match x with
       | (name, kind) => if (kind == NameKind.free) = true then (do let c ← cellOf env name; pure (ForInStep.yield ((name, c) :: cs))) else pure (ForInStep.yield cs)) = (pure (clOf env.cells l acc) : Sem _) := by
   intro l
   induction l with
   | nil => intro acc _; rfl
   | cons x r ih =>
     intro acc hl
     obtain ⟨n, k⟩ := x
     rw [List.forIn_cons]
     by_cases hk : (k == NameKind.free) = true
     · have hk' : k = NameKind.free := by simpa using hk
       subst hk'
       obtain ⟨c, hc⟩ := hl n List.mem_cons_self
       have e1 : cellOf env n = pure c := by unfold cellOf; rw [hc]
       simp only [beq_self_eq_true, if_true, e1, pure_bind]
       rw [ih _ fun m hm => hl m (List.mem_cons_of_mem _ hm)]
       show _ = (pure (clOf env.cells r (if (NameKind.free == NameKind.free) = true then (n, (env.cells.lookup n).getD 0) :: acc else acc)) : Sem _)
       rw [if_pos (by simp), hc]
       rfl
     · have hk2 : (k == NameKind.free) = false := by simpa using hk
       simp only [hk2, Bool.false_eq_true, if_false, pure_bind]
       rw [ih _ fun m hm => hl m (List.mem_cons_of_mem _ hm)]
       show _ = (pure (clOf env.cells r (if (k == NameKind.free) = true then (n, (env.cells.lookup n).getD 0) :: acc else acc)) : Sem _)
       rw [if_neg hk]
 have := all sc.names [] h
 unfold closureFor
 dsimp only
 rw [this, pure_bind]
theorem lookup_clOf {cells : List (Str × Addr)} {x : Str} {c : Addr} : ∀ {l : List (Str × NameKind)} {acc : List (Str × Addr)}, (∀ n, (n, NameKind.free) ∈ l → ∃ c, cells.lookup n = some c) →
   (acc.lookup x = some c → cells.lookup x = some c) → (clOf cells l acc).lookup x = some c → cells.lookup x = some c
 | [], _, _, ha, h => ha h
 | (n, k) :: r, acc, hl, ha, h => by
   refine lookup_clOf (l := r) (fun m hm => hl m (List.mem_cons_of_mem _ hm)) ?_ h
   by_cases hk : (k == NameKind.free) = true
   · rw [if_pos hk]
     have hk' : k = NameKind.free := by simpa using hk
     subst hk'
     obtain ⟨d, hd⟩ := hl n List.mem_cons_self
     intro e
     rw [List.lookup_cons] at e
     cases hx : x == n with
     | true =>
       rw [hx] at e
       have hxn : x = n := by simpa using hx
       subst hxn
       rw [hd] at e ⊢
       exact e
     | false => rw [hx] at e; exact ha e
   · rw [if_neg hk]; exact ha
theorem clOf_has {cells : List (Str × Addr)} {x : Str} : ∀ {l : List (Str × NameKind)} {acc : List (Str × Addr)}, ((x, NameKind.free) ∈ l ∨ ∃ c, acc.lookup x = some c) → ∃ c, (clOf cells l acc).lookup x = some c
 | [], _, h => by
   rcases h with h | h
   · exact nomatch h
   · exact h
 | (n, k) :: r, acc, h => by
   refine clOf_has (l := r) ?_
   by_cases hk : (k == NameKind.free) = true
   · rw [if_pos hk]
     by_cases hx : (x == n) = true
     · exact .inr ⟨(cells.lookup n).getD 0, by rw [List.lookup_cons, hx]⟩
     · have hx2 : (x == n) = false := by simpa using hx
       rcases h with h | ⟨c, h⟩
       · rcases List.mem_cons.mp h with e | e
         · have e1 : x = n := congrArg Prod.fst e
           exact absurd (by simp [e1]) hx
         · exact .inl e
       · exact .inr ⟨c, by rw [List.lookup_cons, hx2]; exact h⟩
   · rw [if_neg hk]
     rcases h with h | h
     · rcases List.mem_cons.mp h with e | e
       · have e2 : NameKind.free = k := congrArg Prod.snd e
         exact absurd (by simp [← e2]) hk
       · exact .inl e
     · exact .inr h
noncomputable def compCx (X : Cx) (sc : Scope) (N' : List Str) (C : Addr) (s₀ : Shared) (H₀ : Hp) (fp : List Addr) : Cx where
 prog := X.prog
 w := X.w
 K := X.K
 mg := X.mg
 base := X.base
 A := X.A
 N := N'
 s₀ := s₀
 H₀ := H₀
 env := compEnvC sc (clOf X.env.cells sc.names []) C X.env
 outer := X.stack
 stack := X.stack
 ex := fp
 fn := fun _ => false
 calm := X.calm
 pn := []
 xe := fun _ _ => False
noncomputable def capS (cap : List (Option Nat)) (σ : St) : St := cap.map fun o => o.bind fun j => (σ[j]?).join
structure CapOk (X : Cx) (sc : Scope) (N' : List Str) (cap : List (Option Nat)) : Prop where
 kind : sc.kind = .function
 len : cap.length = N'.length
 nocell : ∀ x ∈ sc.names, x.2 ≠ NameKind.cell
 locals : ∀ x ∈ sc.names, x.2 = NameKind.local → sc.names.lookup x.1 = some NameKind.local
 free : ∀ n, (n, NameKind.free) ∈ sc.names → X.env.kindOf n = some .cell ∨ X.env.kindOf n = some .free
 slots : ∀ (i j : Nat) (x : Str), N'[i]? = some x → cap[i]? = some (some j) → X.N[j]? = some x ∧ ((relabel sc X.env).names.lookup x = some .cell ∨ (relabel sc X.env).names.lookup x = some .free) ∧ Vis X.env.scope x
section
variable {X : Cx} {sc : Scope} {N' : List Str} {cap : List (Option Nat)} {pins : List (Addr × Obj)} {σ : St} {H : Hp} {s : Shared} {C : Addr} {fp : List Addr}
theorem CapOk.cells (c : CapOk X sc N' cap) (ok : X.Ok) : ∀ n, (n, NameKind.free) ∈ sc.names → ∃ c, X.env.cells.lookup n = some c := fun n hn => ok.has n (c.free n hn)
theorem relabel_mem {env : Env} {x : Str} {k : NameKind} (hnc : ∀ x ∈ sc.names, x.2 ≠ NameKind.cell) (h : (relabel sc env).names.lookup x = some k) (hk : k = .cell ∨ k = .free) : (x, NameKind.free) ∈ sc.names := by
 have all : ∀ (l : List (Str × NameKind)), (∀ x ∈ l, x.2 ≠ NameKind.cell) → (l.map fun (n, k) => if (k == NameKind.free && env.scope.kind == .function && env.kindOf n == some .cell) then (n, NameKind.cell) else (n, k)).lookup x = some k → (x, NameKind.free) ∈ l := by
   intro l
   induction l with
   | nil => intro _ h; exact nomatch h
   | cons p r ih =>
     intro hn h
     obtain ⟨n, q⟩ := p
     rw [List.map_cons, List.lookup_cons] at h
     by_cases hc : (q == NameKind.free && env.scope.kind == .function && env.kindOf n == some .cell) = true
     · have hq : q = NameKind.free := by
         have := hc
         simp only [Bool.and_eq_true] at this
         simpa using this.1.1
       simp only [hc, if_true] at h
       cases hx : x == n with
       | true =>
         have e : x = n := by simpa using hx
         rw [e, hq]
         exact List.mem_cons_self
       | false =>
         rw [hx] at h
         exact List.mem_cons_of_mem _ (ih (fun y hy => hn y (List.mem_cons_of_mem _ hy)) h)
     · simp only [hc] at h
       cases hx : x == n with
       | true =>
         have e : x = n := by simpa using hx
         simp only [Bool.false_eq_true, if_false, hx] at h
         have e2 : q = k := by simpa using h
         rcases hk with z | z
         · exact absurd (e2.trans z) (hn (n, q) List.mem_cons_self)
         · rw [e, ← z, ← e2]
           exact List.mem_cons_self
       | false =>
         simp only [Bool.false_eq_true, if_false, hx] at h
         exact List.mem_cons_of_mem _ (ih (fun y hy => hn y (List.mem_cons_of_mem _ hy)) h)
 exact all sc.names hnc h
theorem comp_ok (c : CapOk X sc N' cap) (I : Inv X pins σ H s) (hC : s.heap.objs.size ≤ C) (hf : ∀ b ∈ fp, FpOk X pins H b) (hb : ∀ b ∈ fp, b < s.heap.objs.size) : (compCx X sc N' C s H fp).Ok where
 mod := I.ok.mod
 kind := c.kind
 glob := I.ok.glob
 blt := I.ok.blt
 above := hC
 inj := fun x y a hx hy => I.ok.inj x y a (lookup_clOf (c.cells I.ok) (fun z => by simp at z) hx) (lookup_clOf (c.cells I.ok) (fun z => by simp at z) hy)
 has := fun x hx => by
   refine clOf_has (.inl ?_)
   rcases hx with hx | hx
   · exact relabel_mem c.nocell hx (.inl rfl)
   · exact relabel_mem c.nocell hx (.inr rfl)
 cab := fun _ _ h => nomatch h
 hd := I.ok.hd
 frames := I.ok.frames
 stk := .inl rfl
 exf := fun b hb' => ⟨Nat.ne_of_lt (Nat.lt_of_lt_of_le (hb b hb') hC), fun x a e => (hf b hb').2.2.2.2.1 x a (lookup_clOf (c.cells I.ok) (fun z => by simp at z) e)⟩
 bs := I.bs
 bsz := Nat.le_trans I.ok.bsz I.sz
 noex := fun b o e hb' => by
   rcases (hf b hb').2.2.2.1 with z | z
   · exact I.ok.noex b o e z
   · exact absurd (Nat.lt_of_lt_of_le (Heap.lt_size e) (Nat.le_trans I.ok.bsz z)) (Nat.lt_irrefl _)
 exfs := fun b hb' z => by
   obtain ⟨_, f1, f2, _⟩ := hf b hb'
   rcases List.mem_cons.mp (I.stkSub b z) with e | e
   · exact f1 e
   · exact f2 e
 funs := I.stack
 frf := I.stkFree
theorem comp_inv (c : CapOk X sc N' cap) (I : Inv X pins σ H s) {D : Addr} {h1 : Heap} {t : Nat} (hC : C = s.heap.objs.size + 1) (hD : D = s.heap.objs.size) (hf : ∀ b ∈ fp, FpOk X pins H b) (hb : ∀ b ∈ fp, b < s.heap.objs.size)
   (hn : h1.Ns C fun _ => none) (hl : h1.get? D = some { cls := .type "list", data := .seq #[] 0 }) (k : ∀ b o, s.heap.get? b = some o → h1.get? b = some o) :
   Inv (compCx X sc N' C s H fp) [] (capS cap σ) (upd H D (.lst [])) { s with heap := h1, toks := t } := by
 have hCs : s.heap.objs.size ≤ C := by rw [hC]; exact Nat.le_succ _
 have hCD : C ≠ D := by rw [hC, hD]; exact Nat.succ_ne_self _
 have ok := comp_ok (C := C) (fp := fp) c I hCs hf hb
 have hDn : H D = none := by rw [hD]; exact I.fresh
 have ltc : ∀ x a, (clOf X.env.cells sc.names []).lookup x = some a → X.env.cells.lookup x = some a := fun x a e => lookup_clOf (c.cells I.ok) (fun z => by simp at z) e
 have cel : ∀ a v, s.heap.IsCell a v → h1.IsCell a v := fun a v ⟨o, ho, hd⟩ => ⟨o, k a o ho, hd⟩
 have ltD : ∀ a v, s.heap.IsCell a v → a ≠ D := fun a v ⟨o, ho, hd⟩ => by rw [hD]; exact Nat.ne_of_lt (Heap.lt_size ho)
 refine ⟨ok, rfl, I.bare, Un.laid k (by rw [hD]; exact Nat.le_refl _) hDn, ⟨_, hn, fun i x v e1 e2 e3 => ?_⟩, fun x a e => ?_, ?_, fun x a e => ?_, fun p hp => absurd hp (by simp [compCx]), ?_, ?_⟩
 · have e2' : cap[i]?.map (fun o => o.bind fun j => (σ[j]?).join) = some (some v) := by
     have := e2
     unfold capS at this
     rw [List.getElem?_map] at this
     exact this
   cases hc : cap[i]? with
   | none => rw [hc] at e2'; cases e2'
   | some o =>
     rw [hc] at e2'
     cases o with
     | none => cases e2'
     | some j =>
       have e4 : (σ[j]?).join = some v := by simpa using e2'
       obtain ⟨q1, q2', q3⟩ := c.slots i j x e1 hc
       have q2 : (x, NameKind.free) ∈ sc.names := q2'.elim (fun z => relabel_mem c.nocell z (.inl rfl)) fun z => relabel_mem c.nocell z (.inr rfl)
       obtain ⟨m, hm, hl'⟩ := I.loc
       have e5 : σ[j]? = some (some v) := by
         cases z : σ[j]? with
         | none => rw [z] at e4; cases e4
         | some y => rw [z] at e4; cases y with
           | none => cases e4
           | some y' => cases e4; rfl
       obtain ⟨u, r, l⟩ := hl' j x v q1 e5 q3
       refine ⟨u, r, ?_⟩
       obtain ⟨a, ha⟩ := clOf_has (cells := X.env.cells) (l := sc.names) (acc := []) (x := x) (.inl q2)
       have kd : X.env.kindOf x = some .cell ∨ X.env.kindOf x = some .free := c.free x q2
       rcases l with ⟨hk, _⟩ | ⟨hk, a', ha', hcell⟩
       · rcases kd with z | z <;> rw [z] at hk <;> cases hk
       · have e6 : a' = a := by
           have := ltc x a ha
           rw [ha'] at this
           exact Option.some.inj this
         refine .inr ⟨q2', a, ha, ?_⟩
         rw [← e6]
         exact cel _ _ hcell
 · obtain ⟨v, z⟩ := I.cell x a (ltc x a e)
   exact ⟨v, cel a v z⟩
 · show upd H D (.lst []) C = none
   rw [upd_ne hCD]
   exact I.hok.fresh hCs
 · show upd H D (.lst []) a = none
   obtain ⟨v, z⟩ := I.cell x a (ltc x a e)
   rw [upd_ne (ltD a v z)]
   exact I.freeC x a (ltc x a e)
 · exact I.hok.laid k (by rw [hD]; exact Nat.le_refl _) ⟨Nat.zero_le _, [], 0, .nil, hl⟩
 · show (capS cap σ).length = N'.length
   unfold capS
   rw [List.length_map, c.len]
end
end L2
namespace L2
open PySem PySem.Spec PyProof.Rows
noncomputable def capB (osc : Scope) (N : List Str) (sc : Scope) (N' : List Str) (cap : List (Option Nat)) : Bool :=
 decide (sc.kind = .function) && decide (cap.length = N'.length) && sc.names.all (fun x => decide (x.2 ≠ NameKind.cell)) && sc.names.all (fun x => decide (x.2 = NameKind.local → sc.names.lookup x.1 = some NameKind.local)) &&
 sc.names.all (fun x => decide (x.2 = NameKind.free → (osc.names.lookup x.1 = some .cell ∨ osc.names.lookup x.1 = some .free))) &&
 (N'.zip cap).all (fun p => match p.2 with
   | none => true
   | some j => decide (N[j]? = some p.1) && decide (((sc.names.map fun (n, k) => if (k == .free && osc.kind == .function && osc.names.lookup n == some .cell) then (n, NameKind.cell) else (n, k)).lookup p.1 = some .cell) ∨
       ((sc.names.map fun (n, k) => if (k == .free && osc.kind == .function && osc.names.lookup n == some .cell) then (n, NameKind.cell) else (n, k)).lookup p.1 = some .free)) &&
     decide (osc.names.lookup p.1 = some .local ∨ osc.names.lookup p.1 = some .cell ∨ osc.names.lookup p.1 = some .free))
theorem capB_ok {X : Cx} {sc : Scope} {N' : List Str} {cap : List (Option Nat)} (h : capB X.env.scope X.N sc N' cap = true) : CapOk X sc N' cap := by
 unfold capB at h
 rw [Bool.and_eq_true, Bool.and_eq_true, Bool.and_eq_true, Bool.and_eq_true, Bool.and_eq_true, List.all_eq_true, List.all_eq_true, List.all_eq_true, List.all_eq_true] at h
 obtain ⟨⟨⟨⟨⟨h1, h2⟩, h3⟩, h4⟩, h5⟩, h6⟩ := h
 refine ⟨of_decide_eq_true h1, of_decide_eq_true h2, fun x hx => of_decide_eq_true (h3 x hx), fun x hx => of_decide_eq_true (h4 x hx), fun n hn => of_decide_eq_true (h5 _ hn) rfl, fun i j x e1 e2 => ?_⟩
 have hm : (x, some j) ∈ N'.zip cap := by
   have e : (N'.zip cap)[i]? = some (x, some j) := by
     rw [List.getElem?_zip_eq_some]
     exact ⟨e1, e2⟩
   exact List.mem_of_getElem? e
 have h7 := h6 _ hm
 dsimp only at h7
 rw [Bool.and_eq_true, Bool.and_eq_true] at h7
 obtain ⟨⟨h8, h9⟩, h10⟩ := h7
 exact ⟨of_decide_eq_true h8, of_decide_eq_true (p := (relabel sc X.env).names.lookup x = some .cell ∨ (relabel sc X.env).names.lookup x = some .free) h9, of_decide_eq_true (p := X.env.scope.names.lookup x = some .local ∨ X.env.scope.names.lookup x = some .cell ∨ X.env.scope.names.lookup x = some .free) h10⟩
noncomputable def PTs (X : Cx) (ifs : List Expr) (t : TT) : Prop :=
 ∀ (pins : List (Addr × Obj)) (s : Shared) (σ : St) (H : Hp) (Q : Bool → Hp → Prop), Inv X pins σ H s → t σ H Q →
   wpAny (model X.prog X.w) X.A (forIn ifs true fun c r => if r = true then do let ok ← isTrue c X.env (eval c X.env); pure (ForInStep.yield ok) else pure (ForInStep.yield r)) (TP X pins σ Q) X.xe s
noncomputable def tYes : TT := fun _ H Q => Q true H
theorem pts_nil {X : Cx} : PTs X [] tYes := fun _ _ _ H _ I h => wpAny_tests_nil ⟨H, I, h⟩
theorem pts_one {X : Cx} {c : Expr} {t : TT} (h : PT X c t) : PTs X [c] t := fun pins s σ H Q I hw => wpAny_tests_one (h pins s σ H Q I hw)
noncomputable def RunC (J : It) (g : TG) (tc : TT) (te : TE) (D : Addr) (Q : Hp → Prop) (τ : St) (H : Hp) : Prop :=
 ∃ W : Nat → Nat → List V → St → Hp → Prop, (∃ m, W 0 m [] τ H) ∧ ∀ i m ys τ H, W i m ys τ H →
   (J.stop i H ∧ Q H) ∨
   (J.go i H ∧ ∃ N : List V → St → Hp → Prop, (∀ ys' τ' H', N ys' τ' H' → ∃ m', m' < m ∧ W (i + 1) m' ys' τ' H') ∧
     ∀ x H', J.yld i H x H' → g x τ H' fun τ2 H2 => tc τ2 H2 fun b H3 => if b = true then te τ2 H3 fun y H4 => H4 D = some (.lst ys) ∧ ys.length < sizeLine ∧ N (ys ++ [y]) τ2 (upd H4 D (.lst (ys ++ [y]))) else N ys τ2 H3)
section
variable {X : Cx} {sc : Scope} {N' : List Str} {cap : List (Option Nat)} {tg elt iter : Expr} {ifs : List Expr} {pos : Pos} {g : TG} {tc : TT} {te : TE}
theorem comp_loop {Y : Cx} {J : It} {fp : List Addr} {it D : Addr} {tn : Nat → Heap → Prop} {R : Result → Shared → Prop} {Q : Hp → Prop} {τ : St} {H : Hp} {s : Shared}
   (hx : Y.xe = fun _ _ => False) (hc : Y.calm = true) (hg : PG Y tg g) (ht : PTs Y ifs tc) (he : PE Y elt te) (T : Turn Y.prog Y.w Y.K tg J fp it tn) (st : tn 0 s.heap) (hf : ∀ b ∈ fp, FpOk Y [] H b) (I : Inv Y [] τ H s)
   (h : RunC J g tc te D Q τ H) (hR : ∀ τ' H' s', Inv Y [] τ' H' s' → Q H' → R (.ok .next) s') :
   codeAny (model Y.prog Y.w) Y.A (.compLoop (.ListComp elt [⟨tg, iter, ifs, 0⟩] sc pos) 0 (.ref it) (.ref D) Y.env) R s := by
 obtain ⟨W, ⟨m0, w0⟩, turn⟩ := h
 have stat : ∀ {H' : Hp}, (∀ b ∈ fp, H' b = none) → ∀ b ∈ fp, FpOk Y [] H' b := fun hn b hb => ⟨hn b hb, (hf b hb).2⟩
 have no : ∀ {P : Prop} {e : Value} {s' : Shared}, Y.xe e s' → P := fun z => by rw [hx] at z; exact z.elim
 refine codeAny_loop rfl (fun n s' => ∃ i ys τ' H', Inv Y [] τ' H' s' ∧ tn i s'.heap ∧ (∀ b ∈ fp, H' b = none) ∧ W i n ys τ' H') ?_ m0 ⟨0, [], τ, H, I, st, fun b hb => (hf b hb).1, w0⟩
 rintro n s3 ⟨i, ys, τ3, H3, I3, st3, fr3, w3⟩
 show wpAny _ Y.A ((compTurn (.ListComp elt [⟨tg, iter, ifs, 0⟩] sc pos) 0 (.ref it) (.ref D) Y.env).onRaise (fun x => do noteFrame x Y.env; theTreesLotGoes x)) _ _ s3
 refine wpAny_noted ?_
 rw [compTurn_list]
 refine wpAny_bind (wpAny_standAt (wpAny_bind ?_))
 rcases turn i n ys τ3 H3 w3 with ⟨stop, qn⟩ | ⟨go, N, hN, step⟩
 · refine wpAny_mono (T.done Y rfl rfl rfl hc i [] s3 τ3 H3 (fun _ _ => False) I3 (stat fr3) st3 stop) (fun r s4 ⟨hr, I4⟩ => ?_) fun _ _ z => z.elim
   subst hr
   exact wpAny_pure (hR _ _ _ I4 qn)
 · refine wpAny_mono (T.item Y rfl rfl rfl hc i [] s3 τ3 H3 (fun _ _ => False) I3 (stat fr3) st3 go) (fun r s4 ⟨u, hr, h4⟩ => ?_) fun _ _ z => z.elim
   subst hr
   refine wpAny_bind (wpAny_mono h4 (fun _ s5 ⟨x, H5, I5, r5, y5, st5, fr5⟩ => ?_) fun _ _ z => z.elim)
   have I5' := I5.pinned (stat fr5) (T.obj _ _ st5)
   have again : ∀ {τ7 : St} {H7 : Hp} {ys7 : List V} {s7 : Shared}, Inv Y ([] ++ pinsAt fp s5.heap) τ7 H7 s7 → N ys7 τ7 H7 → ∃ m, m < n ∧ ∃ i ys τ' H', Inv Y [] τ' H' s7 ∧ tn i s7.heap ∧ (∀ b ∈ fp, H' b = none) ∧ W i m ys τ' H' := fun {τ7 H7 ys7 s7} I7 n7 => by
     obtain ⟨m', hm, w7⟩ := hN ys7 τ7 H7 n7
     refine ⟨m', hm, i + 1, ys7, τ7, H7, I7.unpinned, T.keep _ _ _ st5 fun b hb o e => (I7.pin (b, o) (List.mem_append_right _ (List.mem_append_right _ (mem_pinsAt hb e)))).1, fun b hb => ?_, w7⟩
     obtain ⟨o, e, d⟩ := T.obj _ _ st5 b hb
     exact (I7.pin (b, o) (List.mem_append_right _ (List.mem_append_right _ (mem_pinsAt hb e)))).2.1
   refine wpAny_bind (wpAny_mono (hg _ s5 τ3 H5 x u _ I5' r5 (step x H5 y5)) (fun _ s6 ⟨τ6, H6, I6, q6⟩ => ?_) fun _ _ z => no z)
   refine wpAny_bind (wpAny_mono (ht _ s6 τ6 H6 _ I6 q6) (fun ok s7 ⟨H7, I7, q7⟩ => ?_) fun _ _ z => no z)
   cases ok with
   | false =>
     have q8 : N ys τ6 H7 := by simpa using q7
     exact wpAny_pure ⟨rfl, again I7 q8⟩
   | true =>
     have q8 : te τ6 H7 fun y H4 => H4 D = some (.lst ys) ∧ ys.length < sizeLine ∧ N (ys ++ [y]) τ6 (upd H4 D (.lst (ys ++ [y]))) := by simpa using q7
     refine wpAny_bind (wpAny_bind (wpAny_mono (he _ s7 τ6 H7 _ I7 q8) (fun y s8 ⟨v8, H8, I8, r8, hD, hl, n8⟩ => ?_) fun _ _ z => no z))
     refine wpAny_bind (wpAny_mono (mt_append _ s8 τ6 H8 (.ref D) [v8] (.ref D) [y] (fun _ H9 => N (ys ++ [v8]) τ6 H9) I8 rfl (.cons r8 .nil) ⟨D, ys, v8, rfl, rfl, hD, hl, n8⟩) (fun _ s9 ⟨_, H9, I9, _, n9⟩ => ?_) fun _ _ z => no z)
     exact wpAny_pure (wpAny_pure ⟨rfl, again I9 n9⟩)
theorem comp_block {pins : List (Addr × Obj)} {σ : St} {H : Hp} {s : Shared} {J : It} {fp : List Addr} {it : Addr} {tn : Nat → Heap → Prop} {RR : Value → Addr → Result → Shared → Prop} {Q : Addr → Hp → Prop} {E : Value → Shared → Prop}
   (c : CapOk X sc N' cap) (hc : X.calm = true) (hg : ∀ C s₀ H₀ fp, PG (compCx X sc N' C s₀ H₀ fp) tg g) (ht : ∀ C s₀ H₀ fp, PTs (compCx X sc N' C s₀ H₀ fp) ifs tc) (he : ∀ C s₀ H₀ fp, PE (compCx X sc N' C s₀ H₀ fp) elt te)
   (I : Inv X pins σ H s) (T : Turn X.prog X.w X.K tg J fp it tn) (st : tn 0 s.heap) (hf : ∀ b ∈ fp, FpOk X pins H b)
   (h : ∀ D, H D = none → RunC J g tc te D (Q D) (capS cap σ) (upd H D (.lst [])))
   (hR : ∀ D C s' H' m', H D = none → s.heap.objs.size ≤ C → s'.os = s.os → AllBare s'.gens → Un (frs X.stack) fp H H' s.heap s'.heap → HOk X.prog X.w H' s'.heap → s'.heap.Ns C m' → H' C = none → C ∉ fp → Q D H' → RR (.ref D) C (.ok .next) s') :
   wpAny (model X.prog X.w) X.A (newList []) (fun acc s₃ => wpAny (model X.prog X.w) X.A (newFunctionEnv sc X.env.globals (clOf X.env.cells sc.names []) [] X.env.qual none .none (some X.env)) (fun cenv s₄ =>
     codeAny (model X.prog X.w) X.A (.compStart (.ListComp elt [⟨tg, iter, ifs, 0⟩] sc pos) 0 (.ref it) acc { cenv with scope := relabel sc X.env }) (RR acc cenv.locals) s₄) E s₃) E s := by
 have hb : ∀ b ∈ fp, b < s.heap.objs.size := fun b hb => by
   obtain ⟨o, e, _⟩ := T.obj _ _ st b hb
   exact Heap.lt_size e
 refine wpAny_newObj_type (wpAny_newFunctionEnv c.nocell (by intro y hy; simp at hy) (fun h₁ hns₁ hsb₁ => ?_) c.kind)
 dsimp only at hns₁ hsb₁ ⊢
 generalize hH2 : s.heap.push { cls := .type "list", dict := none, data := .seq ([] : List Value).toArray } = H2 at hns₁ hsb₁ ⊢
 have hC : H2.objs.size = s.heap.objs.size + 1 := by rw [← hH2, Heap.size_push]
 have hCl : s.heap.objs.size ≤ H2.objs.size := by rw [hC]; exact Nat.le_succ _
 have hCn : s.heap.objs.size ≠ H2.objs.size := by rw [hC]; exact (Nat.succ_ne_self _).symm
 have old : ∀ b o, s.heap.get? b = some o → h₁.get? b = some o := fun b o e => by
   have l1 := Heap.lt_size e
   exact hsb₁.extBut b o (Nat.ne_of_lt (Nat.lt_of_lt_of_le l1 hCl)) (Heap.get?_push_of_some _ (hH2 ▸ Heap.get?_push_of_some _ e))
 have hl : h₁.get? s.heap.objs.size = some { cls := .type "list", data := .seq #[] 0 } := hsb₁.extBut _ _ hCn (Heap.get?_push_of_some _ (hH2 ▸ Heap.get?_push_size _ rfl))
 have hns₂ : h₁.Ns H2.objs.size fun _ => none := by simpa using hns₁
 have I4 : Inv (compCx X sc N' H2.objs.size s H fp) [] (capS cap σ) (upd H s.heap.objs.size (.lst [])) { s with heap := h₁, toks := s.toks + ([] : List (Str × Value)).length } := comp_inv c I hC rfl hf hb hns₂ hl old
 have hfr : H s.heap.objs.size = none := I.fresh
 have f4 : ∀ b ∈ fp, FpOk (compCx X sc N' H2.objs.size s H fp) [] (upd H s.heap.objs.size (.lst [])) b := fun b hb' => by
   obtain ⟨f0, f1, f2, f3, f4, f5⟩ := hf b hb'
   have lb := hb b hb'
   refine ⟨by rw [upd_ne (Nat.ne_of_lt lb)]; exact f0, (Nat.ne_of_lt (Nat.lt_of_lt_of_le lb hCl) : b ≠ H2.objs.size), fun z => ?_, .inl hb', fun x a e => f4 x a (lookup_clOf (c.cells I.ok) (fun z => by simp at z) e), fun p hp => absurd hp (by simp [compCx])⟩
   rcases List.mem_cons.mp (I.stkSub b z) with e | e
   · exact f1 e
   · exact f2 e
 have st4 : tn 0 h₁ := T.keep _ _ _ st fun b _ o e => old b o e
 have loop : ∀ s₅ : Shared, s₅ = { s with heap := h₁, toks := s.toks + ([] : List (Str × Value)).length } →
     codeAny (model X.prog X.w) X.A (.compLoop (.ListComp elt [⟨tg, iter, ifs, 0⟩] sc pos) 0 (.ref it) (.ref s.heap.objs.size) (compCx X sc N' H2.objs.size s H fp).env) (RR (.ref s.heap.objs.size) H2.objs.size) s₅ := by
   rintro s₅ rfl
   refine comp_loop (Y := compCx X sc N' H2.objs.size s H fp) (J := J) (fp := fp) (tn := tn) (Q := Q s.heap.objs.size) rfl hc (hg _ _ _ _) (ht _ _ _ _) (he _ _ _ _) T st4 f4 I4 (h _ hfr) fun τ' H' s' I' q' => ?_
   obtain ⟨m', hn', _⟩ := I'.loc
   exact hR _ _ s' H' m' hfr hCl I'.os I'.bare I'.base I'.hok hn' I'.free (fun z => absurd (Nat.lt_of_lt_of_le (hb _ z) hCl) (Nat.lt_irrefl _)) q'
 exact codeAny_compStart_list (loop _ rfl) (T.self _ 0 _ _ _ st4 (loop _ rfl))
noncomputable def tComp (wi : TI) (cap : List (Option Nat)) (g : TG) (tc : TT) (te : TE) : TE := fun σ H Q => wi σ H fun J H1 => ∀ D, H1 D = none → RunC J g tc te D (fun H' => Q (.ref D) H') (capS cap σ) (upd H1 D (.lst []))
theorem Inv.fpCh {pins : List (Addr × Obj)} {H : Hp} {fp : List Addr} (hf : ∀ b ∈ fp, FpOk X pins H b) : ∀ b ∈ fp, (b ∈ X.ex ∨ X.s₀.heap.objs.size ≤ b) ∧ b ≠ X.env.locals ∧ (∀ x c, X.env.cells.lookup x = some c → c ≠ b) ∧ ∀ p ∈ X.pn ++ pins, p.1 ≠ b :=
 fun b hb => let ⟨_, f1, _, f3, f4, f5⟩ := hf b hb; ⟨f3, f1, f4, f5⟩
theorem pe_comp {wi : TI} (hc : X.calm = true) (hcap : capB X.env.scope X.N sc N' cap = true) (hi : PI X tg iter wi) (hg : ∀ C s₀ H₀ fp, PG (compCx X sc N' C s₀ H₀ fp) tg g) (ht : ∀ C s₀ H₀ fp, PTs (compCx X sc N' C s₀ H₀ fp) ifs tc)
   (he : ∀ C s₀ H₀ fp, PE (compCx X sc N' C s₀ H₀ fp) elt te) (hs : ∀ x, foldedSetIterable iter X.env x = pure x := by intro _; rfl) : PE X (.ListComp elt [⟨tg, iter, ifs, 0⟩] sc pos) (tComp wi cap g tc te) := by
 intro pins s σ H Q I h
 have c : CapOk X sc N' cap := capB_ok hcap
 rw [eval_ListComp]
 refine wpAny_comprehension_free (use := none) rfl hs (closure_ok (c.cells I.ok)) c.kind c.locals (thn (hi pins s σ H _ I h) fun v s1 h1 => thn h1 fun itv s2 h2 => ?_)
 obtain ⟨it, fp, tn, J, H2, e, I2, T, st2, f2, hW⟩ := h2
 subst e
 refine comp_block (RR := fun acc C => compPost (model X.prog X.w) X.A X.xe none (EP X pins σ Q) acc C) (Q := fun D H' => Q (.ref D) H') c hc hg ht he I2 T st2 f2 hW ?_
 intro D C s' H' m' hD hC hos hbare hun hok hn hHC hCf q
 refine ⟨m', hn, fun h' hsb => ?_⟩
 have I3 : Inv X pins σ H' s' := I2.call' hos hun hok hbare (Inv.fpCh f2)
 have f3 : FpOk X pins H' C := I2.fpOk hC hHC
 obtain ⟨_, k1, _, k3, k4, k5⟩ := f3
 have I4 : Inv X pins σ H' { s' with heap := h' } := I3.turned (t' := s'.toks) (fun b o hb e => (hsb.2 b hb).trans e) hHC k1 k3 k4 k5
 exact ⟨.ref D, H', I4, rfl, q⟩
theorem ps_setC {wi : TI} {i : Nat} {x : Str} {px spos : Pos} (hN : X.N.Nodup) (hi' : X.N[i]? = some x) (hx : Loc X.env.scope x) (hc : X.calm = true) (hcap : capB X.env.scope X.N sc N' cap = true) (hi : PI X tg iter wi)
   (hg : ∀ C s₀ H₀ fp, PG (compCx X sc N' C s₀ H₀ fp) tg g) (ht : ∀ C s₀ H₀ fp, PTs (compCx X sc N' C s₀ H₀ fp) ifs tc) (he : ∀ C s₀ H₀ fp, PE (compCx X sc N' C s₀ H₀ fp) elt te)
   (hsw : swapsWith (.ListComp elt [⟨tg, iter, ifs, 0⟩] sc pos) (some (.Name x px)) spos.line X.env = pure true := by rfl)
   (hs : ∀ x, foldedSetIterable iter X.env x = pure x := by intro _; rfl) (hf : X.fn x = true ∨ X.env.scope.names.lookup x = some .local := by first | exact .inl rfl | exact .inr rfl | assumption) :
   PS X (.Assign [.Name x px] (.ListComp elt [⟨tg, iter, ifs, 0⟩] sc pos) spos) (tAsg (tComp wi cap g tc te) (gName i)) := by
 intro pins s σ H D I h
 have c : CapOk X sc N' cap := capB_ok hcap
 rw [exec_Assign_Name_used _ _ _ _ hsw]
 refine wpAny_bind (wpAny_standAt (wpAny_bind ?_))
 show wpAny _ X.A (do let _ ← comprehension (.ListComp elt [⟨tg, iter, ifs, 0⟩] sc pos) sc X.env _ (newList []) false (eval iter X.env) (some (assign (.Name x px) X.env))) _ _ s
 refine wpAny_bind (thn (wpAny_comprehension_free (use := some (assign (.Name x px) X.env)) (Q := fun _ s' => SP X pins D .next s') rfl hs (closure_ok (c.cells I.ok)) c.kind c.locals
   (thn (hi pins s σ H _ I h) fun v s1 h1 => thn h1 fun itv s2 h2 => ?_)) fun _ s' hq => wpAny_pure (wpAny_pure hq))
 obtain ⟨it, fp, tn, J, H2, e, I2, T, st2, f2, hW⟩ := h2
 subst e
 refine comp_block (RR := fun acc C => compPost (model X.prog X.w) X.A X.xe (some (assign (.Name x px) X.env)) (fun _ s' => SP X pins D .next s') acc C) (Q := fun A H' => gName i (.ref A) σ H' D.nx) c hc hg ht he I2 T st2 f2 hW ?_
 intro A C s' H' m' hD hC hos hbare hun hok hn hHC hCf q
 have I3 : Inv X pins σ H' s' := I2.call' hos hun hok hbare (Inv.fpCh f2)
 have f3 : FpOk X pins H' C := I2.fpOk hC hHC
 obtain ⟨_, k1, _, k3, k4, k5⟩ := f3
 show wpAny _ X.A (assign (.Name x px) X.env (.ref A)) _ _ s'
 refine wpAny_assign_Name (store_ok2 I3 hN hi' hx (v := .ref A) rfl (fun s'' I'' ⟨a, hsb, ha⟩ => ?_) hf)
 have hCa : C ≠ a := by
   rcases ha with z | z
   · rw [z]; exact k1
   · exact fun z' => k4 x a z z'.symm
 refine ⟨m', hn.sameBut hsb hCa, fun h' hsb' => ?_⟩
 have I4 : Inv X pins (σ.set i (some (.ref A))) H' { s'' with heap := h' } := I''.turned (t' := s''.toks) (fun b o hb e => (hsb'.2 b hb).trans e) hHC k1 k3 k4 k5
 exact ⟨_, H', I4, q⟩
end
section
variable {g : TG} {tc : TT} {te : TE} {D : Addr} {Q : Hp → Prop} {τ : St} {H : Hp}
theorem comp_list {K : PySem.W.Frag} {a : Addr} {xs : List V} (Pv : Nat → List V → St → Hp → Prop) (h0 : Pv 0 [] τ H) (hl : ∀ i ys τ H, i ≤ xs.length → Pv i ys τ H → SqL K H a xs)
   (hs : ∀ i x ys τ H, xs[i]? = some x → Pv i ys τ H → g x τ H fun τ2 H2 => tc τ2 H2 fun b H3 => if b = true then te τ2 H3 fun y H4 => H4 D = some (.lst ys) ∧ ys.length < sizeLine ∧ Pv (i + 1) (ys ++ [y]) τ2 (upd H4 D (.lst (ys ++ [y]))) else Pv (i + 1) ys τ2 H3)
   (hd : ∀ ys τ H, Pv xs.length ys τ H → Q H) : RunC (Itl K a) g tc te D Q τ H := by
 refine ⟨fun i m ys τ H => m = xs.length - i ∧ i ≤ xs.length ∧ Pv i ys τ H, ⟨xs.length, by simp, Nat.zero_le _, h0⟩, ?_⟩
 rintro i m ys τ H ⟨rfl, hi, p⟩
 have q := hl i ys τ H hi p
 by_cases hlt : i < xs.length
 · refine .inr ⟨⟨xs, xs[i], q, by simp [hlt]⟩, Pv (i + 1), fun ys' τ' H' p' => ⟨xs.length - (i + 1), by omega, rfl, hlt, p'⟩, fun x H' y => ?_⟩
   obtain ⟨e, y⟩ := y
   subst e
   exact hs i x ys τ _ (y xs q) p
 · have e : i = xs.length := by omega
   subst e
   exact .inl ⟨⟨xs, q, Nat.le_refl _⟩, hd ys τ H p⟩
theorem comp_tup {K : PySem.W.Frag} {a : Addr} {xs : List V} (Pv : Nat → List V → St → Hp → Prop) (h0 : Pv 0 [] τ H) (hl : ∀ i ys τ H, i ≤ xs.length → Pv i ys τ H → SqT K H a xs)
   (hs : ∀ i x ys τ H, xs[i]? = some x → Pv i ys τ H → g x τ H fun τ2 H2 => tc τ2 H2 fun b H3 => if b = true then te τ2 H3 fun y H4 => H4 D = some (.lst ys) ∧ ys.length < sizeLine ∧ Pv (i + 1) (ys ++ [y]) τ2 (upd H4 D (.lst (ys ++ [y]))) else Pv (i + 1) ys τ2 H3)
   (hd : ∀ ys τ H, Pv xs.length ys τ H → Q H) : RunC (Itt K a) g tc te D Q τ H := by
 refine ⟨fun i m ys τ H => m = xs.length - i ∧ i ≤ xs.length ∧ Pv i ys τ H, ⟨xs.length, by simp, Nat.zero_le _, h0⟩, ?_⟩
 rintro i m ys τ H ⟨rfl, hi, p⟩
 have q := hl i ys τ H hi p
 by_cases hlt : i < xs.length
 · refine .inr ⟨⟨xs, xs[i], q, by simp [hlt]⟩, Pv (i + 1), fun ys' τ' H' p' => ⟨xs.length - (i + 1), by omega, rfl, hlt, p'⟩, fun x H' y => ?_⟩
   obtain ⟨e, y⟩ := y
   subst e
   exact hs i x ys τ _ (y xs q) p
 · have e : i = xs.length := by omega
   subst e
   exact .inl ⟨⟨xs, q, Nat.le_refl _⟩, hd ys τ H p⟩
theorem comp_range {lo : Int} {n : Nat} (Pv : Nat → List V → St → Hp → Prop) (h0 : Pv 0 [] τ H)
   (hs : ∀ i ys τ H, i < n → Pv i ys τ H → g (.int (lo + i)) τ H fun τ2 H2 => tc τ2 H2 fun b H3 => if b = true then te τ2 H3 fun y H4 => H4 D = some (.lst ys) ∧ ys.length < sizeLine ∧ Pv (i + 1) (ys ++ [y]) τ2 (upd H4 D (.lst (ys ++ [y]))) else Pv (i + 1) ys τ2 H3)
   (hd : ∀ ys τ H, Pv n ys τ H → Q H) : RunC (Itr lo n) g tc te D Q τ H := by
 refine ⟨fun i m ys τ H => m = n - i ∧ i ≤ n ∧ Pv i ys τ H, ⟨n, by simp, Nat.zero_le _, h0⟩, ?_⟩
 rintro i m ys τ H ⟨rfl, hi, p⟩
 by_cases hlt : i < n
 · refine .inr ⟨hlt, Pv (i + 1), fun ys' τ' H' p' => ⟨n - (i + 1), by omega, rfl, hlt, p'⟩, fun x H' y => ?_⟩
   obtain ⟨e, y⟩ := y
   subst e y
   exact hs i ys τ _ hlt p
 · have e : i = n := by omega
   subst e
   exact .inl ⟨Nat.le_refl _, hd ys τ H p⟩
end
end L2
namespace L2
open PySem PySem.Spec PyProof.Rows PySem.SeqAt
noncomputable def cK (ms : List (Int × Int)) : List (Key × V) := ms.map fun p => (Sum.inl p.1, V.int p.2)
noncomputable def lookI (ms : List (Int × Int)) (k : Int) : Option Int := (ms.find? fun p => decide (p.1 = k)).map (·.2)
end L2
namespace L2
open PySem PySem.Spec PyProof.Rows
section
variable {prog : Program} {w : World} {A : Around} {E : Value → Shared → Prop}
theorem list_no_keys : typeLookup (.type "list") "keys" = pure none := am_miss_of_fast (by kernel_rfl)
theorem keys_miss_list {s : Shared} {a : Addr} {xs : Array Value} {k : Nat} {Q : Option Value → Shared → Prop}
   (hx : s.heap.get? a = some { cls := .type "list", data := .seq xs k }) (hA : A.handled = none)
   (h : ∀ h' tk, (∀ b o, s.heap.get? b = some o → h'.get? b = some o) → Q none { s with heap := h', toks := tk }) :
   wpAny (model prog w) A (getAttr? (.ref a) "keys") Q E s := by
 obtain ⟨hp, g, d, tk, os⟩ := s
 have hT : ∀ tk', (⟨hp, g, d, tk', os⟩ : Shared).TypeIs (.ref a) "list" := fun _ => ⟨_, hx, rfl⟩
 have f1 := sub_AttributeError
 have f3 := F.slot_list_getattribute.lookup
 have f4 := F.slot_list_getattribute.bind (.ref a)
 have f5 := am_list_getattr_none
 unfold getAttr? getAttrBy? getAttrBy
 repeat (any_goals (first | assumption | exact hT _ | ((with_reducible show wpAny _ _ (call (Value.builtin "list.__getattribute__") _ _) _ _ _); refine call_meets F.slot_list_getattribute (hT _) am_entry_list_getattribute (F.args_list_getattribute_2 _ _) (meets_getattribute_miss_list a xs k #[] "keys" _ list_no_keys (by decide +kernel)) ⟨hx, hA, fun h' tk' e hx' => ?_⟩) | wp_step))
 obtain ⟨t', u', he⟩ := hx'.there
 show wpAny _ _ (getattributeRaised _ _ _ _ _ _ _) _ _ _
 unfold getattributeRaised
 repeat (any_goals (first | assumption | wp_step))
 exact h _ _ hx'.keeps
theorem plain_dloop : plainId "dict.update.loop" = true := by decide +kernel
theorem entry_dloop : entryFor table "dict.update.loop" = some Builtin.«dict.update.loop» := entryFor_of_fast (by kernel_rfl)
variable {KT : Type} [DecidableEq KT] {knd : KeyKind prog w KT}
noncomputable def But2 (d it : Addr) (h0 h : Heap) : Prop := ∀ b o, b ≠ d → b ≠ it → h0.get? b = some o → h.get? b = some o
theorem dict_loop (hh : A.handled = none) {d it l : Addr} {items : Array Value} {prs : List (KT × Value)} (hl : prs.length = items.size) (ndi : d ≠ it) (nld : l ≠ d) (nli : l ≠ it) {h0 : Heap} (hL : h0.IsList l items)
   (hP : ∀ (i : Nat) (x : Value), items[i]? = some x → ∃ (p : KT × Value) (t : Addr) (key : Value), prs[i]? = some p ∧ x = .ref t ∧ t ≠ d ∧ t ≠ it ∧ h0.IsTuple t #[key, p.2] ∧ knd.is p.1 key = true) {R : Result → Shared → Prop} :
   ∀ (n i : Nat) (s : Shared) (acc : List (KT × Value)), prs.length - i = n → i ≤ prs.length → acc.length + n ≤ sizeLine → s.heap.DictOf knd d acc → s.heap.IsListIter it l i → But2 d it h0 s.heap →
     (∀ h' tk, h'.DictOf knd d (merged acc (prs.drop i)) → But2 d it h0 h' → R (.ok (.ret .none)) { s with heap := h', toks := tk }) →
     codeAny (model prog w) A (.builtin "dict.update.loop" ⟨[.ref d, .ref it, rawInt i, .none], []⟩) R s := by
 intro n
 induction n with
 | zero =>
   intro i s acc hn hi hz hd hit hb k
   refine codeAny_builtin entry_dloop ?_
   rw [Around.under_plainId plain_dloop]
   have hLs : s.heap.IsList l items := let ⟨o, ho, r⟩ := hL; ⟨o, hb _ _ nld nli ho, r⟩
   have hx : items[i]? = none := by simp; omega
   show wpAny _ _ (pyNext (.ref it) >>= _) _ _ s
   refine wpAny_bind (wpAny_pyNext_list_end hh hit hLs hx fun h' he => ?_)
   show wpAny _ _ (Builtin.Dict.addKeywords d [] >>= _) _ _ _
   refine wpAny_bind (wpAny_pure (wpAny_pure ?_))
   have e : prs.drop i = [] := by simp; omega
   have k' := k h' s.toks (by rw [e]; exact hd.extBut he ndi) fun b o n1 n2 q => he b o n2 (hb b o n1 n2 q)
   exact k'
 | succ n ih =>
   intro i s acc hn hi hz hd hit hb k
   refine codeAny_builtin entry_dloop ?_
   rw [Around.under_plainId plain_dloop]
   have hLs : s.heap.IsList l items := let ⟨o, ho, r⟩ := hL; ⟨o, hb _ _ nld nli ho, r⟩
   have hlt : i < items.size := by omega
   obtain ⟨p, t, key, hp, ex, ntd, nti, hT, hkey⟩ := hP i items[i] (by simp [hlt])
   show wpAny _ _ (pyNext (.ref it) >>= _) _ _ s
   refine wpAny_bind (wpAny_pyNext_list_item hit hLs (x := items[i]) (by simp [hlt]) fun h1 hit1 hs1 => ?_)
   rw [ex]
   have hT1 : h1.IsTuple t #[key, p.2] := let ⟨o, ho, r⟩ := hT; ⟨o, (hs1.2 t nti).trans (hb _ _ ntd nti ho), r⟩
   have hd1 : h1.DictOf knd d acc := hd.sameBut hs1 ndi
   obtain ⟨o, ho, hc, m, hdat⟩ := hT1
   refine wpAny_bind (wpAny_holding ?_)
   refine wpAny_bind (wpAny_tryCatch ?_)
   unfold Builtin.Dict.pairItems
   refine wpAny_bind (wpAny_typeOf (show (({ s with heap := h1 } : Shared).TypeIs (.ref t) "tuple") from ⟨o, ho, hc⟩) ?_)
   rw [if_pos (by decide)]
   refine wpAny_bind (wpAny_seqItems ho hdat (wpAny_pure ?_))
   show wpAny _ _ (holding [key, p.2] (dictSet d key p.2)) _ _ _
   refine wpAny_holding (wpAny_dictSet_pairs (s := { s with heap := h1 }) hkey hd1 (fun h2 hd2 hs2 => ?_) (by omega))
   refine wpAny_pure ⟨plainId_quiet plain_dloop _, ?_⟩
   have e2 : prs.drop i = p :: prs.drop (i + 1) := by
     rw [List.drop_eq_getElem_cons (by omega)]
     congr 1
     rw [List.getElem?_eq_getElem (by omega)] at hp
     exact Option.some.inj hp
   have hl2 := stored_length_le acc p.1 p.2
   refine ih (i + 1) { s with heap := h2, toks := s.toks + 1 } (stored acc p.1 p.2) (by omega) (by omega) (by omega) hd2 ?_ (fun b o' n1 n2 q => ?_) (fun h' tk hd' hb' => k h' tk (by rw [e2]; exact hd') hb')
   · obtain ⟨oi, hoi, ri⟩ := hit1
     exact ⟨oi, (hs2.2 it (Ne.symm ndi)).trans hoi, ri⟩
   · exact (hs2.2 b n1).trans ((hs1.2 b n2).trans (hb b o' n1 n2 q))
end
theorem vals_pair {x y : V} {us : List Value} (r : Vals [x, y] us) : ∃ a b, us = [a, b] ∧ RelV x a ∧ RelV y b := by
 cases r with
 | cons h1 r =>
   cases r with
   | cons h2 r =>
     cases r
     exact ⟨_, _, rfl, h1, h2⟩
theorem pairs_of {P : Program} {w : World} {H : Hp} {h : Heap} (hok : HOk P w H h) : ∀ (ts : List Addr) (kvs : List (Key × V)), ts.length = kvs.length → (∀ (i : Nat) t, ts[i]? = some t → ∃ kv : Key × V, kvs[i]? = some kv ∧ H t = some (.tup [kV kv.1, kv.2])) →
   ∃ prs : List (Key × Value), KV kvs prs ∧ prs.length = ts.length ∧ ∀ (i : Nat) t, ts[i]? = some t → ∃ (p : Key × Value) (key : Value), prs[i]? = some p ∧ h.IsTuple t #[key, p.2] ∧ (mixKind P w).is p.1 key = true
 | [], [], _, _ => ⟨[], .nil, rfl, fun i t e => by simp at e⟩
 | [], _ :: _, hl, _ => by simp at hl
 | _ :: _, [], hl, _ => by simp at hl
 | t :: ts, kv :: kvs, hl, hk => by
   obtain ⟨prs, h1, h2, h3⟩ := pairs_of hok ts kvs (by simpa using hl) fun i t e => by
     obtain ⟨kv', e1, e2⟩ := hk (i + 1) t (by simpa using e)
     exact ⟨kv', by simpa using e1, e2⟩
   obtain ⟨kv', e1, e2⟩ := hk 0 t rfl
   have e1' : kv = kv' := by simpa using e1
   subst e1'
   obtain ⟨_, its, rv, o, ho, hc, hdn, n, hd⟩ := hok t _ e2
   obtain ⟨a, b, rfl, ra, rb⟩ := vals_pair rv
   refine ⟨(kv.1, b) :: prs, .cons ⟨rfl, rb⟩ h1, by simp [h2], fun i t' e => ?_⟩
   cases i with
   | zero =>
     have : t = t' := by simpa using e
     subst this
     exact ⟨(kv.1, b), a, rfl, ⟨o, ho, hc, n, hd⟩, kV_is ra⟩
   | succ i =>
     obtain ⟨p, key, q1, q2, q3⟩ := h3 i t' (by simpa using e)
     exact ⟨p, key, by simpa using q1, q2, q3⟩
theorem call_dictP {X : Cx} (hc : X.calm = true) : CallR X (.type "dict") (fun xs H Q => ∃ (p : Addr) (ts : List Addr) (kvs : List (Key × V)), xs = [.ref p] ∧ H p = some (.lst (ts.map V.ref)) ∧ ts.length = kvs.length ∧
   (∀ (i : Nat) t, ts[i]? = some t → ∃ kv : Key × V, kvs[i]? = some kv ∧ H t = some (.tup [kV kv.1, kv.2])) ∧ ∀ D, H D = none → Q (.ref D) (upd H D (.dK (mergeK [] kvs)))) := by
 intro pins s σ H xs us Q I r h
 obtain ⟨l, ts, kvs, rfl, hl, hlen, hk, q⟩ := h
 obtain ⟨u, rfl, ru⟩ := vals1 r
 cases ru
 have hh : X.A.handled = none := I.ok.hd hc
 obtain ⟨hz, its, n, rv, ho⟩ := I.hok l _ hl
 rw [List.length_map] at hz
 have hil : its.length = ts.length := by rw [← rv.length, List.length_map]
 obtain ⟨prs, hkv, hpl, hP⟩ := pairs_of I.hok ts kvs hlen hk
 have at_ : ∀ (i : Nat) (x : Value), its.toArray[i]? = some x → ∃ t, ts[i]? = some t ∧ x = .ref t := fun i x e => by
   have e' : its[i]? = some x := by simpa using e
   have hlt : i < its.length := (List.getElem?_eq_some_iff.mp e').1
   have hb : ts[i]? = some (ts[i]'(by omega)) := by simp <;> omega
   obtain ⟨u, hu, ru⟩ := rv.get (i := i) (x := V.ref (ts[i]'(by omega))) (by rw [List.getElem?_map, hb]; rfl)
   rw [e'] at hu
   cases hu
   cases ru
   exact ⟨_, hb, rfl⟩
 refine callType_codes (Q₁ := fun obj s₁ => obj = .ref s.heap.objs.size ∧ s₁ = { s with heap := s.heap.push { cls := .type "dict", data := .dict #[] } }) PySem.F.kt_called_dict (PySem.F.kt_typeCall_dict_1 _) PySem.F.entry_dict_init (kt_code_dict_new _ ⟨rfl, rfl⟩) ?_
 rintro obj s₁ ⟨rfl, rfl⟩
 have hnew : (s.heap.push { cls := .type "dict", data := .dict #[] }).DictOf (mixKind X.prog X.w) s.heap.objs.size [] := Heap.DictOf.new s.heap
 refine ⟨hnew.typeIs, PySem.F.args_dict_init_2 _ _, ?_⟩
 unfold Builtin.«dict.__init__»
 refine wpAny_bind ?_
 unfold Builtin.Dict.selfAndRest
 refine wpAny_bind (wpAny_notOrdered_dict hnew.typeIs ?_)
 show wpAny _ _ (pure (s.heap.objs.size, [Value.ref l])) _ _ _
 refine wpAny_pure ?_
 show wpAny _ _ (Builtin.Dict.updateFrom "dict.__init__" s.heap.objs.size (.ref l) [] .none) _ _ _
 unfold Builtin.Dict.updateFrom
 have ho1 : (s.heap.push { cls := .type "dict", data := .dict #[] }).get? l = some { cls := .type "list", data := .seq its.toArray n } := Heap.get?_push_of_some _ ho
 refine wpAny_bind (wpAny_typeOf (show (({ s with heap := s.heap.push { cls := .type "dict", data := .dict #[] } } : Shared).TypeIs (.ref l) "list") from ⟨_, ho1, rfl⟩) ?_)
 rw [if_pos (by decide)]
 refine wpAny_bind (keys_miss_list ho1 hh fun h1 tk hk1 => ?_)
 rw [if_pos (show (none : Option Value).isNone = true from rfl)]
 refine wpAny_bind (wpAny_rule ?_)
 have hl1 : h1.IsList l its.toArray := ⟨_, hk1 _ _ ho1, rfl, n, rfl⟩
 refine wpAny_bind (wpAny_pyIter_list hl1 ?_)
 refine wpAny_pure ⟨plainId_quiet plain_dloop _, ?_⟩
 have lt0 : l < s.heap.objs.size := Heap.lt_size ho
 have nD : ∀ b o, s.heap.get? b = some o → b ≠ s.heap.objs.size := fun b o e => Nat.ne_of_lt (Heap.lt_size e)
 have up : ∀ b o, s.heap.get? b = some o → h1.get? b = some o := fun b o e => hk1 _ _ (Heap.get?_push_of_some _ e)
 have nI : ∀ b o, s.heap.get? b = some o → b ≠ h1.objs.size := fun b o e => Nat.ne_of_lt (Heap.lt_size (up b o e))
 obtain ⟨oD, esD, epD, hoD, rD⟩ := id hnew
 have hD1 : h1.DictOf (mixKind X.prog X.w) s.heap.objs.size [] := ⟨oD, esD, epD, hk1 _ _ hoD, rD⟩
 have ndi : s.heap.objs.size ≠ h1.objs.size := Nat.ne_of_lt (Heap.lt_size (hk1 _ _ hoD))
 refine dict_loop (knd := mixKind X.prog X.w) (show X.A.in1.handled = none from hh) (prs := prs) (items := its.toArray) (l := l) (d := s.heap.objs.size) (it := h1.objs.size) (h0 := h1.push { cls := .type "list_iterator", data := .fields #[.ref l, .int 0 0] }) (by simp; omega) ndi (nD _ _ ho) (nI _ _ ho)
   ⟨_, Heap.get?_push_of_some _ (hk1 _ _ ho1), rfl, n, rfl⟩ (fun i x e => ?_) prs.length 0 _ [] (by omega) (by omega) ?_ (hD1.push _) ⟨_, Heap.get?_push_size _ rfl, rfl, rfl⟩ (fun b o _ _ e => e) (fun h' tk' hd' hb' => ?_)
 · obtain ⟨t, e1, rfl⟩ := at_ i x e
   obtain ⟨p, key, e2, ⟨o, ho', r'⟩, e4⟩ := hP i t e1
   exact ⟨p, t, key, e2, rfl, nD _ _ ho', nI _ _ ho', ⟨o, Heap.get?_push_of_some _ (up _ _ ho'), r'⟩, e4⟩
 · have e0 : ([] : List (Key × Value)).length = 0 := rfl
   omega
 · refine ⟨rfl, .ref s.heap.objs.size, upd H s.heap.objs.size (.dK (mergeK [] kvs)), ?_, rfl, q _ (I.hok.fresh (Nat.le_refl _))⟩
   have hzz : (mergeK [] kvs).length ≤ sizeLine := by
     have h1 := length_mergeK kvs []
     rw [List.length_nil] at h1
     omega
   refine I.laid (a := s.heap.objs.size) (o := .dK (mergeK [] kvs)) (t' := tk') (fun b o e => hb' b o (nD _ _ e) (nI _ _ e) (Heap.get?_push_of_some _ (up _ _ e))) (Nat.le_refl _) (dk_new hzz (beq_eq_false_iff_ne.mpr (Ne.symm (Nat.ne_of_lt I.big))) (hkv.merge .nil) ?_)
   simpa using hd'
theorem mergeK_nodup : ∀ (more kvs : List (Key × V)), ((kvs ++ more).map (·.1)).Nodup → mergeK kvs more = kvs ++ more
 | [], kvs, _ => by simp [mergeK]
 | p :: more, kvs, h => by
   have hnot : (kvs.any fun kv => decide (kv.1 = p.1)) = false := by
     rw [List.any_eq_false]
     intro kv hkv hd
     have e : kv.1 = p.1 := by simpa using hd
     rw [List.map_append, List.nodup_append] at h
     exact h.2.2 kv.1 (List.mem_map_of_mem hkv) p.1 (by simp) e
   have e : putK kvs p.1 p.2 = kvs ++ [p] := by
     unfold putK
     rw [if_neg (by rw [hnot]; decide)]
   show mergeK (putK kvs p.1 p.2) more = _
   rw [e, mergeK_nodup more (kvs ++ [p]) (by simpa using h)]
   simp
end L2
namespace L2
open PySem PySem.Spec PyProof.Rows PySem.SeqAt
end L2
namespace L2
open PySem PySem.Spec PyProof.Rows PySem.SeqAt
inductive D where
 | non | bl (b : Bool) | int (i : Int) | str (x : Str) | tup (ds : List D) | lst (ds : List D)
mutual
noncomputable def Rep (K : PySem.W.Frag) (H : Hp) : V → D → Prop
 | v, .non => v = .non
 | v, .bl b => v = .bl b
 | v, .int i => v = .int i
 | v, .str x => v = .str x
 | v, .tup ds => ∃ a vs, v = .ref a ∧ SqT K H a vs ∧ Reps K H vs ds
 | v, .lst ds => ∃ a vs, v = .ref a ∧ SqL K H a vs ∧ Reps K H vs ds
noncomputable def Reps (K : PySem.W.Frag) (H : Hp) : List V → List D → Prop
 | vs, [] => vs = []
 | vs, d :: ds => ∃ v r, vs = v :: r ∧ Rep K H v d ∧ Reps K H r ds
end
mutual
noncomputable def imm : D → Bool
 | .lst _ => false
 | .tup ds => imms ds
 | _ => true
noncomputable def imms : List D → Bool
 | [] => true
 | d :: ds => imm d && imms ds
end
mutual
noncomputable def dep : D → Nat
 | .lst ds => deps ds + 1
 | .tup ds => deps ds + 1
 | _ => 0
noncomputable def deps : List D → Nat
 | [] => 0
 | d :: ds => max (dep d) (deps ds)
end
mutual
noncomputable def eqD : D → D → Bool
 | .non, .non => true
 | .bl a, .bl b => a == b
 | .bl a, .int b => (if a then 1 else 0) == b
 | .int a, .bl b => a == (if b then 1 else 0)
 | .int a, .int b => a == b
 | .str a, .str b => a == b
 | .tup a, .tup b => eqDs a b
 | .lst a, .lst b => eqDs a b
 | _, _ => false
noncomputable def eqDs : List D → List D → Bool
 | [], [] => true
 | a :: r, b :: q => eqD a b && eqDs r q
 | _, _ => false
end
mutual
theorem eqD_refl (d : D) : eqD d d = true := by
 cases d with
 | non => rfl
 | bl b => simp [eqD]
 | int b => simp [eqD]
 | str b => simp [eqD]
 | tup ds => simp only [eqD]; exact eqDs_refl ds
 | lst ds => simp only [eqD]; exact eqDs_refl ds
theorem eqDs_refl (ds : List D) : eqDs ds ds = true := by
 cases ds with
 | nil => rfl
 | cons d r => simp only [eqDs, Bool.and_eq_true]; exact ⟨eqD_refl d, eqDs_refl r⟩
end
theorem eqDs_len : ∀ {a b : List D}, eqDs a b = true → a.length = b.length
 | [], [], _ => rfl
 | [], _ :: _, h => by simp [eqDs] at h
 | _ :: _, [], h => by simp [eqDs] at h
 | x :: a, y :: b, h => by
   simp only [eqDs, Bool.and_eq_true] at h
   rw [List.length_cons, List.length_cons, eqDs_len h.2]
theorem eqDs_all : ∀ (a b : List D), a.length = b.length → eqDs a b = (List.range a.length).all fun j => match a[j]?, b[j]? with | some x, some y => eqD x y | _, _ => true
 | [], [], _ => by simp [eqDs]
 | [], _ :: _, h => by simp at h
 | _ :: _, [], h => by simp at h
 | x :: a, y :: b, h => by
   have h' : a.length = b.length := by simpa using h
   rw [List.length_cons, List.range_succ_eq_map, List.all_cons, List.all_map]
   simp only [eqDs, eqDs_all a b h']
   congr 1
structure TSame (H H' : Hp) : Prop where
 tup : ∀ b xs, H b = some (.tup xs) → H' b = some (.tup xs)
 frz : ∀ b o u, H b = some (.frz o u) → H' b = some (.frz o u)
section
variable {K : PySem.W.Frag} {H H' H1 H2 : Hp} {a l p : Addr} {xs : List V} {o : HO}
theorem Same.t (x : Same H H') : TSame H H' := ⟨fun b xs h => x b _ h, fun b o u h => x b _ h⟩
theorem TSame.lst (h : H l = some (.lst xs)) : TSame H (upd H l o) := ⟨fun b ys e => by rw [upd_ne (ne_of e h (by intro z; cases z))]; exact e, fun b ob u e => by rw [upd_ne (ne_of e h (by intro z; cases z))]; exact e⟩
theorem Same.new (h : H l = none) : Same H (upd H l o) := fun b u e => by rw [upd_ne (ne_of_none e h)]; exact e
theorem Same.turn (x : Same H H1) (h : H l = none) : Same H (upd H1 l o) := fun b u e => by rw [upd_ne (ne_of_none e h)]; exact x b u e
theorem SqT.t (x : TSame H H') (h : SqT K H a xs) : SqT K H' a xs := by
 rcases h with (h | ⟨o, h⟩) | h
 · exact .inl (.inl (x.tup _ _ h))
 · exact .inl (.inr ⟨o, x.frz _ _ _ h⟩)
 · exact .inr h
theorem Same.seqT (x : Same H H') (h : SqT K H a xs) : SqT K H' a xs := h.t x.t
mutual
theorem Rep.t (x : TSame H H') {v : V} {d : D} (hi : imm d = true) (h : Rep K H v d) : Rep K H' v d := by
 cases d with
 | non => exact h
 | bl b => exact h
 | int i => exact h
 | str x => exact h
 | tup ds =>
   obtain ⟨a, vs, e, q, r⟩ := h
   exact ⟨a, vs, e, q.t x, Reps.t x (by simpa [imm] using hi) r⟩
 | lst ds => simp [imm] at hi
theorem Reps.t (x : TSame H H') {vs : List V} {ds : List D} (hi : imms ds = true) (h : Reps K H vs ds) : Reps K H' vs ds := by
 cases ds with
 | nil => exact h
 | cons d r =>
   obtain ⟨v, q, e, h1, h2⟩ := h
   simp only [imms, Bool.and_eq_true] at hi
   exact ⟨v, q, e, Rep.t x hi.1 h1, Reps.t x hi.2 h2⟩
end
mutual
theorem Rep.same (x : Same H H') {v : V} {d : D} (h : Rep K H v d) : Rep K H' v d := by
 cases d with
 | non => exact h
 | bl b => exact h
 | int i => exact h
 | str x => exact h
 | tup ds =>
   obtain ⟨a, vs, e, q, r⟩ := h
   exact ⟨a, vs, e, x.seqT q, Reps.same x r⟩
 | lst ds =>
   obtain ⟨a, vs, e, q, r⟩ := h
   exact ⟨a, vs, e, x.seq q, Reps.same x r⟩
theorem Reps.same (x : Same H H') {vs : List V} {ds : List D} (h : Reps K H vs ds) : Reps K H' vs ds := by
 cases ds with
 | nil => exact h
 | cons d r =>
   obtain ⟨v, q, e, h1, h2⟩ := h
   exact ⟨v, q, e, Rep.same x h1, Reps.same x h2⟩
end
theorem Reps.length : ∀ {vs : List V} {ds : List D}, Reps K H vs ds → vs.length = ds.length
 | vs, [], h => by cases (show vs = [] from h); rfl
 | vs, d :: ds, h => by
   obtain ⟨v, r, rfl, _, h2⟩ := h
   rw [List.length_cons, List.length_cons, Reps.length h2]
theorem Reps.get : ∀ {vs : List V} {ds : List D} {i : Nat} {d : D}, Reps K H vs ds → ds[i]? = some d → ∃ v, vs[i]? = some v ∧ Rep K H v d
 | vs, [], i, d, h, e => by simp at e
 | vs, d0 :: ds, 0, d, h, e => by
   obtain ⟨v, r, rfl, h1, _⟩ := h
   simp only [List.getElem?_cons_zero, Option.some.injEq] at e
   subst e
   exact ⟨v, by simp, h1⟩
 | vs, d0 :: ds, i + 1, d, h, e => by
   obtain ⟨v, r, rfl, _, h2⟩ := h
   obtain ⟨u, e1, e2⟩ := Reps.get (i := i) h2 (by simpa using e)
   exact ⟨u, by simpa using e1, e2⟩
theorem Reps.getV : ∀ {vs : List V} {ds : List D} {i : Nat} {v : V}, Reps K H vs ds → vs[i]? = some v → ∃ d, ds[i]? = some d ∧ Rep K H v d := fun {vs ds i v} h e => by
 have hl := h.length
 have hi : i < vs.length := (List.getElem?_eq_some_iff.mp e).1
 obtain ⟨d, hd⟩ : ∃ d, ds[i]? = some d := ⟨ds[i]'(by omega), by simp <;> omega⟩
 obtain ⟨u, e1, e2⟩ := h.get hd
 rw [e] at e1
 cases e1
 exact ⟨d, hd, e2⟩
theorem Reps.append : ∀ {vs ws : List V} {ds es : List D}, Reps K H vs ds → Reps K H ws es → Reps K H (vs ++ ws) (ds ++ es)
 | vs, ws, [], es, h, h' => by cases (show vs = [] from h); exact h'
 | vs, ws, d :: ds, es, h, h' => by
   obtain ⟨v, r, rfl, h1, h2⟩ := h
   exact ⟨v, r ++ ws, rfl, h1, Reps.append h2 h'⟩
theorem Reps.take : ∀ {vs : List V} {ds : List D} (n : Nat), Reps K H vs ds → Reps K H (vs.take n) (ds.take n)
 | vs, ds, 0, h => by simp [Reps]
 | vs, [], n + 1, h => by cases (show vs = [] from h); simp [Reps]
 | vs, d :: ds, n + 1, h => by
   obtain ⟨v, r, rfl, h1, h2⟩ := h
   exact ⟨v, r.take n, rfl, h1, Reps.take n h2⟩
noncomputable def nums (ns : List Int) : List D := ns.map D.int
noncomputable abbrev tI (ns : List Int) : D := .tup (nums ns)
theorem imms_nums : ∀ ns : List Int, imms (nums ns) = true
 | [] => rfl
 | n :: ns => by show (imm (.int n) && imms (nums ns)) = true; rw [imms_nums ns]; rfl
theorem imm_tI (ns : List Int) : imm (tI ns) = true := imms_nums ns
theorem imms_tIs : ∀ xs : List (List Int), imms (xs.map tI) = true
 | [] => rfl
 | x :: xs => by show (imm (tI x) && imms (xs.map tI)) = true; rw [imms_tIs xs, imm_tI]; rfl
theorem reps_nums : ∀ {vs : List V} {ns : List Int}, Reps K H vs (nums ns) ↔ vs = ns.map V.int
 | vs, [] => Iff.rfl
 | vs, n :: ns => by
   constructor
   · rintro ⟨v, r, rfl, h1, h2⟩
     have h1' : v = .int n := h1
     rw [h1', reps_nums.mp h2]; rfl
   · rintro rfl
     exact ⟨.int n, ns.map V.int, rfl, rfl, reps_nums.mpr rfl⟩
end
section
variable {X : Cx} {pins : List (Addr × Obj)} {σ : St} {H : Hp} {s : Shared}
theorem notBoth (I : Inv X pins σ H s) {a : Addr} {xs ys : List V} (h : SqT X.K H a xs) (h' : SqL X.K H a ys) : False := by
 obtain ⟨its, r, ⟨o, e, c, n, d⟩, _⟩ := I.tuple h
 obtain ⟨its', r', ⟨o', n', e', c', _, d'⟩, _⟩ := I.list h'
 rw [e] at e'; cases e'
 rw [c] at c'
 have z : ("tuple" : String) = "list" := by injection c'
 exact absurd z (by decide)
mutual
theorem Rep.inj (I : Inv X pins σ H s) {v : V} {d e : D} (h : Rep X.K H v d) (h' : Rep X.K H v e) : d = e := by
 cases d with
 | non => cases (show v = .non from h); cases e <;> first | rfl | (exfalso; first | (cases (show V.non = _ from h')) | (obtain ⟨_, _, z, _⟩ := h'; cases z))
 | bl b => cases (show v = .bl b from h); cases e <;> first | (cases (show V.bl b = _ from h'); rfl) | (exfalso; first | (cases (show V.bl b = _ from h')) | (obtain ⟨_, _, z, _⟩ := h'; cases z))
 | int b => cases (show v = .int b from h); cases e <;> first | (cases (show V.int b = _ from h'); rfl) | (exfalso; first | (cases (show V.int b = _ from h')) | (obtain ⟨_, _, z, _⟩ := h'; cases z))
 | str b => cases (show v = .str b from h); cases e <;> first | (cases (show V.str b = _ from h'); rfl) | (exfalso; first | (cases (show V.str b = _ from h')) | (obtain ⟨_, _, z, _⟩ := h'; cases z))
 | tup ds =>
   obtain ⟨a, vs, rfl, q, r⟩ := h
   cases e with
   | tup es =>
     obtain ⟨b, ws, z, q', r'⟩ := h'
     cases z
     have e1 := I.tuple_inj q q'
     subst e1
     rw [Reps.inj I r r']
   | lst es =>
     obtain ⟨b, ws, z, q', r'⟩ := h'
     cases z
     exact (notBoth I q q').elim
   | non => cases (show V.ref a = _ from h')
   | bl _ => cases (show V.ref a = _ from h')
   | int _ => cases (show V.ref a = _ from h')
   | str _ => cases (show V.ref a = _ from h')
 | lst ds =>
   obtain ⟨a, vs, rfl, q, r⟩ := h
   cases e with
   | lst es =>
     obtain ⟨b, ws, z, q', r'⟩ := h'
     cases z
     have e1 := I.list_inj q q'
     subst e1
     rw [Reps.inj I r r']
   | tup es =>
     obtain ⟨b, ws, z, q', r'⟩ := h'
     cases z
     exact (notBoth I q' q).elim
   | non => cases (show V.ref a = _ from h')
   | bl _ => cases (show V.ref a = _ from h')
   | int _ => cases (show V.ref a = _ from h')
   | str _ => cases (show V.ref a = _ from h')
theorem Reps.inj (I : Inv X pins σ H s) {vs : List V} {ds es : List D} (h : Reps X.K H vs ds) (h' : Reps X.K H vs es) : ds = es := by
 cases ds with
 | nil =>
   cases (show vs = [] from h)
   cases es with
   | nil => rfl
   | cons e es => obtain ⟨_, _, z, _⟩ := h'; cases z
 | cons d ds =>
   obtain ⟨v, r, rfl, h1, h2⟩ := h
   cases es with
   | nil => cases (show v :: r = [] from h')
   | cons e es =>
     obtain ⟨v', r', z, h1', h2'⟩ := h'
     cases z
     rw [Rep.inj I h1 h1', Reps.inj I h2 h2']
end
noncomputable def EqD (X : Cx) (H : Hp) (s : Shared) (d : D) : Prop := ∀ (A : Around) (x y : V) (u v : Value) (e : D), A.units + dep d < cLine → Rep X.K H x d → Rep X.K H y e → RelV x u → RelV y v → RcAt A s u v (eqD d e) ∧ EqAt A s u v (eqD d e)
theorem seq_eq (I : Inv X pins σ H s) {ds es : List D} {vs ws : List V} {us us' : List Value} {A : Around} (hu : A.units + deps ds < cLine) (r : Reps X.K H vs ds) (r' : Reps X.K H ws es) (rv : Vals vs us) (rv' : Vals ws us')
   (ih : ∀ d ∈ ds, EqD X H s d) (hdm : ∀ d ∈ ds, dep d ≤ deps ds) : ∀ j (h1 : j < us.toArray.size) (h2 : j < us'.toArray.size), EqAt A s us.toArray[j] us'.toArray[j] (match ds[j]?, es[j]? with | some x, some y => eqD x y | _, _ => true) := by
 intro j h1 h2
 have l1 := r.length
 have l2 := r'.length
 have l3 := rv.length
 have l4 := rv'.length
 have h1' : j < us.length := by simpa using h1
 have h2' : j < us'.length := by simpa using h2
 have e1 : ds[j]? = some (ds[j]'(by omega)) := by simp <;> omega
 have e2 : es[j]? = some (es[j]'(by omega)) := by simp <;> omega
 obtain ⟨v, ev, rd⟩ := r.get e1
 obtain ⟨w, ew, re⟩ := r'.get e2
 obtain ⟨u, eu, ru⟩ := rv.get ev
 obtain ⟨u', eu', ru'⟩ := rv'.get ew
 have f1 : us.toArray[j] = u := by
   have : us[j]? = some us[j] := by simp
   rw [eu] at this
   have := (Option.some.inj this).symm
   simpa using this
 have f2 : us'.toArray[j] = u' := by
   have : us'[j]? = some us'[j] := by simp
   rw [eu'] at this
   have := (Option.some.inj this).symm
   simpa using this
 rw [f1, f2, e1, e2]
 have hm : ds[j]'(by omega) ∈ ds := List.getElem_mem _
 exact (ih _ hm A v w u u' _ (by have := hdm _ hm; omega) rd re ru ru').2
theorem deps_le : ∀ {ds : List D} {d : D}, d ∈ ds → dep d ≤ deps ds
 | d0 :: ds, d, h => by
   simp only [deps]
   rcases List.mem_cons.mp h with rfl | h
   · omega
   · have := deps_le h; omega
theorem range_min {a b : List D} (h : ¬ a.length = b.length) : eqDs a b = false := by
 cases q : eqDs a b with
 | false => rfl
 | true => exact absurd (eqDs_len q) h
mutual
theorem eqD_ok (I : Inv X pins σ H s) (d : D) : EqD X H s d := by
 intro A x y u v e hu hx hy rx ry
 cases d with
 | non =>
   cases (show x = .non from hx)
   cases (show u = Value.none from rx)
   cases e with
   | non => cases (show y = .non from hy); cases (show v = Value.none from ry); exact ⟨.none_none, .same _⟩
   | bl b => cases (show y = .bl b from hy); cases (show v = Value.bool b from ry); exact ⟨.none_bool b, .none_bool b⟩
   | int i => cases (show y = .int i from hy); obtain ⟨t, rfl⟩ := ry; exact ⟨.none_int i t, .none_int i t⟩
   | str z => cases (show y = .str z from hy); obtain ⟨t, rfl⟩ := ry; exact ⟨.none_str z t, .none_str z t⟩
   | tup es => obtain ⟨a, vs, rfl, q, r⟩ := hy; cases ry; obtain ⟨its, _, p, _⟩ := I.tuple q; exact ⟨.none_tuple p (by omega), .none_tuple p (by omega)⟩
   | lst es => obtain ⟨a, vs, rfl, q, r⟩ := hy; cases ry; obtain ⟨its, _, p, _⟩ := I.list q; exact ⟨.none_list p.isList (by omega), .none_list p.isList (by omega)⟩
 | bl c =>
   cases (show x = .bl c from hx)
   cases (show u = Value.bool c from rx)
   cases e with
   | non => cases (show y = .non from hy); cases (show v = Value.none from ry); exact ⟨.bool_none c, .bool_none c⟩
   | bl b => cases (show y = .bl b from hy); cases (show v = Value.bool b from ry); exact ⟨.bool_bool c b, .bool_bool c b⟩
   | int i => cases (show y = .int i from hy); obtain ⟨t, rfl⟩ := ry; exact ⟨.bool_int c i t, .bool_int c i t⟩
   | str z => cases (show y = .str z from hy); obtain ⟨t, rfl⟩ := ry; exact ⟨.bool_str c z t, .bool_str c z t⟩
   | tup es => obtain ⟨a, vs, rfl, q, r⟩ := hy; cases ry; obtain ⟨its, _, p, _⟩ := I.tuple q; exact ⟨.bool_tuple c p (by omega), .bool_tuple c p (by omega)⟩
   | lst es => obtain ⟨a, vs, rfl, q, r⟩ := hy; cases ry; obtain ⟨its, _, p, _⟩ := I.list q; exact ⟨.bool_list c p.isList (by omega), .bool_list c p.isList (by omega)⟩
 | int c =>
   cases (show x = .int c from hx)
   obtain ⟨t, rfl⟩ := rx
   cases e with
   | non => cases (show y = .non from hy); cases (show v = Value.none from ry); exact ⟨.int_none c t, .int_none c t⟩
   | bl b => cases (show y = .bl b from hy); cases (show v = Value.bool b from ry); exact ⟨.int_bool c t b, .int_bool c t b⟩
   | int i => cases (show y = .int i from hy); obtain ⟨t', rfl⟩ := ry; exact ⟨.int_int c t i t', .int_int c t i t'⟩
   | str z => cases (show y = .str z from hy); obtain ⟨t', rfl⟩ := ry; exact ⟨.int_str c t z t', .int_str c t z t'⟩
   | tup es => obtain ⟨a, vs, rfl, q, r⟩ := hy; cases ry; obtain ⟨its, _, p, _⟩ := I.tuple q; exact ⟨.int_tuple c t p (by omega), .int_tuple c t p (by omega)⟩
   | lst es => obtain ⟨a, vs, rfl, q, r⟩ := hy; cases ry; obtain ⟨its, _, p, _⟩ := I.list q; exact ⟨.int_list c t p.isList (by omega), .int_list c t p.isList (by omega)⟩
 | str c =>
   cases (show x = .str c from hx)
   obtain ⟨t, rfl⟩ := rx
   cases e with
   | non => cases (show y = .non from hy); cases (show v = Value.none from ry); exact ⟨.str_none c t, .str_none c t⟩
   | bl b => cases (show y = .bl b from hy); cases (show v = Value.bool b from ry); exact ⟨.str_bool c t b, .str_bool c t b⟩
   | int i => cases (show y = .int i from hy); obtain ⟨t', rfl⟩ := ry; exact ⟨.str_int c t i t', .str_int c t i t'⟩
   | str z => cases (show y = .str z from hy); obtain ⟨t', rfl⟩ := ry; exact ⟨.str_str c t z t', .str_str c t z t'⟩
   | tup es => obtain ⟨a, vs, rfl, q, r⟩ := hy; cases ry; obtain ⟨its, _, p, _⟩ := I.tuple q; exact ⟨.str_tuple c t p (by omega), .str_tuple c t p (by omega)⟩
   | lst es => obtain ⟨a, vs, rfl, q, r⟩ := hy; cases ry; obtain ⟨its, _, p, _⟩ := I.list q; exact ⟨.str_list c t p.isList (by omega), .str_list c t p.isList (by omega)⟩
 | tup ds =>
   have hx' := hx
   obtain ⟨a, vs, rfl, q, r⟩ := hx
   cases rx
   obtain ⟨its, rv, p, _⟩ := I.tuple q
   have hu' : A.units + 1 + deps ds < cLine := by simp only [dep] at hu; omega
   cases e with
   | non => cases (show y = .non from hy); cases (show v = Value.none from ry); exact ⟨.tuple_none p (by omega), .tuple_none p (by omega)⟩
   | bl b => cases (show y = .bl b from hy); cases (show v = Value.bool b from ry); exact ⟨.tuple_bool b p (by omega), .tuple_bool b p (by omega)⟩
   | int i => cases (show y = .int i from hy); obtain ⟨t', rfl⟩ := ry; exact ⟨.tuple_int i t' p (by omega), .tuple_int i t' p (by omega)⟩
   | str z => cases (show y = .str z from hy); obtain ⟨t', rfl⟩ := ry; exact ⟨.tuple_str z t' p (by omega), .tuple_str z t' p (by omega)⟩
   | lst es => obtain ⟨b, ws, rfl, q', r'⟩ := hy; cases ry; obtain ⟨its', _, p', _⟩ := I.list q'; exact ⟨.tuple_list p p'.isList (by omega), .tuple_list p p'.isList (by omega)⟩
   | tup es =>
     have hy' := hy
     obtain ⟨b, ws, rfl, q', r'⟩ := hy
     cases ry
     obtain ⟨its', rv', p', _⟩ := I.tuple q'
     have main : RcAt A s (.ref a) (.ref b) (eqD (.tup ds) (.tup es)) := by
       have := RcAt.tuples (A := A) p p' (by omega) (seq_eq I (A := A.in1) (by show A.units + 1 + deps ds < cLine; omega) r r' rv rv' (eqDs_ok I ds) fun d h => deps_le h)
       have l1 := r.length
       have l2 := r'.length
       have l3 := rv.length
       have l4 := rv'.length
       have e1 : its.toArray.size = ds.length := by simp <;> omega
       have e2 : its'.toArray.size = es.length := by simp <;> omega
       rw [e1, e2] at this
       simp only [eqD]
       by_cases hl : ds.length = es.length
       · rw [eqDs_all ds es hl]
         rw [← hl, Nat.min_self] at this
         simpa using this
       · rw [range_min hl]
         have z : (ds.length == es.length) = false := by simpa using hl
         rw [z, Bool.and_false] at this
         exact this
     refine ⟨main, ?_⟩
     by_cases hab : a = b
     · subst hab
       have e3 : D.tup ds = D.tup es := Rep.inj I hx' hy'
       rw [e3, eqD_refl]
       exact .same _
     · exact .of_refs hab main
 | lst ds =>
   have hx' := hx
   obtain ⟨a, vs, rfl, q, r⟩ := hx
   cases rx
   obtain ⟨its, rv, p, _⟩ := I.list q
   have hu' : A.units + 1 + deps ds < cLine := by simp only [dep] at hu; omega
   cases e with
   | non => cases (show y = .non from hy); cases (show v = Value.none from ry); exact ⟨.list_none p.isList (by omega), .list_none p.isList (by omega)⟩
   | bl b => cases (show y = .bl b from hy); cases (show v = Value.bool b from ry); exact ⟨.list_bool b p.isList (by omega), .list_bool b p.isList (by omega)⟩
   | int i => cases (show y = .int i from hy); obtain ⟨t', rfl⟩ := ry; exact ⟨.list_int i t' p.isList (by omega), .list_int i t' p.isList (by omega)⟩
   | str z => cases (show y = .str z from hy); obtain ⟨t', rfl⟩ := ry; exact ⟨.list_str z t' p.isList (by omega), .list_str z t' p.isList (by omega)⟩
   | tup es => obtain ⟨b, ws, rfl, q', r'⟩ := hy; cases ry; obtain ⟨its', _, p', _⟩ := I.tuple q'; exact ⟨.list_tuple p.isList p' (by omega), .list_tuple p.isList p' (by omega)⟩
   | lst es =>
     have hy' := hy
     obtain ⟨b, ws, rfl, q', r'⟩ := hy
     cases ry
     obtain ⟨its', rv', p', _⟩ := I.list q'
     have main : RcAt A s (.ref a) (.ref b) (eqD (.lst ds) (.lst es)) := by
       have l1 := r.length
       have l2 := r'.length
       have l3 := rv.length
       have l4 := rv'.length
       have e1 : its.toArray.size = ds.length := by simp <;> omega
       have e2 : its'.toArray.size = es.length := by simp <;> omega
       simp only [eqD]
       by_cases hl : ds.length = es.length
       · have := RcAt.lists (A := A) p.isList p'.isList (by omega) (by omega) (seq_eq I (A := A.in1) (by show A.units + 1 + deps ds < cLine; omega) r r' rv rv' (eqDs_ok I ds) fun d h => deps_le h)
         rw [e1] at this
         rw [eqDs_all ds es hl]
         exact this
       · rw [range_min hl]
         exact RcAt.lists_lengths p.isList p'.isList (by simpa [e1, e2] using hl) (by omega)
     refine ⟨main, ?_⟩
     by_cases hab : a = b
     · subst hab
       have e3 : D.lst ds = D.lst es := Rep.inj I hx' hy'
       rw [e3, eqD_refl]
       exact .same _
     · exact .of_refs hab main
theorem eqDs_ok (I : Inv X pins σ H s) (ds : List D) : ∀ d ∈ ds, EqD X H s d := by
 cases ds with
 | nil => exact fun _ h => nomatch h
 | cons d0 r =>
   intro d h
   rcases List.mem_cons.mp h with e | h
   · exact e ▸ eqD_ok I d0
   · exact eqDs_ok I r d h
end
end
end L2
namespace L2
open PySem PySem.Spec PyProof.Rows PySem.SeqAt
section
variable {X : Cx}
noncomputable def eqF (X : Cx) (H : Hp) (d : D) (u : Value) : Bool := @decide (∃ v e, RelV v u ∧ Rep X.K H v e ∧ eqD e d = true) (Classical.propDecidable _)
theorem eqF_of {pins : List (Addr × Obj)} {σ : St} {H : Hp} {s : Shared} (I : Inv X pins σ H s) {d e : D} {v : V} {u : Value} (r : RelV v u) (h : Rep X.K H v e) : eqF X H d u = eqD e d := by
 cases q : eqD e d with
 | true => exact @decide_eq_true _ (Classical.propDecidable _) ⟨v, e, r, h, q⟩
 | false =>
   refine @decide_eq_false _ (Classical.propDecidable _) ?_
   rintro ⟨v', e', r', h', q'⟩
   have := r.inj r'
   subst this
   rw [Rep.inj I h h'] at q
   rw [q] at q'
   cases q'
theorem eqF_at {pins : List (Addr × Obj)} {σ : St} {H : Hp} {s : Shared} (I : Inv X pins σ H s) {A : Around} {x : V} {v : Value} {d : D} {vs : List V} {us : List Value} {ds : List D} (hu : A.units + deps ds < cLine) (hx : Rep X.K H x d) (rx : RelV x v)
   (r : Reps X.K H vs ds) (rv : Vals vs us) : ∀ y, y ∈ us.toArray → EqAt A s y v (eqF X H d y) := by
 intro y hy
 have hy' : y ∈ us := by simpa using hy
 obtain ⟨i, hi⟩ := List.getElem?_of_mem hy'
 have hlt : i < us.length := (List.getElem?_eq_some_iff.mp hi).1
 have l1 := rv.length
 obtain ⟨w, hw⟩ : ∃ w, vs[i]? = some w := ⟨vs[i]'(by omega), by simp <;> omega⟩
 obtain ⟨u, hu2, ru⟩ := rv.get hw
 rw [hi] at hu2
 cases hu2
 obtain ⟨e, he, re⟩ := r.getV hw
 rw [eqF_of I ru re]
 have hm : e ∈ ds := List.mem_of_getElem? he
 exact (eqD_ok I e A w x y v d (by have := deps_le hm; omega) re hx ru rx).2
theorem any_eqF {pins : List (Addr × Obj)} {σ : St} {H : Hp} {s : Shared} (I : Inv X pins σ H s) {d : D} : ∀ {vs : List V} {us : List Value} {ds : List D}, Reps X.K H vs ds → Vals vs us → us.any (eqF X H d) = ds.any fun e => eqD e d
 | vs, us, [], r, rv => by
   cases (show vs = [] from r)
   cases rv
   rfl
 | vs, us, e :: ds, r, rv => by
   obtain ⟨v, q, rfl, h1, h2⟩ := r
   cases rv with
   | cons r1 r2 => rw [List.any_cons, List.any_cons, eqF_of I r1 h1, any_eqF I h2 r2]
noncomputable def SeqD (K : PySem.W.Frag) (H : Hp) (y : V) (ds : List D) : Prop := Rep K H y (.lst ds) ∨ Rep K H y (.tup ds)
noncomputable def rInD (K : PySem.W.Frag) (n : Nat) (neg : Bool) : R2 := fun x y H Q => ∃ d ds, Rep K H x d ∧ SeqD K H y ds ∧ deps ds + 1 ≤ n ∧ Q (.bl (if neg then !(ds.any fun e => eqD e d) else ds.any fun e => eqD e d)) H
theorem op_inD {n : Nat} (hu : X.A.units + n < cLine) : OpR X (compareOp .In) (rInD X.K n false) := by
 intro pins s σ H x y v u Q I rx ry h
 obtain ⟨d, ds, hx, hs, hn, q⟩ := h
 have fin : ∀ {us : List Value} {vs : List V}, Reps X.K H vs ds → Vals vs us → EP X pins σ Q (.bool (us.toArray.any (eqF X H d))) s := fun r rv =>
   ⟨.bl (ds.any fun e => eqD e d), H, I, by show Value.bool _ = Value.bool _; rw [List.any_toArray, any_eqF I r rv], q⟩
 rcases hs with ⟨a, vs, rfl, hq, r⟩ | ⟨a, vs, rfl, hq, r⟩
 · cases ry
   obtain ⟨its, rv, p, _⟩ := I.list hq
   exact in_listAt (eqF X H d) p.isList (eqF_at I (A := X.A.in1) (by show X.A.units + 1 + deps ds < cLine; omega) hx rx r rv) (fin r rv)
 · cases ry
   obtain ⟨its, rv, p, _⟩ := I.tuple hq
   exact in_tupleAt (eqF X H d) p (eqF_at I (A := X.A.in1) (by show X.A.units + 1 + deps ds < cLine; omega) hx rx r rv) (fin r rv)
theorem op_notInD {n : Nat} (hu : X.A.units + n < cLine) : OpR X (compareOp .NotIn) (rInD X.K n true) := by
 intro pins s σ H x y v u Q I rx ry h
 obtain ⟨d, ds, hx, hs, hn, q⟩ := h
 have fin : ∀ {us : List Value} {vs : List V}, Reps X.K H vs ds → Vals vs us → EP X pins σ Q (.bool (!us.toArray.any (eqF X H d))) s := fun r rv =>
   ⟨.bl (!(ds.any fun e => eqD e d)), H, I, by show Value.bool _ = Value.bool _; rw [List.any_toArray, any_eqF I r rv], q⟩
 rcases hs with ⟨a, vs, rfl, hq, r⟩ | ⟨a, vs, rfl, hq, r⟩
 · cases ry
   obtain ⟨its, rv, p, _⟩ := I.list hq
   exact notIn_listAt (eqF X H d) p.isList (eqF_at I (A := X.A.in1) (by show X.A.units + 1 + deps ds < cLine; omega) hx rx r rv) (fin r rv)
 · cases ry
   obtain ⟨its, rv, p, _⟩ := I.tuple hq
   exact notIn_tupleAt (eqF X H d) p (eqF_at I (A := X.A.in1) (by show X.A.units + 1 + deps ds < cLine; omega) hx rx r rv) (fin r rv)
noncomputable def rNeD (K : PySem.W.Frag) (n : Nat) : R2 := fun x y H Q => ∃ d e, Rep K H x d ∧ Rep K H y e ∧ dep d ≤ n ∧ Q (.bl (!eqD d e)) H
theorem op_neD {n : Nat} (hu : X.A.units + n < cLine) : OpR X (compareOp .NotEq) (rNeD X.K n) := by
 intro pins s σ H x y v u Q I rx ry h
 obtain ⟨d, e, hd, he, hn, q⟩ := h
 have fin : EP X pins σ Q (.bool (!eqD d e)) s := ⟨.bl (!eqD d e), H, I, rfl, q⟩
 have go : ∀ {k : Bool}, RcNeAt X.A s v u k → k = (!eqD d e) → wpAny (model X.prog X.w) X.A (compareOp .NotEq v u) (EP X pins σ Q) X.xe s := fun h1 h2 => by
   subst h2
   exact h1 X.prog X.w X.xe _ fin
 cases d with
 | non =>
   cases (show x = .non from hd)
   cases (show v = Value.none from rx)
   cases e with
   | non => cases (show y = .non from he); cases (show u = Value.none from ry); exact go .none_none rfl
   | bl b => cases (show y = .bl b from he); cases (show u = Value.bool b from ry); exact go (.none_bool b) rfl
   | int i => cases (show y = .int i from he); obtain ⟨t, rfl⟩ := ry; exact go (.none_int i t) rfl
   | str z => cases (show y = .str z from he); obtain ⟨t, rfl⟩ := ry; exact go (.none_str z t) rfl
   | tup es => obtain ⟨a, vs, rfl, q, r⟩ := he; cases ry; obtain ⟨its, _, p, _⟩ := I.tuple q; exact go (.none_tuple p (by omega)) rfl
   | lst es => obtain ⟨a, vs, rfl, q, r⟩ := he; cases ry; obtain ⟨its, _, p, _⟩ := I.list q; exact go (.none_list p.isList (by omega)) rfl
 | bl c =>
   cases (show x = .bl c from hd)
   cases (show v = Value.bool c from rx)
   cases e with
   | non => cases (show y = .non from he); cases (show u = Value.none from ry); exact go (.bool_none c) rfl
   | bl b => cases (show y = .bl b from he); cases (show u = Value.bool b from ry); exact go (.bool_bool c b) rfl
   | int i => cases (show y = .int i from he); obtain ⟨t, rfl⟩ := ry; exact go (.bool_int c i t) rfl
   | str z => cases (show y = .str z from he); obtain ⟨t, rfl⟩ := ry; exact go (.bool_str c z t) rfl
   | tup es => obtain ⟨a, vs, rfl, q, r⟩ := he; cases ry; obtain ⟨its, _, p, _⟩ := I.tuple q; exact go (.bool_tuple c p (by omega)) rfl
   | lst es => obtain ⟨a, vs, rfl, q, r⟩ := he; cases ry; obtain ⟨its, _, p, _⟩ := I.list q; exact go (.bool_list c p.isList (by omega)) rfl
 | int c =>
   cases (show x = .int c from hd)
   obtain ⟨t, rfl⟩ := rx
   cases e with
   | non => cases (show y = .non from he); cases (show u = Value.none from ry); exact go (.int_none c t) rfl
   | bl b => cases (show y = .bl b from he); cases (show u = Value.bool b from ry); exact go (.int_bool c t b) rfl
   | int i => cases (show y = .int i from he); obtain ⟨t', rfl⟩ := ry; exact go (.int_int c t i t') rfl
   | str z => cases (show y = .str z from he); obtain ⟨t', rfl⟩ := ry; exact go (.int_str c t z t') rfl
   | tup es => obtain ⟨a, vs, rfl, q, r⟩ := he; cases ry; obtain ⟨its, _, p, _⟩ := I.tuple q; exact go (.int_tuple c t p (by omega)) rfl
   | lst es => obtain ⟨a, vs, rfl, q, r⟩ := he; cases ry; obtain ⟨its, _, p, _⟩ := I.list q; exact go (.int_list c t p.isList (by omega)) rfl
 | str c =>
   cases (show x = .str c from hd)
   obtain ⟨t, rfl⟩ := rx
   cases e with
   | non => cases (show y = .non from he); cases (show u = Value.none from ry); exact go (.str_none c t) rfl
   | bl b => cases (show y = .bl b from he); cases (show u = Value.bool b from ry); exact go (.str_bool c t b) rfl
   | int i => cases (show y = .int i from he); obtain ⟨t', rfl⟩ := ry; exact go (.str_int c t i t') rfl
   | str z => cases (show y = .str z from he); obtain ⟨t', rfl⟩ := ry; exact go (.str_str c t z t') rfl
   | tup es => obtain ⟨a, vs, rfl, q, r⟩ := he; cases ry; obtain ⟨its, _, p, _⟩ := I.tuple q; exact go (.str_tuple c t p (by omega)) rfl
   | lst es => obtain ⟨a, vs, rfl, q, r⟩ := he; cases ry; obtain ⟨its, _, p, _⟩ := I.list q; exact go (.str_list c t p.isList (by omega)) rfl
 | tup ds =>
   obtain ⟨a, vs, rfl, q1, r⟩ := hd
   cases rx
   obtain ⟨its, rv, p, _⟩ := I.tuple q1
   have hu' : X.A.units + 1 + deps ds < cLine := by simp only [dep] at hn; omega
   cases e with
   | non => cases (show y = .non from he); cases (show u = Value.none from ry); exact go (.tuple_none p (by omega)) rfl
   | bl b => cases (show y = .bl b from he); cases (show u = Value.bool b from ry); exact go (.tuple_bool b p (by omega)) rfl
   | int i => cases (show y = .int i from he); obtain ⟨t', rfl⟩ := ry; exact go (.tuple_int i t' p (by omega)) rfl
   | str z => cases (show y = .str z from he); obtain ⟨t', rfl⟩ := ry; exact go (.tuple_str z t' p (by omega)) rfl
   | lst es => obtain ⟨b, ws, rfl, q', r'⟩ := he; cases ry; obtain ⟨its', _, p', _⟩ := I.list q'; exact go (.tuple_list p p'.isList (by omega)) rfl
   | tup es =>
     obtain ⟨b, ws, rfl, q', r'⟩ := he
     cases ry
     obtain ⟨its', rv', p', _⟩ := I.tuple q'
     refine go (RcNeAt.tuples p p' (by omega) (seq_eq I (A := X.A.in1) (by show X.A.units + 1 + deps ds < cLine; omega) r r' rv rv' (eqDs_ok I ds) fun d h => deps_le h)) ?_
     have l1 := r.length
     have l2 := r'.length
     have l3 := rv.length
     have l4 := rv'.length
     have e1 : its.toArray.size = ds.length := by simp <;> omega
     have e2 : its'.toArray.size = es.length := by simp <;> omega
     rw [e1, e2]
     simp only [eqD]
     by_cases hl : ds.length = es.length
     · rw [eqDs_all ds es hl, ← hl, Nat.min_self]
       simp
     · rw [range_min hl]
       have z : (ds.length == es.length) = false := by simpa using hl
       rw [z, Bool.and_false]
 | lst ds =>
   obtain ⟨a, vs, rfl, q1, r⟩ := hd
   cases rx
   obtain ⟨its, rv, p, _⟩ := I.list q1
   have hu' : X.A.units + 1 + deps ds < cLine := by simp only [dep] at hn; omega
   cases e with
   | non => cases (show y = .non from he); cases (show u = Value.none from ry); exact go (.list_none p.isList (by omega)) rfl
   | bl b => cases (show y = .bl b from he); cases (show u = Value.bool b from ry); exact go (.list_bool b p.isList (by omega)) rfl
   | int i => cases (show y = .int i from he); obtain ⟨t', rfl⟩ := ry; exact go (.list_int i t' p.isList (by omega)) rfl
   | str z => cases (show y = .str z from he); obtain ⟨t', rfl⟩ := ry; exact go (.list_str z t' p.isList (by omega)) rfl
   | tup es => obtain ⟨b, ws, rfl, q', r'⟩ := he; cases ry; obtain ⟨its', _, p', _⟩ := I.tuple q'; exact go (.list_tuple p.isList p' (by omega)) rfl
   | lst es =>
     obtain ⟨b, ws, rfl, q', r'⟩ := he
     cases ry
     obtain ⟨its', rv', p', _⟩ := I.list q'
     have l1 := r.length
     have l2 := r'.length
     have l3 := rv.length
     have l4 := rv'.length
     have e1 : its.toArray.size = ds.length := by simp <;> omega
     have e2 : its'.toArray.size = es.length := by simp <;> omega
     by_cases hl : ds.length = es.length
     · refine go (RcNeAt.lists p.isList p'.isList (by omega) (by omega) (seq_eq I (A := X.A.in1) (by show X.A.units + 1 + deps ds < cLine; omega) r r' rv rv' (eqDs_ok I ds) fun d h => deps_le h)) ?_
       rw [e1]
       simp only [eqD]
       rw [eqDs_all ds es hl]
     · refine go (RcNeAt.lists_lengths p.isList p'.isList (by simpa [e1, e2] using hl) (by omega)) ?_
       simp only [eqD]
       rw [range_min hl]
       rfl
noncomputable def isD (n : String) : D → Bool
 | .non => false
 | .bl _ => n == "int" || n == "bool"
 | .int _ => n == "int"
 | .str _ => n == "str"
 | .tup _ => n == "tuple"
 | .lst _ => n == "list"
noncomputable def tyD : D → String
 | .non => "NoneType"
 | .bl _ => "bool"
 | .int _ => "int"
 | .str _ => "str"
 | .tup _ => "tuple"
 | .lst _ => "list"
theorem kit_ok {K : PySem.W.Frag} {n : String} {d : D} (hn : n = "int" ∨ n = "bool" ∨ n = "str" ∨ n = "tuple" ∨ n = "list" ∨ n = "dict") : PySem.W.kitOne K (.type (tyD d)) (.type n) = some (isD n d) := by
 rcases hn with rfl | rfl | rfl | rfl | rfl | rfl <;> cases d <;> (unfold PySem.W.kitOne PySem.W.kitCls PySem.W.subIn tyD isD; first | rfl | decide +kernel)
theorem call_isinst : CallR X (.builtin "isinstance") (fun xs H Q => ∃ x n d, xs = [x, .ty n] ∧ (n = "int" ∨ n = "bool" ∨ n = "str" ∨ n = "tuple" ∨ n = "list" ∨ n = "dict") ∧ Rep X.K H x d ∧ Q (.bl (isD n d)) H) := by
 intro pins s σ H xs us Q I r h
 obtain ⟨x, n, d, rfl, hn, hx, q⟩ := h
 obtain ⟨u, v, rfl, rx, rt⟩ := vals2 r
 cases rt
 have k := kit_ok (K := X.K) (d := d) hn
 have fin : ∀ tk, EP X pins σ Q (.bool (isD n d)) { s with toks := tk } := fun tk => ⟨.bl (isD n d), H, I.tok tk, rfl, q⟩
 cases d with
 | non => cases (show x = .non from hx); cases (show u = Value.none from rx); exact PySem.W.kia_one PySem.W.kitx_none I.kIn True.intro k (fun z => nomatch z) fin
 | bl b => cases (show x = .bl b from hx); cases (show u = Value.bool b from rx); exact PySem.W.kia_one PySem.W.kitx_bool I.kIn True.intro k (fun z => nomatch z) fin
 | int b => cases (show x = .int b from hx); obtain ⟨t, rfl⟩ := rx; exact PySem.W.kia_one PySem.W.kitx_int I.kIn True.intro k (fun z => nomatch z) fin
 | str b => cases (show x = .str b from hx); obtain ⟨t, rfl⟩ := rx; exact PySem.W.kia_one PySem.W.kitx_str I.kIn True.intro k (fun z => nomatch z) fin
 | tup ds =>
   obtain ⟨a, vs, rfl, hq, _⟩ := hx
   cases rx
   obtain ⟨its, _, ⟨o, e, c, _⟩, _⟩ := I.tuple hq
   exact PySem.W.kia_one PySem.W.kitx_tuple I.kIn ⟨o, e, c⟩ k (fun z => nomatch z) fin
 | lst ds =>
   obtain ⟨a, vs, rfl, hq, _⟩ := hx
   cases rx
   obtain ⟨its, _, ⟨o, _, e, c, _⟩, _⟩ := I.list hq
   exact PySem.W.kia_one PySem.W.kitx_list I.kIn ⟨o, e, c⟩ k (fun z => nomatch z) fin
noncomputable def rCatW (K : PySem.W.Frag) : R2 := fun x y H Q => ∃ a b xs ys, x = .ref a ∧ y = .ref b ∧ SqT K H a xs ∧ SqT K H b ys ∧ xs.length + ys.length ≤ sizeLine ∧ ∀ p H', Same H H' → SqT K H' p (xs ++ ys) → Q (.ref p) H'
theorem op_catW : OpR X (binaryOp .Add) (rCatW X.K) := by
 intro pins s σ H x y v u Q I rx ry h
 obtain ⟨a, b, xs, ys, rfl, rfl, ha, hb, hz, q⟩ := h
 by_cases hx : xs = []
 · subst hx
   cases rx
   cases ry
   obtain ⟨its, r1, p1, _⟩ := I.tuple ha
   obtain ⟨its2, r2, p2, _⟩ := I.tuple hb
   cases r1
   obtain ⟨⟨cls, dd, data, sl⟩, ho, hc, n, hd⟩ := id p1
   obtain ⟨⟨cls2, dd2, data2, sl2⟩, ho2, hc2, n2, hd2⟩ := id p2
   simp only at hc hd hc2 hd2
   subst hc hd hc2 hd2
   exact concat_meets ⟨_, ho, rfl⟩ ⟨_, ho2, rfl⟩ noFill_tuple_add seq_tuple_add PySem.F.slot_tuple_add PySem.F.entry_tuple_add (PySem.F.args_tuple_add_2 _ _)
     (tuple_addW0 a b _ _ n n2 dd dd2 sl sl2 (by simp)) ⟨ho, ho2, ⟨.ref b, H, I, rfl, q b H (Same.refl H) (by simpa using hb)⟩⟩
 · refine op_catT pins s σ H (.ref a) (.ref b) v u Q I rx ry ⟨a, b, xs, ys, rfl, rfl, ha, hb, hx, hz, fun e => ?_, fun e p hp => ?_⟩
   · subst e; exact q a H (Same.refl H) (by simpa using ha)
   · exact q p _ (Same.new hp) (.of upd_same)
noncomputable def rSlTW (K : PySem.W.Frag) : V → Option Int → Option Int → Hp → VK → Prop := fun x lo hi H Q => ∃ a xs, x = .ref a ∧ SqT K H a xs ∧
 ¬ (HT.sIx xs.length 0 lo = 0 ∧ HT.sIx xs.length xs.length hi = xs.length) ∧ ∀ p H', Same H H' → SqT K H' p (cutV xs lo hi) → Q (.ref p) H'
theorem sl_tupW : SlR X (rSlTW X.K) := by
 intro pins s σ H x v vl vu lo hi sl Q I rx hs pl pu h
 obtain ⟨a, xs, rfl, hx, hw, q⟩ := h
 exact sl_tup pins s σ H (.ref a) v vl vu lo hi sl Q I rx hs pl pu ⟨a, xs, rfl, hx, hw, fun p hp => q p _ (Same.new hp) (.of upd_same)⟩
noncomputable def rCatLW (K : PySem.W.Frag) : R2 := fun x y H Q => ∃ l b xs zs, x = .ref l ∧ y = .ref b ∧ SqL K H l xs ∧ SqL K H b zs ∧ xs.length + zs.length ≤ sizeLine ∧ ∀ p, H p = none → Q (.ref p) (upd H p (.lst (xs ++ zs)))
theorem op_catLW : OpR X (binaryOp .Add) (rCatLW X.K) := by
 intro pins s σ H x y v u Q I rx ry h
 obtain ⟨l, b, xs, zs, rfl, rfl, hl, hb, hz, q⟩ := h
 cases rx
 cases ry
 obtain ⟨its, r1, p1, _⟩ := I.list hl
 obtain ⟨its2, r2, p2, _⟩ := I.list hb
 obtain ⟨⟨cls, dd, data, sl⟩, n, ho, hc, hdd, hd⟩ := id p1
 obtain ⟨⟨cls2, dd2, data2, sl2⟩, n2, ho2, hc2, hdd2, hd2⟩ := id p2
 simp only at hc hd hc2 hd2
 subst hc hd hc2 hd2
 refine concat_meets ⟨_, ho, rfl⟩ ⟨_, ho2, rfl⟩ noFill_list_add seq_list_add PySem.F.slot_list_add PySem.F.entry_list_add (PySem.F.args_list_add_2 _ _)
   (list_addW l b its.toArray its2.toArray n n2 dd dd2 sl sl2 (by rw [List.size_toArray, List.size_toArray, ← r1.length, ← r2.length]; exact hz)) ⟨ho, ho2, ?_⟩
 rw [show its.toArray ++ its2.toArray = (its ++ its2).toArray by simp]
 exact ⟨.ref s.heap.objs.size, _, I.lnew (t' := s.toks) (r1.append r2) (by rw [List.length_append]; exact hz), rfl, q _ I.fresh⟩
theorem call_allB (hc : X.calm = true) : CallR X (.builtin "all") (fun xs H Q => ∃ (p : Addr) (bs : List Bool), xs = [.ref p] ∧ SqL X.K H p (bs.map V.bl) ∧ Q (.bl (bs.all id)) H) := by
 intro pins s σ H xs us Q I r h
 obtain ⟨p, bs, rfl, hq, q⟩ := h
 obtain ⟨u, rfl, ru⟩ := vals1 r
 cases ru
 obtain ⟨its, rv, pl, hz⟩ := I.list hq
 have hh : X.A.handled = none := I.ok.hd hc
 have rel : ∀ (i : Nat) (v : Value), its.toArray[i]? = some v → ∃ b, bs[i]? = some b ∧ v = .bool b := fun i v e => by
   have e' : its[i]? = some v := by simpa using e
   have hlt : i < its.length := (List.getElem?_eq_some_iff.mp e').1
   have l1 := rv.length
   rw [List.length_map] at l1
   have hb : bs[i]? = some (bs[i]'(by omega)) := by simp <;> omega
   obtain ⟨u, hu, ru⟩ := rv.get (i := i) (x := V.bl (bs[i]'(by omega))) (by rw [List.getElem?_map, hb]; rfl)
   rw [e'] at hu
   cases hu
   exact ⟨_, hb, ru⟩
 refine call_all_walk (wpAny_pyIter_list pl.isList ?_)
 refine ⟨s.heap.objs.size, [s.heap.objs.size, p], [s.heap.objs.size], its.toArray.size, _, _, fun i => (bs[i]?).getD true, rfl, Walks.list (show X.A.in1.handled = none from hh) s.heap.objs.size p ?_ its.toArray, ⟨⟨_, Heap.get?_push_size _ rfl, rfl, rfl⟩, ?_⟩, ?_, fun h' tk k => ?_⟩
 · obtain ⟨o, _, ho, _⟩ := pl
   exact Nat.ne_of_lt (Heap.lt_size ho)
 · exact pl.isList.at fun o e => Heap.get?_push_of_some _ e
 · intro i v s' Q' E' hv hQ
   obtain ⟨b, hb, rfl⟩ := rel i v hv
   dsimp only at hQ
   rw [hb] at hQ
   exact wpAny_truthy_bool hQ
 · have e : (List.range its.toArray.size).all (fun i => (bs[i]?).getD true) = bs.all id := by
     have l1 := rv.length
     rw [List.length_map] at l1
     rw [List.size_toArray, ← l1]
     rw [Bool.eq_iff_iff, List.all_eq_true, List.all_eq_true]
     constructor
     · intro hx b hb
       obtain ⟨i, hi⟩ := List.getElem?_of_mem hb
       have := hx i (List.mem_range.mpr (List.getElem?_eq_some_iff.mp hi).1)
       rw [hi] at this
       exact this
     · intro hx i hi
       have hlt := List.mem_range.mp hi
       have hb : bs[i]? = some bs[i] := by simp
       rw [hb]
       exact hx _ (List.getElem_mem _)
   rw [e]
   have I1 : Inv X pins σ H { s with heap := h', toks := tk } := I.kept (fun b o e => k b o (by simp; exact Nat.ne_of_lt (Heap.lt_size e)) (Heap.get?_push_of_some _ e))
   exact ⟨.bl (bs.all id), H, I1, rfl, q⟩
end
structure Has (P : Program) (w : World) (K : PySem.W.Frag) (mg : Str → Option Value) (base : Heap) (x : Str) (ps : List Str) (k : Nat) (sp : Sp) : Prop where
 ex : ∃ (f : Addr) (fd : FuncData), mg x = some (.ref f) ∧ PySem.W.keepIn K (.ref f) = true ∧ Binds K fd ps [] ∧ FnOk P w K mg base CX0 k f fd ps sp
section
variable {X : Cx} {x : Str} {ps : List Str} {j k : Nat} {sp : Sp} {p pos : Pos} {e : Expr} {es : List Expr} {t : TA}
theorem pe_callH (h : Has X.prog X.w X.K X.mg X.base x ps j sp) (hr : Room k X.A) (hg : Gl X x) (ha : PA X (e :: es) t) (hk : j ≤ k := by decide) (hdb : (x == ("__debug__" : Str)) = false := by decide)
   (he : starEach (e :: es) X.env = (false, eval e X.env) :: starEach es X.env := by rfl) (hpl : (backTo pos (starEach es X.env)).any (·.1) = false := by rfl) : PE X (.Call (.Name x p) (e :: es) [] pos) (tCall sp [] E0 t) := by
 obtain ⟨f, fd, h1, h2, h3, h4⟩ := h.ex
 exact pe_call h4 (hr.mono hk) hg h1 h2 h3 .nil pass0 ha hdb he hpl
end
theorem boot_intT : bootBuiltins "int" = some (.type "int") := by decide +kernel
theorem boot_boolT : bootBuiltins "bool" = some (.type "bool") := by decide +kernel
theorem boot_tupleT : bootBuiltins "tuple" = some (.type "tuple") := by decide +kernel
theorem boot_listT : bootBuiltins "list" = some (.type "list") := by decide +kernel
theorem boot_dictT : bootBuiltins "dict" = some (.type "dict") := by decide +kernel
theorem boot_maxB : bootBuiltins "max" = some (.builtin "max") := by decide +kernel
theorem boot_allB : bootBuiltins "all" = some (.builtin "all") := by decide +kernel
theorem boot_isinstanceB : bootBuiltins "isinstance" = some (.builtin "isinstance") := by decide +kernel
end L2
namespace L2
open PySem PySem.Spec PyProof.Rows
section
variable {X : Cx} {K : PySem.W.Frag} {tg l : Expr} {tl : TE} {n : Nat}
theorem kop_catW (hK : X.K = K := by rfl) : OpR X (binaryOp .Add) (rCatW K) := by subst hK; exact op_catW
theorem kop_catLW (hK : X.K = K := by rfl) : OpR X (binaryOp .Add) (rCatLW K) := by subst hK; exact op_catLW
theorem ksl_tupW (hK : X.K = K := by rfl) : SlR X (rSlTW K) := by subst hK; exact sl_tupW
theorem ksl_list (hK : X.K = K := by rfl) : SlR X (rSlL K) := by subst hK; exact sl_list
theorem kix_list (hK : X.K = K := by rfl) : IxR X (rIxL K) := by subst hK; exact ix_list
theorem kix_tup (hK : X.K = K := by rfl) : IxR X (rIxT K) := by subst hK; exact ix_tup
theorem kcall_len_seq (hK : X.K = K := by rfl) : CallR X (.builtin "len") (fun xs H Q => ∃ p ys, xs = [.ref p] ∧ (SqL K H p ys ∨ SqT K H p ys) ∧ Q (.int ys.length) H) := by subst hK; exact call_len_seq
theorem kcall_list_of (hK : X.K = K := by rfl) : CallR X (.type "list") (fun xs H Q => ∃ p ys, xs = [.ref p] ∧ (SqL K H p ys ∨ SqT K H p ys) ∧ ∀ l, H l = none → Q (.ref l) (upd H l (.lst ys))) := by subst hK; exact call_list_of
theorem kcall_tuple_of (hK : X.K = K := by rfl) : CallR X (.type "tuple") (fun xs H Q => ∃ p ys, xs = [.ref p] ∧ ((SqL K H p ys ∧ ∀ l, H l = none → Q (.ref l) (upd H l (.tup ys))) ∨ (SqT K H p ys ∧ Q (.ref p) H))) := by subst hK; exact call_tuple_of
theorem kcall_isinst (hK : X.K = K := by rfl) : CallR X (.builtin "isinstance") (fun xs H Q => ∃ x n d, xs = [x, .ty n] ∧ (n = "int" ∨ n = "bool" ∨ n = "str" ∨ n = "tuple" ∨ n = "list" ∨ n = "dict") ∧ Rep K H x d ∧ Q (.bl (isD n d)) H) := by subst hK; exact call_isinst
theorem kcall_allB (hc : X.calm = true) (hK : X.K = K := by rfl) : CallR X (.builtin "all") (fun xs H Q => ∃ (p : Addr) (bs : List Bool), xs = [.ref p] ∧ SqL K H p (bs.map V.bl) ∧ Q (.bl (bs.all id)) H) := by subst hK; exact call_allB hc
theorem kop_notInD (hu : X.A.units + n < cLine) (hK : X.K = K := by rfl) : OpR X (compareOp .NotIn) (rInD K n true) := by subst hK; exact op_notInD hu
theorem kop_neD (hu : X.A.units + n < cLine) (hK : X.K = K := by rfl) : OpR X (compareOp .NotEq) (rNeD K n) := by subst hK; exact op_neD hu
theorem kpi_list (hl : PE X l tl) (hK : X.K = K := by rfl) : PI X tg l (iList K tl) := by subst hK; exact pi_list hl
theorem kpi_tup (hl : PE X l tl) (hK : X.K = K := by rfl) : PI X tg l (iTup K tl) := by subst hK; exact pi_tup hl
variable {o e : Expr} {es : List Expr} {to : TE} {t : TA} {name : Str} {apos cpos : Pos} {T id : String} {r : V → List V → Hp → VK → Prop}
theorem kpe_bm (pa : PlainAttrs T) (slot : Slot T name id) (hty : typeOf (.builtin id) = pure (.type "method_descriptor")) (hm : MtR X id r) (ho : PE X o to) (ha : PA X (e :: es) t) (hK : X.K = K := by rfl)
   (hbase : attributeBase o name X.env (eval o X.env) = eval o X.env := by rfl)
   (hfew : ((backTo cpos (starEach (e :: es) X.env)).all (fun x => !x.1) && (backToKw cpos (keywordEach [] X.env)).all (fun x => x.1.isSome)
     && decide ((e :: es).length + ([] : List Keyword).length + (if ([] : List Keyword).isEmpty then 0 else 1) < 30)) = true := by rfl)
   (hline : (apos.endLine == cpos.line) = true := by rfl) (hs : starEach (e :: es) X.env = (false, eval e X.env) :: starEach es X.env := by rfl) (hplain : (backTo cpos (starEach es X.env)).any (·.1) = false := by rfl) :
   PE X (.Call (.Attribute o name apos) (e :: es) [] cpos) (tBM K T r to t) := by subst hK; exact pe_bm pa slot hty hm ho ha hbase hfew hline hs hplain
theorem kpg_tup {es : List Expr} {k : Nat} {t : TGs} {n : Nat} {pos : Pos} (hc : X.calm = true) (h : PGs X es t) (hK : X.K = K := by rfl)
   (hn : (assignEach es X.env).length = n := by rfl) (hst : (assignEach es X.env).findIdx? (·.1) = none := by rfl) : PG X (.Tuple es k pos) (gTup K n t) := by subst hK; exact pg_tup hc h hn hst
end
end L2
namespace L2
open PySem PySem.Spec PyProof.Rows
noncomputable def GoodF (f : Obj → Obj) : Prop := ∀ o, (f o).dict = o.dict ∧ (o.isFreed = false → (f o).isFreed = false)
noncomputable def KeepsD {α : Type} : Sem α → Prop
 | .pure _ => True
 | .raise _ => True
 | .unsupported _ => True
 | .finish _ => True
 | .rule _ k => KeepsD (k ())
 | .at _ k => KeepsD (k ())
 | .load _ _ k => ∀ o, KeepsD (k o)
 | .update _ _ f k => GoodF f ∧ KeepsD (k ())
 | .alloc _ k => ∀ a, KeepsD (k a)
 | .loadIfAlive _ k => ∀ o, KeepsD (k o)
 | .point _ k => KeepsD (k ())
 | .register _ _ => True
 | .fresh k => ∀ t, KeepsD (k t)
 | .ask k => ∀ x, KeepsD (k x)
 | .choose _ _ k => ∀ n, KeepsD (k n)
 | .os _ _ k => ∀ r, KeepsD (k r)
 | .call _ _ _ _ _ => False
 | .handled _ k => ∀ v, KeepsD (k v)
 | .newGen _ k => ∀ n, KeepsD (k n)
 | .genState _ k => ∀ x, KeepsD (k x)
 | .resume _ _ _ _ => False
 | .yield _ _ _ _ => True
 | .stack k => ∀ x, KeepsD (k x)
 | .fork _ _ => True
 | .thread k => ∀ x, KeepsD (k x)
 | .await _ _ _ _ _ => True
theorem KeepsD.bind {α β : Type} {m : Sem α} {k : α → Sem β} (h : KeepsD m) (hk : ∀ a, KeepsD (k a)) : KeepsD (m >>= k) := by
 show KeepsD (Sem.bind m k)
 induction m with
 | pure a => exact hk a
 | rule t c ih => exact ih () h
 | «at» p c ih => exact ih () h
 | load a p c ih => exact fun o => ih o (h o)
 | update a p f c ih => exact ⟨h.1, ih () h.2⟩
 | alloc o c ih => exact fun a => ih a (h a)
 | loadIfAlive a c ih => exact fun o => ih o (h o)
 | point l c ih => exact ih () h
 | fresh c ih => exact fun o => ih o (h o)
 | ask c ih => exact fun o => ih o (h o)
 | choose s n c ih => exact fun o => ih o (h o)
 | os r l c ih => exact fun o => ih o (h o)
 | handled o c ih => exact fun o => ih o (h o)
 | newGen g c ih => exact fun o => ih o (h o)
 | genState g c ih => exact fun o => ih o (h o)
 | stack c ih => exact fun o => ih o (h o)
 | thread c ih => exact fun o => ih o (h o)
 | call c a b d e => exact False.elim h
 | resume a b c d => exact False.elim h
 | _ => trivial
noncomputable def SameD (h h' : Heap) : Prop := ∀ b o, h.get? b = some o → ∃ o', h'.get? b = some o' ∧ o'.dict = o.dict
theorem SameD.refl (h : Heap) : SameD h h := fun _ o e => ⟨o, e, rfl⟩
theorem SameD.trans {h h1 h2 : Heap} (x : SameD h h1) (y : SameD h1 h2) : SameD h h2 := fun b o e => by
 obtain ⟨o1, e1, d1⟩ := x b o e
 obtain ⟨o2, e2, d2⟩ := y b o1 e1
 exact ⟨o2, e2, d2.trans d1⟩
theorem SameD.push (h : Heap) (o : Obj) : SameD h (h.push o) := fun b o' e => ⟨o', Heap.get?_push_of_some o e, rfl⟩
theorem SameD.update {h : Heap} {a : Addr} {f : Obj → Obj} (g : GoodF f) : SameD h (h.update a f) := fun b o e => by
 by_cases z : a = b
 · subst z
   exact ⟨f o, Heap.get?_update_self f e ((g o).2 (Heap.get?_some_iff.mp e).2), (g o).1⟩
 · exact ⟨o, by rw [Heap.get?_update_other _ _ z]; exact e, rfl⟩
theorem wp_keepsD {α : Type} {M : Model} {Γ : PySem.Ctx} {Q : α → Pos → Shared → Prop} {E : Value → Pos → Shared → Prop} {t : Sem α} (hk : KeepsD t) : ∀ (p : Pos) (s : Shared), Sem.wp M Γ t Q E p s →
   Sem.wp M Γ t (fun a p' s' => Q a p' s' ∧ SameD s.heap s'.heap) (fun e p' s' => E e p' s' ∧ SameD s.heap s'.heap) p s := by
 induction t with
 | pure a => intro p s h; exact ⟨h, SameD.refl _⟩
 | raise e => intro p s h; exact ⟨h, SameD.refl _⟩
 | unsupported w => intro p s h; exact h
 | finish e => intro p s h; exact h
 | rule g k ih => intro p s h; exact ih () hk _ _ h
 | «at» p' k ih => intro p s h; exact ih () hk _ _ h
 | load a q k ih => intro p s h; obtain ⟨o, e, h⟩ := h; exact ⟨o, e, ih o (hk o) _ _ h⟩
 | update a q f k ih =>
   intro p s h
   obtain ⟨e, h⟩ := h
   refine ⟨e, ?_⟩
   have := ih () hk.2 _ _ h
   exact wp_tr this (SameD.update hk.1)
 | alloc o k ih => intro p s h; exact wp_tr (ih _ (hk _) _ _ h) (SameD.push _ _)
 | loadIfAlive a k ih => intro p s h; exact ih _ (hk _) _ _ h
 | point l k ih => intro p s h; exact ih () hk _ _ h
 | register a k ih => intro p s h; exact h
 | fresh k ih => intro p s h; exact ih _ (hk _) _ _ h
 | ask k ih => intro p s h; exact ih _ (hk _) _ _ h
 | choose c n k ih => intro p s h; exact ⟨h.1, ih _ (hk _) _ _ h.2⟩
 | os r l k ih => intro p s h; exact ih _ (hk _) _ _ h
 | call c a b d k ih => exact False.elim hk
 | handled o k ih => intro p s h; exact ih _ (hk _) _ _ h
 | newGen c k ih => intro p s h; exact ih _ (hk _) _ _ h
 | genState g k ih => intro p s h; obtain ⟨x, e, h⟩ := h; exact ⟨x, e, ih _ (hk _) _ _ h⟩
 | resume a b c k ih => exact False.elim hk
 | yield a b c k ih => intro p s h; exact h
 | stack k ih => intro p s h; exact ih _ (hk _) _ _ h
 | fork c k ih => intro p s h; exact h
 | thread k ih => intro p s h; exact ih _ (hk _) _ _ h
 | await a b c d k ih => intro p s h; exact h
where
 wp_tr {α : Type} {M : Model} {Γ : PySem.Ctx} {Q : α → Pos → Shared → Prop} {E : Value → Pos → Shared → Prop} {t : Sem α} {p : Pos} {s : Shared} {h h1 : Heap}
   (x : Sem.wp M Γ t (fun a p' s' => Q a p' s' ∧ SameD h1 s'.heap) (fun e p' s' => E e p' s' ∧ SameD h1 s'.heap) p s) (y : SameD h h1) :
   Sem.wp M Γ t (fun a p' s' => Q a p' s' ∧ SameD h s'.heap) (fun e p' s' => E e p' s' ∧ SameD h s'.heap) p s :=
   Sem.wp_mono _ _ _ (fun _ _ _ z => ⟨z.1, y.trans z.2⟩) (fun _ _ _ z => ⟨z.1, y.trans z.2⟩) _ _ x
theorem wpAny_keepsD {α : Type} {M : Model} {A : Around} {Q : α → Shared → Prop} {E : Value → Shared → Prop} {t : Sem α} {s : Shared} (hk : KeepsD t) (h : wpAny M A t Q E s) :
   wpAny M A t (fun a s' => Q a s' ∧ SameD s.heap s'.heap) (fun e s' => E e s' ∧ SameD s.heap s'.heap) s := fun Γ p hi => wp_keepsD hk _ _ (h Γ p hi)
theorem kd_pure {α : Type} (a : α) : KeepsD (pure a : Sem α) := True.intro
theorem kd_un {α : Type} (w : String) : KeepsD (unsupported w : Sem α) := True.intro
theorem kd_load (a : Addr) : KeepsD (load a) := fun _ => True.intro
theorem kd_update (a : Addr) {f : Obj → Obj} (h : GoodF f) : KeepsD (update a f) := ⟨h, True.intro⟩
theorem kd_alloc (o : Obj) : KeepsD (alloc o) := fun _ => True.intro
theorem kd_stack : KeepsD stack := fun _ => True.intro
theorem goodF_fields (g : Array Value → Array Value) : GoodF (Obj.mapFields g) := fun o => by
 obtain ⟨c, d, da, sl⟩ := o
 cases da <;> exact ⟨rfl, fun h => h⟩
theorem goodF_slots (g : Obj → Array (Option Value)) : GoodF (fun o => { o with slots := g o }) := fun o => ⟨rfl, fun h => by
 obtain ⟨c, d, da, sl⟩ := o
 cases da <;> exact h⟩
theorem kd_updateField (a : Addr) (i : Nat) (v : Value) : KeepsD (updateField a i v) := by
 unfold updateField
 refine (kd_load a).bind fun o => ?_
 split
 · split
   · exact kd_update a (goodF_fields _)
   · exact kd_un _
 · exact kd_un _
theorem kd_setField (v : Value) (i : Nat) (x : Value) : KeepsD (setField v i x) := by
 unfold setField
 split
 · exact kd_updateField _ _ _
 · exact kd_un _
theorem kd_fieldsOf (v : Value) : KeepsD (fieldsOf v) := by
 unfold fieldsOf
 split
 · refine (kd_load _).bind fun o => ?_
   split
   · exact kd_pure _
   · exact kd_un _
 · exact kd_un _
theorem kd_field (v : Value) (i : Nat) : KeepsD (field v i) := by
 unfold field
 refine (kd_fieldsOf v).bind fun vs => ?_
 split
 · exact kd_pure _
 · exact kd_un _
theorem kd_setFlight (e : Value) (fr : Option Addr) : KeepsD (setFlight e fr) := by
 unfold setFlight
 refine (kd_field e 1).bind fun tb => ?_
 split
 · exact kd_setField _ _ _
 · exact kd_pure _
theorem kd_newFields (ty : String) (vs : List Value) : KeepsD (newFields ty vs) := by
 unfold newFields newObj
 dsimp only
 split
 · exact (kd_un _).bind fun _ => (kd_alloc _).bind fun _ => kd_pure _
 · exact (kd_alloc _).bind fun _ => kd_pure _
theorem kd_entryPlaceOf (f : Addr) (b : Bool) : KeepsD (entryPlaceOf f b) := by
 unfold entryPlaceOf
 refine kd_stack.bind fun acts => ?_
 split
 · exact kd_pure _
 · exact kd_pure _
theorem kd_frameEnvs : KeepsD frameEnvs := by
 unfold frameEnvs
 exact kd_stack.bind fun _ => kd_pure _
theorem kd_behind (env : Env) (outer : List Env) : KeepsD (behindIsImport env outer) := by
 unfold behindIsImport
 split
 · exact kd_pure _
 · split
   · exact kd_pure _
   · exact (kd_field _ _).bind fun _ => kd_pure _
theorem kd_claims : KeepsD underTheClaimsCaller := by
 unfold underTheClaimsCaller
 exact kd_stack.bind fun _ => kd_pure _
theorem kd_keptBack (env : Env) (i : Bool) (outer : List Env) : KeepsD (keptBack env i outer) := by
 cases outer with
 | nil =>
   rw [keptBack]
   by_cases z : (env.scope.isGenerator || env.scope.isCoroutine) = true
   · rw [if_pos z]; exact kd_pure _
   · rw [if_neg z]; exact kd_claims.bind fun _ => kd_pure _
 | cons c r => exact kd_pure _
theorem kd_readyFrames : ∀ l : List Env, KeepsD (readyFrames l)
 | [] => kd_pure _
 | env :: outer => by
   unfold readyFrames
   split
   · refine (kd_load _).bind fun o => ?_
     split
     · exact kd_pure _
     · refine (kd_behind _ _).bind fun b => (kd_keptBack _ _ _).bind fun v => (kd_update _ (goodF_slots _)).bind fun _ => kd_readyFrames outer
   · exact kd_un _
theorem kd_frameOf (env : Env) : KeepsD (PySem.frameOf env) := by
 unfold PySem.frameOf
 refine kd_frameEnvs.bind fun es => ?_
 refine KeepsD.bind ?_ fun o => ?_
 · generalize es.dropWhile _ = l
   cases l with
   | nil => exact kd_pure _
   | cons x r => exact (kd_readyFrames _).bind fun _ => kd_pure _
 · split
   · exact kd_pure _
   · exact kd_un _
theorem kd_noteFrame (e : Value) (env : Env) : KeepsD (noteFrame e env) := by
 unfold noteFrame
 cases env.frame with
 | none => exact kd_un _
 | some f =>
   have tail : ∀ head : Value, KeepsD (do let a ← PySem.frameOf env; let pl ← entryPlaceOf f (head != .none); let b ← EntryCells.newEntry head a .none (rawInt f) .none pl; setField e 1 b) := fun head =>
     KeepsD.bind (kd_frameOf env) fun a => KeepsD.bind (kd_entryPlaceOf f _) fun pl => KeepsD.bind (kd_newFields _ _) fun b => kd_setField _ _ _
   refine (kd_field e 1).bind fun head => ?_
   by_cases z : (head != Value.none) = true
   · rw [if_pos z]
     refine (kd_field head 3).bind fun x => ?_
     by_cases y : (x == rawInt f) = true
     · rw [if_pos y]; exact kd_pure _
     · rw [if_neg y]
       refine (kd_setField _ _ _).bind fun _ => ?_
       exact tail head
   · rw [if_neg z]
     exact tail head
theorem kd_leaving (env : Env) (e : Value) : KeepsD (leaving env e) := by
 unfold leaving
 exact (kd_noteFrame e env).bind fun _ => kd_setFlight e none
end L2
namespace L2
open PySem PySem.Spec PyProof.Rows
theorem ObjOk.ob {P : Program} {w : World} {H : Hp} {h : Heap} {a : Addr} {o : HO} (x : ObjOk P w H h a o) : ∃ u, h.get? a = some u := by
 cases o with
 | lst xs => obtain ⟨_, _, _, _, e⟩ := x; exact ⟨_, e⟩
 | tup xs => obtain ⟨_, _, _, ob, e, _⟩ := x; exact ⟨_, e⟩
 | dK kvs => obtain ⟨_, _, _, _, ob, _, _, e, _⟩ := x; exact ⟨_, e⟩
 | dT kvs => obtain ⟨_, _, _, _, ob, _, _, e, _⟩ := x; exact ⟨_, e⟩
 | set S n => obtain ⟨ob, _, _, _, e, _⟩ := x; exact ⟨_, e⟩
 | ins C dx fs => obtain ⟨_, _, _, e, _⟩ := x; exact ⟨_, e⟩
 | own y => exact x
 | xd fs => obtain ⟨_, ⟨ob, _, _, e, _⟩, _⟩ := x; exact ⟨_, e⟩
 | rng lo hi => obtain ⟨_, _, _, e⟩ := x; exact ⟨_, e⟩
 | frz ob u => obtain ⟨e, _⟩ := x; exact ⟨_, e⟩
 | tbl ps => exact ⟨_, (show h.get? a = some _ from x)⟩
 | met f y => exact ⟨_, (show h.get? a = some _ from x)⟩
 | ext φ => obtain ⟨_, e, _⟩ := x; exact e
structure XUn (fs : List Addr) (H H' : Hp) (h B h' : Heap) : Prop where
 kp : ∀ b o, h.get? b = some o → H b = none → b ∉ fs → B.get? b = some o
 sl : ∀ b o, h.get? b = some o → H b = none → b ∈ fs → ∃ z, h'.get? b = some { o with slots := z }
 fr : ∀ b o, h.get? b = some o → H b = none → H' b = none
 th : ∀ b o, h.get? b = some o → b ∉ fs → ∃ z, B.get? b = some z
 tu : ∀ b xs, H b = some (.tup xs) → H' b = some (.tup xs)
 fz : ∀ b o u, H b = some (.frz o u) → H' b = some (.frz o u)
 tb : ∀ b ps, H b = some (.tbl ps) → ∃ more, H' b = some (.tbl (ps ++ more))
section
variable {fs : List Addr} {H H' : Hp} {h B h' h2 : Heap}
theorem XUn.un (x : XUn fs H H' h B h') (hB : B.StaysIn h2) (hf : ∀ b ∈ fs, H b = none) (hs : ∀ b o, h'.get? b = some o → b ∈ fs → ∃ z, h2.get? b = some { o with slots := z }) : Un fs [] H H' h h2 where
 keep := fun b o e n hb _ => hB b o (x.kp b o e n hb)
 slot := fun b o e n hb _ => by
   obtain ⟨z, e1⟩ := x.sl b o e n hb
   obtain ⟨z', e2⟩ := hs b _ e1 hb
   exact ⟨z', e2⟩
 free := fun b o e n _ => x.fr b o e n
 there := fun b o e _ => by
   by_cases hb : b ∈ fs
   · obtain ⟨z, e1⟩ := x.sl b o e (hf b hb) hb
     obtain ⟨z', e2⟩ := hs b _ e1 hb
     exact ⟨_, e2⟩
   · obtain ⟨z, e1⟩ := x.th b o e hb
     exact ⟨z, hB b z e1⟩
 tups := x.tu
 frzs := x.fz
 tbls := x.tb
theorem frames_up {l : List Env} (ff : h'.FunFrames B l) (up : h'.UpToSlots h2) : ∀ b o, h'.get? b = some o → b ∈ frs l → ∃ z, h2.get? b = some { o with slots := z } := fun b o e hb => by
 obtain ⟨_, o', e', hd⟩ := ff.mem hb
 rw [e] at e'
 cases e'
 exact up b o e hd
theorem XUn.next {l : List Env} (x : XUn (frs l) H H' h B h') (ff : h'.FunFrames B l) (up : h'.UpToSlots h2) : XUn (frs l) H H' h B h2 :=
 ⟨x.kp, fun b o e n hb => by
   obtain ⟨z, e1⟩ := x.sl b o e n hb
   obtain ⟨z', e2⟩ := frames_up ff up b _ e1 hb
   exact ⟨z', e2⟩, x.fr, x.th, x.tu, x.fz, x.tb⟩
end
noncomputable def ErrD (e : Addr) (dx : Option Addr) (h : Heap) : Prop := ∃ o, h.get? e = some o ∧ o.dict = dx
theorem ErrD.go {e : Addr} {dx : Option Addr} {h h' : Heap} (x : ErrD e dx h) (k : SameD h h') : ErrD e dx h' := by
 obtain ⟨o, e1, d1⟩ := x
 obtain ⟨o', e2, d2⟩ := k e o e1
 exact ⟨o', e2, d2.trans d1⟩
noncomputable def CX1 (P : Program) (w : World) : CXT := fun outer H s E u s' => ∃ (e : Addr) (cls a0 : Value) (B : Heap) (H' : Hp) (dx : Option Addr), u = .ref e ∧ s'.os = s.os ∧ AllBare s'.gens ∧ XUn (frs outer) H H' s.heap B s'.heap ∧ HOk P w H' B ∧ Heap.FlyingW B outer e cls a0 s'.heap ∧ ErrD e dx s'.heap ∧ E cls dx H'
noncomputable def FlyAt (X : Cx) (pins : List (Addr × Obj)) (e : Addr) (cls a0 : Value) (dx : Option Addr) (σ : St) (H' : Hp) (s' : Shared) : Prop :=
 ∃ (B : Heap) (H : Hp) (s : Shared), Inv X pins σ H s ∧ s'.os = s.os ∧ AllBare s'.gens ∧ XUn (frs X.stack) H H' s.heap B s'.heap ∧ HOk X.prog X.w H' B ∧ Heap.FlyingW B X.stack e cls a0 s'.heap ∧ ErrD e dx s'.heap
noncomputable abbrev XJ := Value → Option Addr → St → Hp → Prop
noncomputable def Fly (X : Cx) (J : XJ) (u : Value) (s' : Shared) : Prop := ∃ (e : Addr) (cls a0 : Value) (dx : Option Addr) (σ : St) (H' : Hp), u = .ref e ∧ FlyAt X [] e cls a0 dx σ H' s' ∧ J cls dx σ H'
noncomputable def Flies (X : Cx) (J : XJ) : Prop := ∀ u s', Fly X J u s' → X.xe u s'
noncomputable def Makes (X : Cx) (J : XJ) : Prop := ∀ (pins : List (Addr × Obj)) (σ : St) (H : Hp) (s : Shared) (e : Addr) (cls : Value) (vs : List Value) (h' : Heap), Inv X pins σ H s → Heap.MadeExcOf s.heap h' e cls vs → J cls none σ H → X.xe (.ref e) { s with heap := h' }
noncomputable def excO (e : Addr) (cls : Value) : HO := .ext fun h => ∃ o vs, h.get? e = some o ∧ o.cls = cls ∧ o.data = .fields vs
noncomputable def excX (e : Addr) (cls : Value) : Option Addr → HO
 | none => excO e cls
 | some d => .ext fun h => ∃ o vs, h.get? e = some o ∧ o.cls = cls ∧ o.data = .fields vs ∧ o.dict = some d
section
variable {X : Cx} {pins : List (Addr × Obj)} {σ : St} {H H' : Hp} {s s' : Shared} {e : Addr} {cls a0 : Value} {dx : Option Addr}
theorem Inv.nopin (I : Inv X pins σ H s) : Inv X [] σ H s := I.pins_of (fun p hp => nomatch hp)
theorem FlyAt.step {B : Heap} {h2 : Heap} {S : Shared} (I : Inv X pins σ H S) (q1 : s'.os = S.os) (q2 : AllBare s'.gens) (q3 : XUn (frs X.stack) H H' S.heap B s'.heap) (q4 : HOk X.prog X.w H' B) (q5 : Heap.FlyingW B X.stack e cls a0 s'.heap)
   (f : Heap.FlyingW B X.stack e cls a0 h2) (up : s'.heap.UpToSlots h2) (d : ErrD e dx h2) : FlyAt X pins e cls a0 dx σ H' { s' with heap := h2 } :=
 ⟨B, H, S, I, q1, q2, q3.next q5.2.2.1 up, q4, f, d⟩
theorem FlyAt.apart {B : Heap} {S : Shared} (q3 : XUn (frs X.stack) H H' S.heap B s'.heap) (q5 : Heap.FlyingW B X.stack e cls a0 s'.heap) : S.heap.get? e = none := by
 cases z : S.heap.get? e with
 | none => rfl
 | some o =>
   by_cases hb : e ∈ frs X.stack
   · obtain ⟨_, o', e1, hd⟩ := q5.2.2.1.mem hb
     obtain ⟨oe, vs, e2, _, d2, _⟩ := q5.first
     rw [e1] at e2
     cases e2
     exact absurd d2 (hd vs)
   · obtain ⟨o', e1⟩ := q3.th e o z hb
     have e2 := q5.2.1
     rw [e1] at e2
     cases e2
theorem HOk.none_of {P : Program} {w : World} {B : Heap} (q : HOk P w H' B) (z : B.get? e = none) : H' e = none := by
 cases y : H' e with
 | none => rfl
 | some o =>
   obtain ⟨u, e1⟩ := (q e o y).ob
   rw [e1] at z
   cases z
theorem FlyAt.inv (F : FlyAt X pins e cls a0 dx σ H' s') : Inv X pins σ H' s' ∧ H' e = none := by
 obtain ⟨B, H, S, I, q1, q2, q3, q4, q5, _⟩ := F
 exact ⟨I.call' (ch := []) q1 (q3.un q5.1 I.stkFree fun b o e1 _ => ⟨o.slots, e1⟩) (q4.kept q5.1) q2 (fun b z => absurd z (by simp)), q4.none_of q5.2.1⟩
theorem FlyAt.held (F : FlyAt X pins e cls a0 dx σ H' s') : Inv X pins σ (upd H' e (excX e cls dx)) s' ∧ H' e = none := by
 obtain ⟨B, H, S, I, q1, q2, q3, q4, q5, dE⟩ := F
 have hn := q4.none_of q5.2.1
 have ha := FlyAt.apart q3 q5
 have ne : ∀ b u, H' b = some u → b ≠ e := fun b u y => ne_of_none y hn
 have q6 : XUn (frs X.stack) H (upd H' e (excX e cls dx)) S.heap B s'.heap :=
   ⟨q3.kp, q3.sl, fun b o e1 n => by
     have : b ≠ e := fun z => by rw [z, ha] at e1; cases e1
     rw [upd_ne this]
     exact q3.fr b o e1 n, q3.th, fun b xs y => by
     have y' := q3.tu b xs y
     rw [upd_ne (ne b _ y')]
     exact y', fun b o u y => by
     have y' := q3.fz b o u y
     rw [upd_ne (ne b _ y')]
     exact y', fun b ps y => by
     obtain ⟨more, y'⟩ := q3.tb b ps y
     exact ⟨more, by rw [upd_ne (ne b _ y')]; exact y'⟩⟩
 refine ⟨I.call' (ch := []) q1 (q6.un q5.1 I.stkFree fun b o e1 _ => ⟨o.slots, e1⟩) (fun b u y => ?_) q2 (fun b z => absurd z (by simp)), hn⟩
 have hk := q4.kept q5.1
 by_cases hb : b = e
 · subst hb
   rw [upd_same] at y
   cases y
   obtain ⟨oe, vs, e2, c2, d2, _⟩ := q5.first
   obtain ⟨o3, e3, d3⟩ := dE
   rw [e2] at e3
   cases e3
   cases dx with
   | none => exact ⟨⟨oe, vs, e2, c2, d2⟩, ⟨oe, e2⟩, fun h1 h2 ⟨o, ws, a1, a2, a3⟩ k => ⟨o, ws, k o a1, a2, a3⟩⟩
   | some d => exact ⟨⟨oe, vs, e2, c2, d2, d3⟩, ⟨oe, e2⟩, fun h1 h2 ⟨o, ws, a1, a2, a3, a4⟩ k => ⟨o, ws, k o a1, a2, a3, a4⟩⟩
 · rw [upd_ne hb] at y
   exact (hk b u y).stay (fun _ _ _ q => q) (fun c q => by rw [upd_ne (ne c _ q)]; exact q) fun c xs q => by rw [upd_ne (ne c _ q)]; exact q
end
section
variable {P : Program} {w : World} {K : PySem.W.Frag} {mg : Str → Option Value} {base : Heap} {N : List Str} {qual : Str} {scope : Scope} {f : Addr} {cd : Value} {A : Around} {outer : List Env} {s : Shared} {H : Hp} {E : XK}
theorem frs_def : frs (envOfC qual scope s.heap.objs.size f cd :: outer) = s.heap.objs.size :: frs outer := rfl
theorem flies_def : Flies (cxOf (CX1 P w) P w K mg base N qual scope f cd A outer s H E) (fun cls dx _ H' => E cls dx H') := by
 rintro u s' ⟨e, cls, a0, dx, σ, H2, rfl, ⟨B, H1, s1, I, q1, q2, q3, q4, q5, dE⟩, q6⟩
 have old : ∀ b o, s.heap.get? b = some o → b ∉ frs outer → b ∉ frs (envOfC qual scope s.heap.objs.size f cd :: outer) := fun b o e1 hb z => by
   rw [frs_def] at z
   rcases List.mem_cons.mp z with y | y
   · exact absurd (Heap.lt_size e1) (by rw [y]; exact Nat.lt_irrefl _)
   · exact hb y
 have nx : ∀ b : Addr, b ∉ ([] : List Addr) := fun b => by simp
 show wpAny (model P w) (A.deeper (envOfC qual scope s.heap.objs.size f cd)) (leaving (envOfC qual scope s.heap.objs.size f cd) (.ref e)) _ _ s'
 refine wpAny_mono (wpAny_keepsD (kd_leaving _ _) (wpAny_leaves_onW (E := fun _ _ => False) (Q := fun _ s2 => ∃ h2, s2 = { s' with heap := h2 } ∧ Heap.FlyingW B outer e cls a0 h2 ∧ s'.heap.UpToSlots h2) (L := s.heap.objs.size) I.ok.frames rfl q5 fun h2 x1 x2 => ⟨h2, rfl, x1, x2⟩)) (fun _ s2 ⟨⟨h2, e2, x1, x2⟩, kd⟩ => ?_) (fun _ _ z => z.1.elim)
 subst e2
 refine ⟨e, cls, a0, B, H2, dx, rfl, q1.trans I.os, q2, ⟨fun b o e1 n hb => ?_, fun b o e1 n hb => ?_, fun b o e1 n => ?_, fun b o e1 hb => ?_, fun b xs y => q3.tu b xs (I.base.tups b xs y), fun b o u y => q3.fz b o u (I.base.frzs b o u y), fun b ps y => ?_⟩, q4, x1, dE.go kd, q6⟩
 · exact q3.kp b o (I.base.keep b o e1 n hb (nx b)) (I.base.free b o e1 n (nx b)) (old b o e1 hb)
 · obtain ⟨z, e2⟩ := I.base.slot b o e1 n hb (nx b)
   have hm : b ∈ frs (envOfC qual scope s.heap.objs.size f cd :: outer) := List.mem_cons_of_mem _ hb
   obtain ⟨z', e3⟩ := q3.sl b _ e2 (I.base.free b o e1 n (nx b)) hm
   obtain ⟨z2, e4⟩ := frames_up q5.2.2.1 x2 b _ e3 hm
   exact ⟨z2, e4⟩
 · obtain ⟨o', e2⟩ := I.base.there b o e1 (nx b)
   exact q3.fr b o' e2 (I.base.free b o e1 n (nx b))
 · obtain ⟨o', e2⟩ := I.base.there b o e1 (nx b)
   exact q3.th b o' e2 (old b o e1 hb)
 · obtain ⟨m1, y1⟩ := I.base.tbls b ps y
   obtain ⟨m2, y2⟩ := q3.tb b _ y1
   exact ⟨m1 ++ m2, by rw [y2, Array.append_assoc]⟩
theorem makes_def : Makes (cxOf (CX1 P w) P w K mg base N qual scope f cd A outer s H E) (fun cls dx _ H' => E cls dx H') := by
 intro pins σ H1 s1 e cls vs h' I hx hj
 have fin : ∀ env ∈ (envOfC qual scope s.heap.objs.size f cd :: outer), ∀ b, env.frame = some b → b ∈ frs (envOfC qual scope s.heap.objs.size f cd :: outer) := fun env he b hb => List.mem_filterMap.mpr ⟨env, he, hb⟩
 have old : ∀ b o, s.heap.get? b = some o → b ∉ frs outer → b ∉ frs (envOfC qual scope s.heap.objs.size f cd :: outer) := fun b o e1 hb z => by
   rw [frs_def] at z
   rcases List.mem_cons.mp z with y | y
   · exact absurd (Heap.lt_size e1) (by rw [y]; exact Nat.lt_irrefl _)
   · exact hb y
 have nx : ∀ b : Addr, b ∉ ([] : List Addr) := fun b => by simp
 have fr1 : ∀ b ∈ frs (envOfC qual scope s.heap.objs.size f cd :: outer), H1 b = none := I.stkFree
 show wpAny (model P w) (A.deeper (envOfC qual scope s.heap.objs.size f cd)) (leaving (envOfC qual scope s.heap.objs.size f cd) (.ref e)) _ _ { s1 with heap := h' }
 have dE : ErrD e none h' := by
   obtain ⟨_, _, t0, hget, _⟩ := hx
   exact ⟨_, hget, rfl⟩
 refine wpAny_mono (wpAny_keepsD (kd_leaving _ _) (wpAny_leaves_madeW (E := fun _ _ => False) (Q := fun _ s2 => ∃ h2 t, s2 = { s1 with heap := h2 } ∧ Heap.FlyingW (PySem.W.hideAll s1.heap (frs (envOfC qual scope s.heap.objs.size f cd :: outer))) outer e cls (.ref t) h2 ∧ h'.UpToSlots h2) (L := s.heap.objs.size) (base := PySem.W.hideAll s1.heap (frs (envOfC qual scope s.heap.objs.size f cd :: outer))) (h := s1.heap) I.ok.frames rfl (fun b o q => PySem.W.of_hideAll _ q) (PySem.W.funFrames_hide I.stack fin) hx fun h2 t x1 x2 x3 x4 => ⟨h2, t, rfl, x1, x4⟩)) (fun _ s2 ⟨⟨h2, t, e2, x1, x4⟩, kd⟩ => ?_) (fun _ _ z => z.1.elim)
 subst e2
 refine ⟨e, cls, .ref t, _, H1, none, rfl, I.os, I.bare, ⟨fun b o e1 n hb => ?_, fun b o e1 n hb => ?_, fun b o e1 n => I.base.free b o e1 n (nx b), fun b o e1 hb => ?_, I.base.tups, I.base.frzs, I.base.tbls⟩, ?_, x1, dE.go kd, hj⟩
 · exact PySem.W.hideAll_get _ (I.base.keep b o e1 n hb (nx b)) (old b o e1 hb)
 · obtain ⟨z, e2⟩ := I.base.slot b o e1 n hb (nx b)
   obtain ⟨_, o', e3, hd⟩ := I.ok.funs.mem hb
   have e3' : s.heap.get? b = some o' := e3
   rw [e1] at e3'
   cases e3'
   obtain ⟨z2, e4⟩ := x4 b _ (hx.keeps b _ e2) hd
   exact ⟨z2, e4⟩
 · obtain ⟨o', e2⟩ := I.base.there b o e1 (nx b)
   exact ⟨o', PySem.W.hideAll_get _ e2 (old b o e1 hb)⟩
 · intro a u y
   refine (I.hok a u y).stay (fun b v hb q => PySem.W.hideAll_get _ q fun hm => ?_) (fun _ q => q) fun _ _ q => q
   have z := fr1 b hm
   rcases hb with rfl | hb
   · rw [y] at z; cases z
   · rw [hb] at z; cases z
theorem Fun.okX {x : Str} {st : Stmt} {fd : FuncData} {ps : List Str} {k : Nat} {sp : Sp} (F : Fun K x qual st f fd) (S : FnScope N ps (defScope st)) (len : ∀ vs H Q E, sp vs H Q E → vs.length = ps.length)
   (hbody : ∀ (cdv : Value) (A : Around) (outer : List Env) (s : Shared) (H : Hp) (vs : List V) (Q : VK) (E : XK), Room k (A.deeper (envOfC qual (defScope st) s.heap.objs.size f cdv)) → sp vs H Q E →
     ∃ t, PSs (cxOf (CX1 P w) P w K mg base N qual (defScope st) f cdv A outer s H E) (defBody st) t ∧ t { nx := fun _ H' => Q .non H', rt := Q } (start N vs) H) : FnOk P w K mg base (CX1 P w) (k + 1) f fd ps sp := by
 obtain ⟨oc, od, kV, doc, pm, an, cdv, ct, osl, rfl, lk, hcd⟩ := F.ex
 exact fn_of lk hcd S len fun A outer s H vs Q E hr hsp => hbody cdv A outer s H vs Q E hr hsp
end
structure HasX (P : Program) (w : World) (K : PySem.W.Frag) (mg : Str → Option Value) (base : Heap) (x : Str) (ps : List Str) (k : Nat) (sp : Sp) : Prop where
 ex : ∃ (f : Addr) (fd : FuncData), mg x = some (.ref f) ∧ PySem.W.keepIn K (.ref f) = true ∧ Binds K fd ps [] ∧ FnOk P w K mg base (CX1 P w) k f fd ps sp
noncomputable def tCallX (sp : Sp) (J : XJ) (t : TA) : TE := fun σ H Q => t σ H fun vs H1 => sp vs H1 Q (fun cls dx H2 => J cls dx σ H2)
section
variable {X : Cx} {J : XJ} {x : Str} {ps : List Str} {j k : Nat} {sp : Sp} {p pos : Pos} {e : Expr} {es : List Expr} {t : TA}
theorem run_fnX {pins : List (Addr × Obj)} {σ : St} {H : Hp} {s : Shared} {Q : VK} {us : List Value} {vs : List V} {f : Addr} {fd : FuncData} (F : FnOk X.prog X.w X.K X.mg X.base (CX1 X.prog X.w) k f fd ps sp) (hr : Room k X.A) (hb : Binds X.K fd ps []) (hx : Flies X J)
   (I : Inv X pins σ H s) (r : Vals vs us) (h : sp vs H Q (fun cls dx H2 => J cls dx σ H2)) : wpAny (model X.prog X.w) X.A (call (.ref f) us) (EP X pins σ Q) X.xe s := by
 have hl : us.length = ps.length := by rw [← r.length]; exact F.len _ _ _ _ h
 have hb1 := hb s us I.kIn (by rw [List.append_nil]; exact hl)
 rw [List.append_nil] at hb1
 refine wpAny_call (codeAny_mono (F.run X.A X.stack s H ⟨us, []⟩ us vs Q _ hr I.env0 hb1 r h) fun q s' hq => ?_)
 cases q with
 | error u =>
   obtain ⟨e, cls, a0, B, H', dx, rfl, q1, q2, q3, q4, q5, dE, q6⟩ := hq
   exact hx _ _ ⟨e, cls, a0, dx, σ, H', rfl, ⟨B, H, s, I.nopin, q1, q2, q3, q4, q5, dE⟩, q6⟩
 | ok fl =>
   cases fl with
   | ret u => exact I.after hq
   | next => exact False.elim hq
   | brk => exact False.elim hq
   | cont => exact False.elim hq
theorem pe_callX (hx : Flies X J) (h : HasX X.prog X.w X.K X.mg X.base x ps j sp) (hr : Room k X.A) (hg : Gl X x) (ha : PA X (e :: es) t) (hk : j ≤ k := by decide) (hdb : (x == ("__debug__" : Str)) = false := by decide)
   (he : starEach (e :: es) X.env = (false, eval e X.env) :: starEach es X.env := by rfl) (hpl : (backTo pos (starEach es X.env)).any (·.1) = false := by rfl) : PE X (.Call (.Name x p) (e :: es) [] pos) (tCallX sp J t) := by
 intro pins s σ H Q I hw
 obtain ⟨f, fd, h1, h2, h3, h4⟩ := h.ex
 refine wpAny_Call_Name_kw (ld_glob I hg h1 ?_ hdb)
 refine PySem.W.callWith_K (h₀ := X.base) I.ok.mod.kin h2 (thn (ha pos pins s σ H _ I hw) fun us s1 ⟨vs, H1, I1, r, q⟩ => ⟨I1.kIn, ?_⟩) he hpl
 exact run_fnX h4 (hr.mono hk) h3 hx I1 r q
end
abbrev bmV : List Value := [.type "ValueError", .type "Exception", .type "BaseException", .type "object"]
theorem own_obj {K : PySem.W.Frag} {h : Heap} {C : Addr} {bmB : List Value} {nid : String} (X : K.In h) (z : PySem.W.excIn K C bmB nid = true) :
   ∃ bm N nm q bs hdct sn sub ab col dd k0 k1 k2 k3 k5 mN, h.get? C = some (excClassObj nm q C N bs bm hdct sn sub ab col dd k0 k1 k2 k3 k5 nid) ∧ h.Ns N mN ∧ mN "__init__" = none ∧ OwnTail h bmB bm := by
 unfold PySem.W.excIn at z
 split at z
 case h_2 => cases z
 case h_1 dd cd sl ho =>
   split at z
   case h_2 => cases z
   case h_1 C' bm k0 k1 k2 k3 n k5 hm hs =>
     rw [Bool.and_eq_true, Bool.and_eq_true, Bool.and_eq_true, Bool.and_eq_true, Bool.and_eq_true, beq_iff_eq, beq_iff_eq, Bool.not_eq_true', beq_iff_eq] at z
     obtain ⟨⟨⟨⟨⟨z1, z2⟩, z3⟩, z4⟩, z5⟩, z6⟩ := z
     obtain ⟨nm, bs, mro, ns, qn, hd, sn, sub, ab, col, del⟩ := cd
     have hm' : mro = .ref C' :: bm := hm
     have z3' : del = false := z3
     subst hm' z3' z1 z2
     have hsl : sl = #[k0, k1, k2, k3, some (.builtin n), k5] := by
       cases sl with
       | mk l =>
         have : l = [k0, k1, k2, k3, some (.builtin n), k5] := hs
         rw [this]
     subst hsl
     exact ⟨bm, ns, nm, qn, bs, hd, sn, sub, ab, col, dd, k0, k1, k2, k3, k5, _, X _ _ ho, .of_isNs (PySem.W.isNs_of_in X z5), PySem.W.nsMap_none_of_in X z5 z6, PySem.W.tail_of_in X z4⟩
noncomputable def tRaise (J : XJ) (C : Addr) (t : TA) : TS := fun _ σ H => t σ H fun vs H1 => vs.length ≤ sizeLine ∧ J (.ref C) none σ H1
theorem ps_raise {X : Cx} {J : XJ} {C : Addr} {x : Str} {np cpos pos : Pos} {e : Expr} {es : List Expr} {t : TA} (hx : Makes X J) (hc : X.calm = true) (hg : Gl X x) (hm : X.mg x = some (.ref C)) (z : PySem.W.excIn X.K C bmV "ValueError.__new__" = true) (ha : PA X (e :: es) t)
   (hdb : (x == ("__debug__" : Str)) = false := by decide) (he : starEach (e :: es) X.env = (false, eval e X.env) :: starEach es X.env := by rfl) (hpl : (backTo cpos (starEach es X.env)).any (·.1) = false := by rfl) :
   PS X (.Raise (some (.Call (.Name x np) (e :: es) [] cpos)) none pos) (tRaise J C t) := by
 intro pins s σ H D I h
 obtain ⟨bm, N, nm, q, bs, hdct, sn, sub, ab, col, dd, k0, k1, k2, k3, k5, mN, hC, hN, hni, T⟩ := own_obj I.mod.kin z
 have hp2 : (backTo cpos (starEach (e :: es) X.env)).any (·.1) = false := by
   rw [he]
   show (false || (backTo cpos (starEach es X.env)).any (·.1)) = false
   rw [hpl]
   rfl
 refine wpAny_Raise_call_subT PySem.F.excBase_ValueError (C := C) (nm := nm) (q := q) (N := N) (bs := bs) (bm := bm) (hdct := hdct) (sn := sn) (sub := sub) (ab := ab) (col := col) (dd := dd) (k0 := k0) (k1 := k1) (k2 := k2) (k3 := k3) (k5 := k5) (mN := mN)
   (T.hasType PySem.F.excBase_ValueError.hasBase) (I.ok.hd hc) hp2 hni (ld_glob I hg hm ⟨rfl, ?_⟩ hdb)
 have a1 := thn (ha cpos pins s σ H _ I h) (Q' := fun us s2 => (⟨us, []⟩ : Args).kw = [] ∧ us.length ≤ sizeLine ∧ s2.heap.get? C = some (excClassObj nm q C N bs bm hdct sn sub ab col dd k0 k1 k2 k3 k5 "ValueError.__new__") ∧ s2.heap.Ns N mN ∧ OwnTail s2.heap bmV bm ∧
     ∀ h' e, Heap.MadeExcOf s2.heap h' e (.ref C) us → X.xe (.ref e) { s2 with heap := h' }) fun us s2 ⟨vs, H1, I1, r, hl, hj⟩ =>
   ⟨rfl, by rw [← r.length]; exact hl, I1.bk _ _ hC, hN.keeps I1.bk, T.keeps I1.bk, fun h' e2 hmk => hx pins σ H1 s2 e2 _ _ h' I1 hmk hj⟩
 rw [he] at a1 ⊢
 exact Calls.evalArgs_plain a1
end L2
namespace L2
open PySem PySem.Spec PyProof.Rows PySem.W
section
variable {X : Cx} {pins pn : List (Addr × Obj)} {σ : St} {H : Hp} {s : Shared} {J : XJ}
noncomputable abbrev Cx.pinned (X : Cx) (pn : List (Addr × Obj)) : Cx := { X with pn := X.pn ++ pn }
theorem Cx.Ok.pinned (ok : X.Ok) (pn : List (Addr × Obj)) : (X.pinned pn).Ok :=
 ⟨ok.mod, ok.kind, ok.glob, ok.blt, ok.above, ok.inj, ok.has, ok.cab, ok.hd, ok.frames, ok.stk, ok.exf, ok.bs, ok.bsz, ok.noex, ok.exfs, ok.funs, ok.frf⟩
theorem Cx.Ok.unpinned' (ok : (X.pinned pn).Ok) : X.Ok :=
 ⟨ok.mod, ok.kind, ok.glob, ok.blt, ok.above, ok.inj, ok.has, ok.cab, ok.hd, ok.frames, ok.stk, ok.exf, ok.bs, ok.bsz, ok.noex, ok.exfs, ok.funs, ok.frf⟩
theorem Inv.toPn (I : Inv X pins σ H s) : Inv (X.pinned pins) [] σ H s := ⟨I.ok.pinned _, I.os, I.bare, I.base, I.loc, I.cell, I.free, I.freeC, fun p hp => I.pin p (by simpa using hp), I.hok, I.len⟩
theorem Inv.ofPn (I : Inv (X.pinned pins) [] σ H s) : Inv X pins σ H s := ⟨I.ok.unpinned', I.os, I.bare, I.base, I.loc, I.cell, I.free, I.freeC, fun p hp => I.pin p (by simpa using hp), I.hok, I.len⟩
noncomputable abbrev Cx.tried (X : Cx) (pn : List (Addr × Obj)) (J : XJ) : Cx := (X.pinned pn).wish (Fly (X.pinned pn) J)
theorem flies_tried : Flies (X.tried pn J) J := fun u s' ⟨e, cls, a0, dx, σ, H', h1, ⟨B, H, S, I, q⟩, h3⟩ => ⟨e, cls, a0, dx, σ, H', h1, ⟨B, H, S, I.unwish, q⟩, h3⟩
noncomputable abbrev Cx.suite (X : Cx) (e : Addr) : Cx := { X with A := X.A.mark (some (.ref e)), calm := false, xe := fun _ _ => False }
theorem Cx.Ok.suite (ok : X.Ok) (e : Addr) : (X.suite e).Ok :=
 ⟨ok.mod, ok.kind, ok.glob, ok.blt, ok.above, ok.inj, ok.has, ok.cab, fun z => Bool.noConfusion z, ok.frames, ok.stk, ok.exf, ok.bs, ok.bsz, ok.noex, ok.exfs, ok.funs, ok.frf⟩
theorem Inv.suite (I : Inv X pins σ H s) (e : Addr) : Inv (X.suite e) pins σ H s := ⟨I.ok.suite e, I.os, I.bare, I.base, I.loc, I.cell, I.free, I.freeC, I.pin, I.hok, I.len⟩
theorem Inv.unsuite {e : Addr} (ok : X.Ok) (I : Inv (X.suite e) pins σ H s) : Inv X pins σ H s := ⟨ok, I.os, I.bare, I.base, I.loc, I.cell, I.free, I.freeC, I.pin, I.hok, I.len⟩
theorem unname_ok {M : Model} {A : Around} {E : Value → Shared → Prop} {i : Nat} {n : Str} {pos : Pos} {Q : Unit → Shared → Prop} (I : Inv X pins σ H s) (hN : X.N.Nodup) (hi : X.N[i]? = some n) (hk : X.env.kindOf n = some .local)
   (h : ∀ s', Inv X pins (σ.set i none) H s' → Q () s') : wpAny M A (do bindName X.env n .none; unbindBehindTheSuite X.env n pos) Q E s := by
 obtain ⟨m, hn, hl⟩ := id I.loc
 have hcls : (X.env.scope.kind == .class || (X.env.scope.kind == .module && X.env.locals != X.env.globals)) = false := by rw [I.ok.kind]; rfl
 refine wpAny_nameGoes_keeps hk hn hcls fun h' v hn' hs => h _ ?_
 have lt : ∀ b o, X.s₀.heap.get? b = some o → b ≠ X.env.locals := fun b o e => Nat.ne_of_lt (Nat.lt_of_lt_of_le (Heap.lt_size e) I.ok.above)
 refine ⟨I.ok, I.os, I.bare, ⟨fun b o e z hb hx => (hs.2 b (lt b o e)).trans (I.base.keep b o e z hb hx), fun b o e z hb hx => ?_, I.base.free, fun b o e hx => ?_, I.base.tups, I.base.frzs, I.base.tbls⟩, ⟨_, hn', fun j y v' e1 e2 e3 => ?_⟩, fun y c e => ?_, I.free, I.freeC, fun p hp => ?_, fun b o e => ?_, by simpa using I.len⟩
 · obtain ⟨sl, e1⟩ := I.base.slot b o e z hb hx
   exact ⟨sl, (hs.2 b (lt b o e)).trans e1⟩
 · obtain ⟨o', e1⟩ := I.base.there b o e hx
   exact ⟨o', (hs.2 b (lt b o e)).trans e1⟩
 · have hj : i ≠ j := by
     rintro rfl
     rw [List.getElem?_set] at e2
     simp at e2
   rw [List.getElem?_set_ne hj] at e2
   obtain ⟨u, r, q⟩ := hl j y v' e1 e2 e3
   refine ⟨u, r, ?_⟩
   rcases q with ⟨k, z⟩ | ⟨k, c, z, w'⟩
   · have : y ≠ n := fun z' => hj (nodup_ix hN hi (z' ▸ e1))
     exact .inl ⟨k, by simp [this, z]⟩
   · exact .inr ⟨k, c, z, w'.sameBut hs (I.cne y c z)⟩
 · obtain ⟨w', z⟩ := I.cell y c e
   exact ⟨w', z.sameBut hs (I.cne y c e)⟩
 · obtain ⟨e, z, ne, nf, d⟩ := I.pin p hp
   exact ⟨(hs.2 p.1 ne).trans e, z, ne, nf, d⟩
 · refine (I.hok b o e).stay (fun c w' hc q => (hs.2 c ?_).trans q) (fun _ q => q) fun _ _ q => q
   rintro rfl
   have hf := I.free
   rcases hc with rfl | hc
   · rw [hf] at e; cases e
   · rw [hf] at hc; cases hc
end
noncomputable def PH (X : Cx) (hs : List ExceptHandler) (th : Ends → XJ) : Prop := ∀ (pins : List (Addr × Obj)) (s : Shared) (σ : St) (H : Hp) (D : Ends) (e : Addr) (cls a0 : Value) (dx : Option Addr), FlyAt X pins e cls a0 dx σ H s → th D cls dx σ H →
 wpAny (model X.prog X.w) X.A (handleBy (.ref e) X.env hs) (SP X pins D) X.xe s
noncomputable def hNo : Ends → XJ := fun _ _ _ _ _ => False
theorem ph_none {X : Cx} : PH X [] hNo := fun _ _ _ _ _ _ _ _ _ _ h => h.elim
noncomputable def behind (i : Nat) (D : Ends) : Ends := { nx := fun σ H => D.nx (σ.set i none) H, rt := D.rt, bk := fun σ H => D.bk (σ.set i none) H, ct := fun σ H => D.ct (σ.set i none) H }
noncomputable def hAs (K : Frag) (C : Addr) (i : Nat) (ts : TS) (th : Ends → XJ) : Ends → XJ := fun D cls dx σ H => ∃ (C' : Addr) (b : Bool), cls = .ref C' ∧ subIn K (.ref C') (.ref C) = some b ∧
 if b = true then ∀ e, H e = none → ts (behind i D) (σ.set i (some (.ref e))) (upd H e (excX e cls dx)) else th D cls dx σ H
theorem exc_match {M : Model} {A : Around} {E : Value → Shared → Prop} {nm q : Str} {C C' N : Addr} {bs bm : List Value} {hdct : Bool} {sn : List Str} {sub : List Value} {ab : Bool} {col : Option Bool} {dd : Option Addr} {k0 k1 k2 k3 k5 : Option Value} {nid : String}
   {h : Heap} {g : Array GenState} {d : Drawn} {t : Nat} {os : OsState} {e : Addr} {oe : Obj} {b : Bool} {Q : Bool → Shared → Prop} (hC : h.get? C = some (excClassObj nm q C N bs bm hdct sn sub ab col dd k0 k1 k2 k3 k5 nid))
   (he : h.get? e = some oe) (hcls : oe.cls = .ref C') (hbase : bm.contains (.type "BaseException") = true) (LS : Looks M h (isSubtype (.ref C') (.ref C)) b) (hq : Q b ⟨h, g, d, t, os⟩) : wpAny M A (excMatches (.ref e) (.ref C)) Q E ⟨h, g, d, t, os⟩ := by
 have hb2 : (Value.ref C :: bm).contains (.type "BaseException") = true := by rw [List.contains_cons, hbase, Bool.or_true]
 have tnt := tc_notTuple
 unfold excMatches
 repeat (first | (with_reducible refine wpAny_loadPart_at he ?_; rw [hcls]) | with_reducible refine wpAny_loadPart_at hC ?_ | (with_reducible refine wpAny_isSubtype_exc hC ?_; rw [hb2]) | with_reducible refine LS.at ?_ | wp_step)
 cases b <;> (wp_walk; exact hq)
section
variable {X : Cx} {th : Ends → XJ}
theorem ph_as {x n : Str} {i : Nat} {C : Addr} {np hpos : Pos} {b0 : Stmt} {bs : List Stmt} {ts : TS} {rest : List ExceptHandler} (hN : X.N.Nodup) (hi : X.N[i]? = some n) (hk : X.env.kindOf n = some .local) (hg : Gl X x) (hm : X.mg x = some (.ref C)) (hC : ktsIn X.K C "BaseException" = true)
   (hs : ∀ e, PSs (X.suite e) (b0 :: bs) ts) (hr : PH X rest th) (hdb : (x == ("__debug__" : Str)) = false := by decide) : PH X (.ExceptHandler (some (.Name x np)) (some n) (b0 :: bs) hpos :: rest) (hAs X.K C i ts th) := by
 intro pins s σ H D e cls a0 dx F h
 obtain ⟨C', b, rfl, hb, h⟩ := h
 have I := F.inv.1
 obtain ⟨nm, qn, N, bs', bm, hdct, sn, sub, ab, col, dd, k0, k1, k2, k3, k5, nid, hCo, hbase, _⟩ := kts_cls I.kIn hC
 have F' := F
 obtain ⟨B, H0, S, I0, q1, q2, q3, q4, q5, dE⟩ := F'
 obtain ⟨oe, he, hcls⟩ := q5.there
 refine wpAny_handleBy_cons (codeAny_handlers_test (ld_glob (X := X.suite e) (I.suite e) hg hm ?_ hdb)) (by intro q; cases q)
 have LS : Looks (model X.prog X.w) s.heap (isSubtype (.ref C') (.ref C)) b := looks_subIn I.kIn hb
 obtain ⟨sh, sg, sd, st, so⟩ := s
 refine exc_match hCo he hcls hbase LS ?_
 cases b with
 | false =>
   rw [if_neg Bool.false_ne_true] at h
   exact hr pins _ σ H D e _ a0 dx F h
 | true =>
   rw [if_pos rfl] at h
   refine codeAny_handlers_suite_as ?_
   refine wpAny_mono (wpAny_keepsD (kd_setFlight _ _) (lands_againW (E := fun _ _ => False) (Q := fun _ s2 => ∃ h6, s2 = { (⟨sh, sg, sd, st, so⟩ : Shared) with heap := h6 } ∧ Heap.FlyingW B X.stack e (.ref C') a0 h6 ∧ sh.UpToSlots h6) q5 fun h6 f6 up6 => ⟨h6, rfl, f6, up6⟩)) (fun _ s2 ⟨⟨h6, e6, f6, up6⟩, kd⟩ => ?_) (fun _ _ z => z.1.elim)
   subst e6
   have F6 := FlyAt.step I0 q1 q2 q3 q4 q5 f6 up6 (dE.go kd)
   obtain ⟨I6, hn⟩ := F6.held
   refine store_ok (v := .ref e) I6 hN hi (.inl hk) rfl (fun s7 I7 => ?_) (.inr hk)
   refine wpAny_mono (hs e pins s7 _ _ (behind i D) (I7.suite e) (h e hn)) (fun f s8 q => ?_) fun _ _ z => z.elim
   have go : ∀ {σ' : St} {H' : Hp} {f : Flow}, Inv (X.suite e) pins σ' H' s8 → (∀ s9, Inv X pins (σ'.set i none) H' s9 → SP X pins D f s9) → wpAny (model X.prog X.w) X.A (do bindName X.env n .none; unbindBehindTheSuite X.env n hpos) (fun _ s9 => SP X pins D f s9) X.xe s8 :=
     fun {σ' H' f} I8 k => unname_ok (I8.unsuite I.ok) hN hi hk k
   cases f with
   | next => obtain ⟨σ', H', I8, q⟩ := q; exact go I8 fun s9 I9 => ⟨_, H', I9, q⟩
   | brk => obtain ⟨σ', H', I8, q⟩ := q; exact go I8 fun s9 I9 => ⟨_, H', I9, q⟩
   | cont => obtain ⟨σ', H', I8, q⟩ := q; exact go I8 fun s9 I9 => ⟨_, H', I9, q⟩
   | ret u => obtain ⟨v, σ', H', I8, r, q⟩ := q; exact go I8 fun s9 I9 => ⟨v, _, H', I9, r, q⟩
noncomputable def tTry (tb : XJ → TS) (th : Ends → XJ) : TS := fun D σ H => tb (th D) D σ H
theorem ps_try {tb : XJ → TS} {body : List Stmt} {h0 : ExceptHandler} {hs : List ExceptHandler} {pos : Pos} (hb : ∀ pn J, PSs (X.tried pn J) body (tb J)) (hh : PH X (h0 :: hs) th) (hstk : X.stack = X.env :: X.outer := by rfl) (hfr : X.env.frame = some X.env.locals := by rfl) :
   PS X (.Try body (h0 :: hs) [] [] pos) (tTry tb th) := by
 intro pins s σ H D I h
 refine wpAny_Try_except (wpAny_mono (hb pins (th D) [] s σ H D (I.toPn.wish _) h) (fun f s1 q => ?_) fun u s1 q => ?_)
 · cases f with
   | next => obtain ⟨σ', H', I', q⟩ := q; exact wpAny_execs_nil ⟨σ', H', I'.unwish.ofPn, q⟩
   | brk => obtain ⟨σ', H', I', q⟩ := q; exact ⟨σ', H', I'.unwish.ofPn, q⟩
   | cont => obtain ⟨σ', H', I', q⟩ := q; exact ⟨σ', H', I'.unwish.ofPn, q⟩
   | ret u => obtain ⟨v, σ', H', I', r, q⟩ := q; exact ⟨v, σ', H', I'.unwish.ofPn, r, q⟩
 · obtain ⟨e, cls, a0, dx, σ', H', rfl, ⟨B, H1, S, I1, q1, q2, q3, q4, q5, dE⟩, hj⟩ := q
   have q5' : Heap.FlyingW B (X.env :: X.outer) e cls a0 s1.heap := hstk ▸ q5
   refine wpAny_mono (wpAny_keepsD (kd_noteFrame _ _) (wpAny_looks_onW (E := fun _ _ => False) (Q := fun _ s2 => ∃ h4, s2 = { s1 with heap := h4 } ∧ Heap.HeldW B (X.env :: X.outer) e cls a0 X.env.locals h4 ∧ s1.heap.UpToSlots h4) (L := X.env.locals) (I.ok.frames.trans (congrArg some hstk)) hfr q5' fun h4 held4 up4 => ⟨h4, rfl, held4, up4⟩)) (fun _ s2 ⟨⟨h4, e4, held4, up4⟩, kd4⟩ => ?_) (fun _ _ z => z.1.elim)
   subst e4
   refine wpAny_mono (wpAny_keepsD (kd_setFlight _ _) (wpAny_landsW (E := fun _ _ => False) (Q := fun _ s2 => ∃ h5, s2 = { s1 with heap := h5 } ∧ Heap.FlyingW B (X.env :: X.outer) e cls a0 h5 ∧ h4.UpToSlots h5) held4 fun h5 fl5 up5 => ⟨h5, rfl, fl5, up5⟩)) (fun _ s2 ⟨⟨h5, e5, fl5, up5⟩, kd5⟩ => ?_) (fun _ _ z => z.1.elim)
   subst e5
   exact hh pins _ σ' H' D e cls a0 dx (FlyAt.step (s' := s1) I1.ofPn q1 q2 q3 q4 q5 (hstk ▸ fl5) (up4.trans up5) (dE.go (kd4.trans kd5))) hj
end
structure ExcC (K : Frag) (C : Addr) : Prop where
 cls : ktsIn K C "BaseException" = true
 ga : findIn K (.ref C) "__getattribute__" = some (some (.builtin "BaseException.__getattribute__"))
 gt : findIn K (.ref C) "__getattr__" = some none
 cl : findIn K (.ref C) "__class__" = some (some (.builtin "object.__class__"))
 ob : subIn K (.ref C) (.type "object") = some true
 be : subIn K (.ref C) (.type "BaseException") = some true
section
variable {prog : Program} {w : World} {A : Around} {E : Value → Shared → Prop} {h : Heap} {g : Array GenState} {d : Drawn} {t : Nat} {os : OsState} {a C : Addr} {o : Obj} {K : Frag}
theorem xcls_check {M : Model} {nameV : Value} {Q : Unit → Shared → Prop} (X : K.In h) (Z : ExcC K C) (hx : h.get? a = some o) (hc : o.cls = .ref C) (hq : Q () ⟨h, g, d, t, os⟩) :
   wpAny M A (checkBuiltinCall "BaseException.__getattribute__" ⟨[.ref a, nameV], []⟩) Q E ⟨h, g, d, t, os⟩ := by
 have hk : builtinKind "BaseException.__getattribute__" = some .slot := by decide +kernel
 have hsp : splitId "BaseException.__getattribute__" = some ("BaseException", "__getattribute__") := by decide +kernel
 have LS : Looks M h (isSubtype (.ref C) (.type "BaseException")) true := looks_subIn X Z.be
 have ha := F.args_bexc_ga (.ref a) nameV
 simp only [checkBuiltinCall, hk, hsp]
 refine wpAny_bind ?_
 unfold isInstance
 repeat (first | (with_reducible refine wpAny_loadPart_at hx ?_; rw [hc]) | with_reducible refine LS.at ?_ | wp_step)
 exact hq
end
section
variable {X : Cx} {K : Frag}
end
end L2
namespace L2
open PySem PySem.Spec PyProof.Rows
section
variable {g : TG} {tc : TT} {te : TE} {D : Addr} {Q : Hp → Prop} {τ : St} {H : Hp}
end
end L2
namespace L2
open PySem PySem.Spec PyProof.Rows
theorem Inv.turnedN {X : Cx} {pins : List (Addr × Obj)} {σ : St} {H : Hp} {s : Shared} {h' : Heap} {t' : Nat} {fp : List Addr} (I : Inv X pins σ H s) (k : ∀ b o, b ∉ fp → s.heap.get? b = some o → h'.get? b = some o) (hf : ∀ b ∈ fp, FpOk X pins H b) :
   Inv X pins σ H { s with heap := h', toks := t' } := by
 have ntr : ∀ c o, H c = some o → c ∉ fp := fun c o e hm => by rw [(hf c hm).1] at e; cases e
 refine I.step (g' := s.gens) (d' := s.drawn) (ch := fp) (fun b hb => ?_) (fun b o _ _ hc e _ => k b o hc e) (fun b o _ _ hc e _ => ⟨o.slots, k b o hc e⟩) (fun _ _ _ _ n => n)
   (fun b o hc e => ⟨o, k b o hc e⟩) (fun _ _ e => e) (fun _ _ _ e => e) (fun b ps e => ⟨#[], by rw [e]; simp⟩) (fun m hm => ?_) (fun b u e => ?_) I.bare
 · have f := hf b hb
   exact ⟨f.2.2.2.1, f.2.1, f.2.2.2.2.1, f.2.2.2.2.2⟩
 · obtain ⟨o, es', ep, ho, r⟩ := hm
   exact ⟨o, es', ep, k _ o (fun z => (hf _ z).2.1 rfl) ho, r⟩
 · refine (I.hok b u e).stay (fun c y hc' q => ?_) (fun c q => q) fun c ys q => q
   rcases hc' with rfl | hc'
   · exact k _ _ (ntr _ _ e) q
   · exact k _ _ (ntr _ _ hc') q
noncomputable def Itz (K : PySem.W.Frag) (a b : Addr) : It :=
 ⟨fun i H => ∃ xs ys x y, SqL K H a xs ∧ SqL K H b ys ∧ xs[i]? = some x ∧ ys[i]? = some y,
  fun i H v H' => ∃ p x y, H p = none ∧ v = .ref p ∧ H' = upd H p (.tup [x, y]) ∧ (∀ xs, SqL K H a xs → xs[i]? = some x) ∧ ∀ ys, SqL K H b ys → ys[i]? = some y,
  fun i H => ∃ xs ys, SqL K H a xs ∧ SqL K H b ys ∧ (xs.length ≤ i ∨ ys.length ≤ i)⟩
theorem turn_zip {P : Program} {w : World} {K : PySem.W.Frag} {es : List Expr} {x1 : Nat} {tpos : Pos} (a b z TI TO i1 i2 : Addr) (D : ZipApart z TI TO i1 i2 a b) :
   Turn P w K (.Tuple es x1 tpos) (Itz K a b) [z, TI, TO, i1, i2] z (fun i h => IsZip h z TI TO .none ∧ IsPair h TI (.ref i1) (.ref i2) ∧ (∃ c d, IsPair h TO c d) ∧ h.IsListIter i1 a i ∧ h.IsListIter i2 b i) where
 mem := by simp
 obj := fun i h st c hc => by
   obtain ⟨hz, hTI, ⟨u, v, hTO⟩, ⟨o1, h1, c1, d1⟩, ⟨o2, h2, c2, d2⟩⟩ := st
   simp only [List.mem_cons, List.not_mem_nil, or_false] at hc
   rcases hc with rfl | rfl | rfl | rfl | rfl
   · exact ⟨_, hz, fun v q => by cases (show Data.fields _ = Data.cell v from q)⟩
   · exact ⟨_, hTI, fun v q => by cases (show Data.seq _ _ = Data.cell v from q)⟩
   · exact ⟨_, hTO, fun v q => by cases (show Data.seq _ _ = Data.cell v from q)⟩
   · exact ⟨o1, h1, fun v q => by rw [d1] at q; cases q⟩
   · exact ⟨o2, h2, fun v q => by rw [d2] at q; cases q⟩
 keep := fun i h h' st k => by
   obtain ⟨hz, hTI, ⟨u, v, hTO⟩, h1, h2⟩ := st
   exact ⟨k z (by simp) _ hz, k TI (by simp) _ hTI, ⟨u, v, k TO (by simp) _ hTO⟩, h1.at fun o q => k i1 (by simp) o q, h2.at fun o q => k i2 (by simp) o q⟩
 item := by
   intro X hP hw hK hc i pins s σ H E I hf st hg
   subst hP hw hK
   obtain ⟨hz, hTI, ⟨u0, v0, hTO⟩, h1, h2⟩ := st
   obtain ⟨xs, ys, x, y, hqa, hqb, hx, hy⟩ := hg
   obtain ⟨ia, ra, pa, _⟩ := I.list hqa
   obtain ⟨ib, rb, pb, _⟩ := I.list hqb
   obtain ⟨u, hu, ru⟩ := ra.get hx
   obtain ⟨v, hv, rv⟩ := rb.get hy
   have hfresh : H s.heap.objs.size = none := I.hok.fresh (Nat.le_refl _)
   have ltz := Heap.lt_size hz
   refine wpAny_pyNext_zip_item D hz hTI hTO h1 h2 pa.isList pb.isList (x := u) (y := v) (by simpa using hu) (by simpa using hv) fun h' hz' hTO' h1' h2' htup hsz hk => ?_
   refine ⟨_, rfl, wpAny_letOwnedTupleGo_zip hz' fun h3 hz3 hsb => ?_⟩
   replace hsb : Heap.SameBut z h' h3 := hsb
   have kk : ∀ c o, c ∉ [z, TI, TO, i1, i2] → s.heap.get? c = some o → h3.get? c = some o := fun c o hc e => by
     simp only [List.mem_cons, List.not_mem_nil, or_false, not_or] at hc
     obtain ⟨n1, n2, n3, n4, n5⟩ := hc
     exact (hsb.2 c n1).trans (hk c o n1 n3 n4 n5 e)
   have ht3 : h3.get? s.heap.objs.size = some { cls := .type "tuple", data := .seq #[u, v] } := (hsb.2 _ (Nat.ne_of_gt ltz)).trans htup
   have hi1 : h3.IsListIter i1 a (i + 1) := h1'.at fun o e => (hsb.2 i1 D.i1z).trans e
   have hi2 : h3.IsListIter i2 b (i + 1) := h2'.at fun o e => (hsb.2 i2 D.i2z).trans e
   have hTI3 : IsPair h3 TI (.ref i1) (.ref i2) := (hsb.2 TI D.TIz).trans (hk _ _ D.TIz D.TITO D.TIi1 D.TIi2 hTI)
   have hTO3 : IsPair h3 TO u v := (hsb.2 TO D.TOz).trans hTO'
   have ntr : ∀ c o, H c = some o → c ∉ [z, TI, TO, i1, i2] := fun c o e hm => by rw [(hf c hm).1] at e; cases e
   have nsz : ∀ c o, H c = some o → c ≠ s.heap.objs.size := fun c o e => ne_of_none e hfresh
   refine ⟨.ref s.heap.objs.size, upd H s.heap.objs.size (.tup [x, y]), ?_, rfl, ⟨s.heap.objs.size, x, y, hfresh, rfl, rfl, fun zs q => by rw [I.list_inj q hqa]; exact hx, fun zs q => by rw [I.list_inj q hqb]; exact hy⟩, ⟨hz3, hTI3, ⟨_, _, hTO3⟩, hi1, hi2⟩, fun c hc => ?_⟩
   · refine Inv.step (s := s) (h' := h3) (t' := s.toks) (H' := upd H s.heap.objs.size (.tup [x, y])) I (g' := s.gens) (d' := s.drawn) (ch := [z, TI, TO, i1, i2]) (fun c hc => ?_) (fun c o _ _ hc e _ => kk c o hc e) (fun c o _ _ hc e _ => ⟨o.slots, kk c o hc e⟩) (fun c o hc e n => ?_) (fun c o hc e => ⟨o, kk c o hc e⟩)
       (fun c zs e => by rw [upd_ne (nsz c _ e)]; exact e) (fun c o w' e => by rw [upd_ne (nsz c _ e)]; exact e) (fun c ps e => ⟨#[], by rw [upd_ne (nsz c _ e), e]; simp⟩) (fun m hm => ?_) (fun c w' e => ?_) I.bare
     · have f := hf c hc
       exact ⟨f.2.2.2.1, f.2.1, f.2.2.2.2.1, f.2.2.2.2.2⟩
     · rw [upd_ne (Nat.ne_of_lt (Heap.lt_size e))]
       exact n
     · obtain ⟨o, es', ep, ho, r⟩ := hm
       exact ⟨o, es', ep, kk _ o (fun q => (hf _ q).2.1 rfl) ho, r⟩
     · by_cases hcs : c = s.heap.objs.size
       · subst hcs
         rw [upd_same] at e
         cases e
         exact ⟨(by show (2 : Nat) ≤ sizeLine; decide), [u, v], .cons ru (.cons rv .nil), ⟨_, ht3, rfl, rfl, _, rfl⟩⟩
       · rw [upd_ne hcs] at e
         refine (I.hok c w' e).stay (fun c' y' hc' q => ?_) (fun c' q => by rw [upd_ne (nsz c' _ q)]; exact q) fun c' zs q => by rw [upd_ne (nsz c' _ q)]; exact q
         rcases hc' with rfl | hc'
         · exact kk _ _ (ntr _ _ e) q
         · exact kk _ _ (ntr _ _ hc') q
   · have lb : c < s.heap.objs.size := by
       simp only [List.mem_cons, List.not_mem_nil, or_false] at hc
       obtain ⟨o1, q1, _⟩ := h1
       obtain ⟨o2, q2, _⟩ := h2
       rcases hc with rfl | rfl | rfl | rfl | rfl
       · exact ltz
       · exact Heap.lt_size hTI
       · exact Heap.lt_size hTO
       · exact Heap.lt_size q1
       · exact Heap.lt_size q2
     rw [upd_ne (Nat.ne_of_lt lb)]
     exact (hf c hc).1
 done := by
   intro X hP hw hK hc i pins s σ H E I hf st hg
   subst hP hw hK
   obtain ⟨hz, hTI, ⟨u0, v0, hTO⟩, h1, h2⟩ := st
   obtain ⟨xs, ys, hqa, hqb, hx⟩ := hg
   obtain ⟨ia, ra, pa, _⟩ := I.list hqa
   obtain ⟨ib, rb, pb, _⟩ := I.list hqb
   have la := ra.length
   have lb := rb.length
   refine wpAny_pyNext_zip_end (I.ok.hd hc) D hz hTI hTO h1 h2 pa.isList pb.isList ?_ fun h' hk => ⟨rfl, I.turnedN (t' := s.toks) (fp := [z, TI, TO, i1, i2]) (fun c o hc e => ?_) hf⟩
   · rcases hx with q | q
     · exact .inl (by simp; omega)
     · exact .inr (by simp; omega)
   · simp only [List.mem_cons, List.not_mem_nil, or_false, not_or] at hc
     obtain ⟨n1, n2, n3, n4, n5⟩ := hc
     exact hk c o n1 n3 n4 n5 e
 self := fun _ _ _ _ _ st h => wpAny_pyIter_zip st.1 h
noncomputable def iZip (K : PySem.W.Frag) (ta : TA) : TI := fun σ H R => ta σ H fun vs H1 => ∃ a b, vs = [.ref a, .ref b] ∧ (∃ xs, SqL K H1 a xs) ∧ (∃ ys, SqL K H1 b ys) ∧ R (Itz K a b) H1
theorem boot_zipT : bootBuiltins "zip" = some (.type "zip") := by decide +kernel
theorem pi_zip {X : Cx} {K : PySem.W.Frag} {es : List Expr} {x1 : Nat} {tpos : Pos} {a b : Expr} {ta : TA} {p pos : Pos} (hg : Gl X "zip") (hm : X.mg "zip" = none) (ha : PA X [a, b] ta) (hK : X.K = K := by rfl) (hs : starEach [a, b] X.env = [(false, eval a X.env), (false, eval b X.env)] := by rfl) (hs2 : starEach [b] X.env = [(false, eval b X.env)] := by rfl) :
   PI X (.Tuple es x1 tpos) (.Call (.Name "zip" p) [a, b] [] pos) (iZip K ta) := by
 subst hK
 intro pins s σ H R I h
 refine Call_ (ld_blt I hg hm boot_zipT (PyProof.Rows.callWith_type1 (thn (ha pos pins s σ H _ I h) fun us s1 ⟨vs, H1, I1, r1, q1⟩ => ?_) (by rw [hs, hs2]) (by rw [hs2]; rfl)))
 obtain ⟨la, lb, e, ⟨xs, hqa⟩, ⟨ys, hqb⟩, q⟩ := q1
 subst e
 cases r1 with
 | cons ra rr =>
   cases rr with
   | cons rb rr =>
     cases rr
     cases ra
     cases rb
     obtain ⟨ia, _, pa, _⟩ := I1.list hqa
     obtain ⟨ib, _, pb, _⟩ := I1.list hqb
     have a1 : la < s1.heap.objs.size := by obtain ⟨_, e, _⟩ := pa.isList; exact Heap.lt_size e
     have a2 : lb < s1.heap.objs.size := by obtain ⟨_, e, _⟩ := pb.isList; exact Heap.lt_size e
     refine call_zip_2 pa.isList pb.isList fun h' hz hTI hTO hi1 hi2 hsz hk => ?_
     refine wpAny_pyIter_zip hz ⟨s1.heap.objs.size + 4, [s1.heap.objs.size + 4, s1.heap.objs.size + 2, s1.heap.objs.size + 3, s1.heap.objs.size, s1.heap.objs.size + 1], _, _, H1, rfl, I1.kept (t' := s1.toks) hk, turn_zip la lb _ _ _ _ _ (zipApart_new a1 a2), ⟨hz, hTI, ⟨_, _, hTO⟩, hi1, hi2⟩, fun c hc => ?_, q⟩
     have lc : s1.heap.objs.size ≤ c := by
       simp only [List.mem_cons, List.not_mem_nil, or_false] at hc
       rcases hc with rfl | rfl | rfl | rfl | rfl
       · exact Nat.le_add_right _ _
       · exact Nat.le_add_right _ _
       · exact Nat.le_add_right _ _
       · exact Nat.le_refl _
       · exact Nat.le_add_right _ _
     exact I1.fpOk lc (I1.hok.fresh lc)
section
variable {g : TG} {tc : TT} {te : TE} {D : Addr} {Q : Hp → Prop} {τ : St} {H : Hp}
theorem comp_zip {K : PySem.W.Frag} {a b : Addr} {xs ys : List V} {n : Nat} (hn : n = min xs.length ys.length) (Pv : Nat → List V → St → Hp → Prop) (h0 : Pv 0 [] τ H) (hl : ∀ i zs τ H, i ≤ n → Pv i zs τ H → SqL K H a xs ∧ SqL K H b ys)
   (hs : ∀ i x y zs τ H p, xs[i]? = some x → ys[i]? = some y → Pv i zs τ H → H p = none → g (.ref p) τ (upd H p (.tup [x, y])) fun τ2 H2 => tc τ2 H2 fun b H3 => if b = true then te τ2 H3 fun y H4 => H4 D = some (.lst zs) ∧ zs.length < sizeLine ∧ Pv (i + 1) (zs ++ [y]) τ2 (upd H4 D (.lst (zs ++ [y]))) else Pv (i + 1) zs τ2 H3)
   (hd : ∀ zs τ H, Pv n zs τ H → Q H) : RunC (Itz K a b) g tc te D Q τ H := by
 refine ⟨fun i m zs τ H => m = n - i ∧ i ≤ n ∧ Pv i zs τ H, ⟨n, by simp, Nat.zero_le _, h0⟩, ?_⟩
 rintro i m zs τ H ⟨rfl, hi, pp⟩
 obtain ⟨qa, qb⟩ := hl i zs τ H hi pp
 by_cases hlt : i < n
 · refine .inr ⟨⟨xs, ys, xs[i], ys[i], qa, qb, by simp <;> omega, by simp <;> omega⟩, Pv (i + 1), fun ys' τ' H' p' => ⟨n - (i + 1), by omega, rfl, hlt, p'⟩, fun x H' y => ?_⟩
   obtain ⟨p, u, v, hp, rfl, rfl, y1, y2⟩ := y
   exact hs i u v zs τ _ p (y1 xs qa) (y2 ys qb) pp hp
 · have e : i = n := by omega
   subst e
   exact .inl ⟨⟨xs, ys, qa, qb, by omega⟩, hd zs τ H pp⟩
theorem for_zip {K : PySem.W.Frag} {a b : Addr} {xs ys : List V} {n : Nat} {g : TG} {tb : TS} {D : Ends} {σ : St} {H : Hp} (hn : n = min xs.length ys.length) (Pv : Nat → St → Hp → Prop) (h0 : Pv 0 σ H) (hl : ∀ i σ H, i ≤ n → Pv i σ H → SqL K H a xs ∧ SqL K H b ys)
   (hs : ∀ i x y σ H p, xs[i]? = some x → ys[i]? = some y → Pv i σ H → H p = none → g (.ref p) σ (upd H p (.tup [x, y])) fun σ2 H2 => tb { D with nx := Pv (i + 1), ct := Pv (i + 1), bk := D.nx } σ2 H2) (hd : ∀ σ H, Pv n σ H → D.nx σ H) :
   ∃ W : Nat → Nat → St → Hp → Prop, (∃ m, W 0 m σ H) ∧ ∀ i m σ H, W i m σ H →
     ((Itz K a b).stop i H ∧ D.nx σ H) ∨ ((Itz K a b).go i H ∧ ∃ N : St → Hp → Prop, (∀ σ' H', N σ' H' → ∃ m', m' < m ∧ W (i + 1) m' σ' H') ∧ ∀ x H', (Itz K a b).yld i H x H' → g x σ H' fun σ2 H2 => tb { D with nx := N, ct := N, bk := D.nx } σ2 H2) := by
 refine ⟨fun i m σ H => m = n - i ∧ i ≤ n ∧ Pv i σ H, ⟨n, by simp, Nat.zero_le _, h0⟩, ?_⟩
 rintro i m σ H ⟨rfl, hi, pp⟩
 obtain ⟨qa, qb⟩ := hl i σ H hi pp
 by_cases hlt : i < n
 · refine .inr ⟨⟨xs, ys, xs[i], ys[i], qa, qb, by simp <;> omega, by simp <;> omega⟩, Pv (i + 1), fun σ' H' p' => ⟨n - (i + 1), by omega, rfl, hlt, p'⟩, fun x H' y => ?_⟩
   obtain ⟨p, u, v, hp, rfl, rfl, y1, y2⟩ := y
   exact hs i u v σ _ p (y1 xs qa) (y2 ys qb) pp hp
 · have e : i = n := by omega
   subst e
   exact .inl ⟨⟨xs, ys, qa, qb, by omega⟩, hd σ H pp⟩
end
theorem op_mulX {X : Cx} : OpR X (binaryOp .Mult) (rI IntMulOk fun i j => .int (i * j)) := opI fun _ _ _ _ _ _ _ hc q => mul_int q hc
theorem mulokL {i j : Int} (h1 : -(2 ^ 64) < i) (h2 : i < 2 ^ 64) : IntMulOk i j := CMul.ok (.inl ⟨h1, h2⟩)
theorem mulokR {i j : Int} (h1 : -(2 ^ 64) < j) (h2 : j < 2 ^ 64) : IntMulOk i j := CMul.ok (.inr ⟨h1, h2⟩)
end L2
namespace L2
open PySem PySem.W PySem.Calls PyProof.Rows
end L2
namespace L2
open PySem PySem.Spec PyProof.Rows
section
variable {X : Cx} {pins : List (Addr × Obj)} {σ : St} {H : Hp} {s : Shared} {a : Addr} {kvs : List (Key × V)}
theorem Inv.freeze (I : Inv X pins σ H s) (e : H a = some (.dK kvs)) : ∃ o, Inv X pins σ (upd H a (.frz o (.dK kvs))) s := by
 obtain ⟨z, y, vs, r, o, es, ep, ho, c⟩ := id (I.hok a _ e)
 refine ⟨o, ?_⟩
 have ne : ∀ b u, H b = some u → u ≠ .dK kvs → b ≠ a := fun b u q n z => by rw [z, e] at q; exact n (Option.some.inj q).symm
 have up : ∀ b u, H b = some u → u ≠ .dK kvs → upd H a (.frz o (.dK kvs)) b = some u := fun b u q n => by rw [upd_ne (ne b u q n)]; exact q
 refine I.step (g' := s.gens) (t' := s.toks) (d' := s.drawn) (h' := s.heap) (H' := upd H a (.frz o (.dK kvs))) (ch := []) (fun _ q => nomatch q) (fun b ob _ _ _ q _ => q) (fun b ob _ _ _ q _ => ⟨ob.slots, q⟩) (fun b ob _ q n => by rw [upd_ne (fun z => by rw [z, e] at n; cases n)]; exact n) (fun b ob _ q => ⟨ob, q⟩)
   (fun b xs q => up b _ q (by intro z; cases z)) (fun b ob u q => up b _ q (by intro z; cases z)) (fun b ps q => ⟨#[], by rw [up b _ q (by intro z; cases z)]; simp⟩) (fun m q => q) (fun b u q => ?_) I.bare
 by_cases hb : b = a
 · subst hb
   rw [upd_same] at q
   cases q
   exact ⟨ho, (I.hok b _ e).stay (fun _ _ _ q => q) (fun c q => up c _ q (by intro z; cases z)) fun c xs q => up c _ q (by intro z; cases z)⟩
 · rw [upd_ne hb] at q
   exact (I.hok b u q).stay (fun _ _ _ q => q) (fun c q => up c _ q (by intro z; cases z)) fun c xs q => up c _ q (by intro z; cases z)
theorem Inv.thaw {o : Obj} (I : Inv X pins σ H s) (e : H a = some (.frz o (.dK kvs))) (hb : ∀ ob u, X.H₀ a ≠ some (.frz ob u)) : Inv X pins σ (upd H a (.dK kvs)) s := by
 have ne : ∀ b u, H b = some u → u ≠ .frz o (.dK kvs) → b ≠ a := fun b u q n z => by rw [z, e] at q; exact n (Option.some.inj q).symm
 have up : ∀ b u, H b = some u → u ≠ .frz o (.dK kvs) → upd H a (.dK kvs) b = some u := fun b u q n => by rw [upd_ne (ne b u q n)]; exact q
 have no : ∀ b, H b = none → upd H a (.dK kvs) b = none := fun b n => by rw [upd_ne (fun z => by rw [z, e] at n; cases n)]; exact n
 refine ⟨I.ok, I.os, I.bare, ⟨I.base.keep, I.base.slot, fun b ob q n x => no b (I.base.free b ob q n x), I.base.there, fun b xs q => up b _ (I.base.tups b xs q) (by intro z; cases z), fun b ob u q => ?_, fun b ps q => ?_⟩, I.loc, I.cell, no _ I.free, fun x c q => no _ (I.freeC x c q), fun p hp => ?_, fun b u q => ?_, I.len⟩
 · have hne : b ≠ a := fun z => hb ob u (z ▸ q)
   rw [upd_ne hne]
   exact I.base.frzs b ob u q
 · obtain ⟨m, q'⟩ := I.base.tbls b ps q
   exact ⟨m, up b _ q' (by intro z; cases z)⟩
 · obtain ⟨p1, p2, p3⟩ := I.pin p hp
   exact ⟨p1, no _ p2, p3⟩
 · by_cases hba : b = a
   · subst hba
     rw [upd_same] at q
     cases q
     obtain ⟨_, q'⟩ := I.hok b _ e
     exact q'.stay (fun _ _ _ q => q) (fun c q => up c _ q (by intro z; cases z)) fun c xs q => up c _ q (by intro z; cases z)
   · rw [upd_ne hba] at q
     exact (I.hok b u q).stay (fun _ _ _ q => q) (fun c q => up c _ q (by intro z; cases z)) fun c xs q => up c _ q (by intro z; cases z)
theorem Inv.notfrz (I : Inv X pins σ H s) (e : H a = some (.dK kvs)) : ∀ ob u, X.H₀ a ≠ some (.frz ob u) := fun ob u q => by
 have := I.base.frzs a ob u q
 rw [e] at this
 cases this
theorem Inv.nodupK (I : Inv X pins σ H s) (e : Rd H a (.dK kvs)) : (kvs.map (·.1)).Nodup := by
 obtain ⟨z, hd, vs, rel, o, es, ep, _, _, _, _, _, hn⟩ := dk_rd I.hok e
 rw [rel.keys]
 exact hn
end
noncomputable def tFrz (t : TE) : TE := fun σ H Q => t σ H Q ∨ ∃ (a : Addr) (kvs : List (Key × V)), H a = some (.dK kvs) ∧ ((kvs.map (·.1)).Nodup → ∀ o : Obj, t σ (upd H a (.frz o (.dK kvs))) fun v H' => H' a = some (.frz o (.dK kvs)) ∧ Q v (upd H' a (.dK kvs)))
noncomputable def sFrz (t : TS) : TS := fun D σ H => t D σ H ∨ ∃ (a : Addr) (kvs : List (Key × V)), H a = some (.dK kvs) ∧ ((kvs.map (·.1)).Nodup → ∀ o : Obj, t ⟨fun σ' H' => H' a = some (.frz o (.dK kvs)) ∧ D.nx σ' (upd H' a (.dK kvs)), fun v H' => H' a = some (.frz o (.dK kvs)) ∧ D.rt v (upd H' a (.dK kvs)),
 fun σ' H' => H' a = some (.frz o (.dK kvs)) ∧ D.bk σ' (upd H' a (.dK kvs)), fun σ' H' => H' a = some (.frz o (.dK kvs)) ∧ D.ct σ' (upd H' a (.dK kvs))⟩ σ (upd H a (.frz o (.dK kvs))))
theorem pe_frz {X : Cx} {e : Expr} {t : TE} (h : PE X e t) : PE X e (tFrz t) := by
 intro pins s σ H Q I hw
 rcases hw with hw | ⟨a, kvs, ea, hw⟩
 · exact h pins s σ H Q I hw
 · obtain ⟨o, I'⟩ := I.freeze ea
   have hb := I.notfrz ea
   refine thn (h pins s σ _ _ I' (hw (I.nodupK (.inl ea)) o)) fun u s' ⟨v, H', I2, r, e2, q⟩ => ⟨v, _, I2.thaw e2 hb, r, q⟩
theorem ps_frz {X : Cx} {st : Stmt} {t : TS} (h : PS X st t) : PS X st (sFrz t) := by
 intro pins s σ H D I hw
 rcases hw with hw | ⟨a, kvs, ea, hw⟩
 · exact h pins s σ H D I hw
 · obtain ⟨o, I'⟩ := I.freeze ea
   have hb := I.notfrz ea
   refine thn (h pins s σ _ _ I' (hw (I.nodupK (.inl ea)) o)) fun f s' hq => ?_
   cases f with
   | next => obtain ⟨σ', H', I2, e2, q⟩ := hq; exact ⟨σ', _, I2.thaw e2 hb, q⟩
   | brk => obtain ⟨σ', H', I2, e2, q⟩ := hq; exact ⟨σ', _, I2.thaw e2 hb, q⟩
   | cont => obtain ⟨σ', H', I2, e2, q⟩ := hq; exact ⟨σ', _, I2.thaw e2 hb, q⟩
   | ret u => obtain ⟨v, σ', H', I2, r, e2, q⟩ := hq; exact ⟨v, σ', _, I2.thaw e2 hb, r, q⟩
theorem frz_at {X : Cx} {pins : List (Addr × Obj)} {σ : St} {H : Hp} {s : Shared} {a : Addr} {kvs : List (Key × V)} {o : Obj} (I : Inv X pins σ H s) (e : H a = some (.frz o (.dK kvs))) :
   s.heap.get? a = some o ∧ (a == sysModules) = false ∧ kvs.length ≤ sizeLine ∧ ∃ vs es ep, KV kvs vs ∧ o.data = .dict es ep ∧ es.size = kvs.length ∧ o.ExactDict ∧ s.heap.DictAt (mixKind X.prog X.w) a vs ep := by
 obtain ⟨ho, z, y, vs, r, o', es, ep, ho', ex, hd, hk, hp, hn⟩ := I.hok a _ e
 rw [ho] at ho'
 cases ho'
 refine ⟨ho, y, z, vs, es, ep, r, hd, ?_, ex, ⟨o, es, ho, ex, hd, hk, hp, hn⟩⟩
 rw [r.length, ← hp.length]
 simp
theorem KV.getV : ∀ {kvs : List (Key × V)} {vs : List (Key × Value)} {i : Nat} {k : Key} {v : V}, KV kvs vs → kvs[i]? = some (k, v) → ∃ u, vs[i]? = some (k, u) ∧ RelV v u
 | _, _, i, k, v, .nil, e => by simp at e
 | _, _, 0, k, v, .cons (b := q) r t, e => by
   simp only [List.getElem?_cons_zero, Option.some.injEq] at e
   subst e
   obtain ⟨k', u⟩ := q
   have e1 : k = k' := r.1
   subst e1
   exact ⟨u, by simp, r.2⟩
 | _, _, i + 1, k, v, .cons r t, e => by
   obtain ⟨u, e1, e2⟩ := KV.getV (i := i) t (by simpa using e)
   exact ⟨u, by simpa using e1, e2⟩
theorem is_kV {P : Program} {w : World} {k : Key} {u : Value} (h : (mixKind P w).is k u = true) : RelV (kV k) u := by
 rcases keyIs_shape h with ⟨i, t, rfl, rfl⟩ | ⟨x, t, rfl, rfl⟩
 · exact ⟨t, rfl⟩
 · exact ⟨t, rfl⟩
noncomputable def Itm (d : Addr) (o : Obj) : It :=
 ⟨fun i H => ∃ kvs k v, H d = some (.frz o (.dK kvs)) ∧ kvs[i]? = some (k, v),
  fun i H x H' => ∃ p k v, H p = none ∧ x = .ref p ∧ H' = upd H p (.tup [kV k, v]) ∧ ∀ kvs, H d = some (.frz o (.dK kvs)) → kvs[i]? = some (k, v),
  fun i H => ∃ kvs, H d = some (.frz o (.dK kvs)) ∧ kvs.length ≤ i⟩
theorem pyIter_itemiter {prog : Program} {w : World} {A : Around} {E : Value → Shared → Prop} {s : Shared} {it d : Addr} {i n ep : Nat} {ok ov : Value} {Q : Value → Shared → Prop} (hit : IsItemIter s.heap it d i n ep ok ov) (h : Q (.ref it) s) : wpAny (model prog w) A (pyIter (.ref it)) Q E s := by
 have hT : s.TypeIs (.ref it) "dict_itemiterator" := ⟨_, hit, rfl⟩
 refine wpAny_pyIter_slot hT PySem.F.slot_dict_itemiterator_iter (wpAny_call_entry PySem.F.slot_dict_itemiterator_iter hT (entryFor_alias (id' := "dict_keyiterator.__iter__") (by kernel_rfl) rfl (by decide +kernel) (by kernel_rfl) : entryFor table "dict_itemiterator.__iter__" = some Builtin.«dict_keyiterator.__iter__») ?_ (PySem.F.args_dict_itemiterator_iter_1 _))
 show wpAny _ _ (ret (.ref it)) _ _ s
 exact wpAny_pure ⟨_, rfl, "dict_itemiterator", _, hT, PySem.F.slot_dict_itemiterator_next.lookup, h⟩
theorem turn_items {P : Program} {w : World} {K : PySem.W.Frag} {tes : List Expr} {x1 : Nat} {tpos : Pos} (d it : Addr) (o : Obj) {es : Array DictEntry} {ep : Nat} (hd : o.data = .dict es ep) :
   Turn P w K (.Tuple tes x1 tpos) (Itm d o) [it] it (fun i h => ∃ ok ov, IsItemIter h it d i es.size ep ok ov) where
 mem := by simp
 obj := fun i h st b hb => by
   obtain ⟨ok, ov, h1⟩ := st
   have z : b = it := by simpa using hb
   subst z
   exact ⟨_, h1, fun v q => by cases (show Data.fields _ = Data.cell v from q)⟩
 keep := fun i h h' st k => by
   obtain ⟨ok, ov, h1⟩ := st
   exact ⟨ok, ov, k it (by simp) _ h1⟩
 item := by
   intro X hP hw hK hc i pins s σ H E I hf st hg
   subst hP hw hK
   obtain ⟨ok, ov, hit⟩ := st
   obtain ⟨kvs, k, v, hz, hx⟩ := hg
   obtain ⟨ho, hsys, hl, vs, es', ep', rel, hd', hsz, ex, hm⟩ := frz_at I hz
   rw [hd] at hd'
   cases hd'
   obtain ⟨u, hu, ru⟩ := rel.getV hx
   have hn : es.size = vs.length := by rw [hsz, rel.length]
   have fi := hf it (by simp)
   have lti : it < s.heap.objs.size := Heap.lt_size hit
   have hfresh : H s.heap.objs.size = none := I.hok.fresh (Nat.le_refl _)
   rw [hn] at hit
   refine wpAny_pyNext_items_item hit hm hu fun key h' hkey hout htup hsz' hk => ?_
   refine ⟨_, rfl, wpAny_letOwnedTupleGo_items hout fun h3 hen hsb => ?_⟩
   replace hsb : Heap.SameBut it h' h3 := hsb
   have kk : ∀ b ob, b ∉ [it] → s.heap.get? b = some ob → h3.get? b = some ob := fun b ob n z => by
     have n1 : b ≠ it := by simpa using n
     exact (hsb.2 b n1).trans (hk b ob n1 z)
   have ht3 : h3.get? s.heap.objs.size = some { cls := .type "tuple", data := .seq #[key, u] } := (hsb.2 _ (Nat.ne_of_gt lti)).trans htup
   have ntr : ∀ c ob, H c = some ob → c ∉ [it] := fun c ob e hm => by rw [(hf c hm).1] at e; cases e
   have nsz : ∀ b ob, H b = some ob → b ≠ s.heap.objs.size := fun b ob z => ne_of_none z hfresh
   refine ⟨.ref s.heap.objs.size, upd H s.heap.objs.size (.tup [kV k, v]), ?_, rfl, ⟨s.heap.objs.size, k, v, hfresh, rfl, rfl, fun kvs' q => by rw [hz] at q; cases q; exact hx⟩, ⟨_, _, by rw [hn]; exact hen⟩, fun b hb => ?_⟩
   · refine Inv.step (s := s) (h' := h3) (t' := s.toks) (H' := upd H s.heap.objs.size (.tup [kV k, v])) I (g' := s.gens) (d' := s.drawn) (ch := [it]) (fun b hb => ?_) (fun b ob _ _ hb z _ => kk b ob hb z) (fun b ob _ _ hb z _ => ⟨ob.slots, kk b ob hb z⟩) (fun b ob hb z n => ?_) (fun b ob hb z => ⟨ob, kk b ob hb z⟩)
       (fun b ys z => by rw [upd_ne (nsz b _ z)]; exact z) (fun b ob w' z => by rw [upd_ne (nsz b _ z)]; exact z) (fun b ps z => ⟨#[], by rw [upd_ne (nsz b _ z), z]; simp⟩) (fun m hm => ?_) (fun b w' z => ?_) I.bare
     · have f := hf b hb
       exact ⟨f.2.2.2.1, f.2.1, f.2.2.2.2.1, f.2.2.2.2.2⟩
     · rw [upd_ne (Nat.ne_of_lt (Heap.lt_size z))]
       exact n
     · obtain ⟨ob, es', ep', hob, r⟩ := hm
       exact ⟨ob, es', ep', kk _ ob (fun q => (hf _ q).2.1 rfl) hob, r⟩
     · by_cases hb : b = s.heap.objs.size
       · subst hb
         rw [upd_same] at z
         cases z
         exact ⟨(by show (2 : Nat) ≤ sizeLine; decide), [key, u], .cons (is_kV hkey) (.cons ru .nil), ⟨_, ht3, rfl, rfl, _, rfl⟩⟩
       · rw [upd_ne hb] at z
         refine (I.hok b w' z).stay (fun c y hc' q => ?_) (fun c q => by rw [upd_ne (nsz c _ q)]; exact q) fun c ys q => by rw [upd_ne (nsz c _ q)]; exact q
         rcases hc' with rfl | hc'
         · exact kk _ _ (ntr _ _ z) q
         · exact kk _ _ (ntr _ _ hc') q
   · have z : b = it := by simpa using hb
     subst z
     rw [upd_ne (Nat.ne_of_lt lti)]
     exact (hf b hb).1
 done := by
   intro X hP hw hK hc i pins s σ H E I hf st hg
   subst hP hw hK
   obtain ⟨ok, ov, hit⟩ := st
   obtain ⟨kvs, hz, hx⟩ := hg
   obtain ⟨ho, hsys, hl, vs, es', ep', rel, hd', hsz, ex, hm⟩ := frz_at I hz
   rw [hd] at hd'
   cases hd'
   have hn : es.size = vs.length := by rw [hsz, rel.length]
   have hl2 := rel.length
   rw [hn] at hit
   exact wpAny_pyNext_items_end (I.ok.hd hc) hit hm (by simp; omega) fun h' eb => ⟨rfl, I.turnedN (t' := s.toks) (fp := [it]) (fun b ob hb z => eb b ob (by simpa using hb) z) hf⟩
 self := fun _ _ _ _ _ st h => by
   obtain ⟨ok, ov, hit⟩ := st
   exact pyIter_itemiter hit h
noncomputable def iItems (td : TE) : TI := fun σ H R => td σ H fun x H1 => ∃ d o kvs, x = .ref d ∧ H1 d = some (.frz o (.dK kvs)) ∧ R (Itm d o) H1
theorem pi_items {X : Cx} {tes : List Expr} {x1 : Nat} {tpos apos cpos : Pos} {e : Expr} {td : TE} (he : PE X e td)
   (hbase : attributeBase e "items" X.env (eval e X.env) = eval e X.env := by rfl) (hline : (apos.endLine == cpos.line) = true := by rfl) : PI X (.Tuple tes x1 tpos) (.Call (.Attribute e "items" apos) [] [] cpos) (iItems td) := by
 intro pins s σ H R I h
 refine wpAny_Call_method0_late hbase hline (thn (he pins s σ H _ I h) fun v s1 ⟨x, H1, I1, r1, d, o, kvs, ex, hz, q⟩ => ?_)
 subst ex
 obtain rfl : v = Value.ref d := r1
 obtain ⟨ho, hsys, hl, vs, es, ep, rel, hd, hsz, exd, hm⟩ := frz_at I1 hz
 refine ⟨"dict", "dict.items", PySem.F.plainAttrs_dict, PySem.F.slot_dict_items, PySem.F.type_dict_items, ⟨o, ho, exd.1⟩, fun b e => by cases e; exact ⟨o, ho, exd.2.1⟩, Calls.callWith_builtin rfl (PySem.evalArgs_none ?_)⟩
 refine call_meetsIn PySem.F.slot_dict_items hm.dictOf.typeIs PySem.F.entry_dict_items (PySem.F.args_dict_items_1 _) (meets_dict_items (mixKind X.prog X.w) d hsys) ⟨⟨vs, hm.dictOf⟩, ?_⟩
 have I2 : Inv X pins σ H1 { s1 with heap := s1.heap.push { cls := .type "dict_items", data := .fields #[.ref d] } } := I1.kept (t' := s1.toks) fun b ob z => Heap.get?_push_of_some _ z
 have hm2 := hm.push { cls := .type "dict_items", data := .fields #[.ref d] }
 refine wpAny_pyIter_items (s := { s1 with heap := s1.heap.push { cls := .type "dict_items", data := .fields #[.ref d] } }) (v := s1.heap.objs.size) (d := d) ⟨_, Heap.get?_push_size _ rfl, rfl, rfl⟩ hm2 ?_
 have hsz2 : (s1.heap.push { cls := .type "dict_items", data := .fields #[.ref d] }).objs.size = s1.heap.objs.size + 1 := Heap.size_push ..
 refine ⟨_, [_], _, Itm d o, H1, rfl, I2.kept (t' := s1.toks) fun b ob z => Heap.get?_push_of_some _ z, turn_items d _ o hd, ⟨.none, .none, ?_⟩, fun b hb => ?_, q⟩
 · rw [hsz, rel.length]
   exact Heap.get?_push_size _ rfl
 · have z : b = (s1.heap.push { cls := .type "dict_items", data := .fields #[.ref d] }).objs.size := by simpa using hb
   subst z
   exact I2.fpOk (Nat.le_refl _) (I2.hok.fresh (Nat.le_refl _))
section
variable {g : TG} {tc : TT} {te : TE} {D : Addr} {Q : Hp → Prop} {τ : St} {H : Hp}
theorem comp_items {d : Addr} {o : Obj} {kvs : List (Key × V)} (Pv : Nat → List V → St → Hp → Prop) (h0 : Pv 0 [] τ H) (hl : ∀ i zs τ H, i ≤ kvs.length → Pv i zs τ H → H d = some (.frz o (.dK kvs)))
   (hs : ∀ i k v zs τ H p, kvs[i]? = some (k, v) → Pv i zs τ H → H p = none → g (.ref p) τ (upd H p (.tup [kV k, v])) fun τ2 H2 => tc τ2 H2 fun b H3 => if b = true then te τ2 H3 fun y H4 => H4 D = some (.lst zs) ∧ zs.length < sizeLine ∧ Pv (i + 1) (zs ++ [y]) τ2 (upd H4 D (.lst (zs ++ [y]))) else Pv (i + 1) zs τ2 H3)
   (hd : ∀ zs τ H, Pv kvs.length zs τ H → Q H) : RunC (Itm d o) g tc te D Q τ H := by
 refine ⟨fun i m zs τ H => m = kvs.length - i ∧ i ≤ kvs.length ∧ Pv i zs τ H, ⟨kvs.length, by simp, Nat.zero_le _, h0⟩, ?_⟩
 rintro i m zs τ H ⟨rfl, hi, pp⟩
 have q := hl i zs τ H hi pp
 by_cases hlt : i < kvs.length
 · refine .inr ⟨⟨kvs, kvs[i].1, kvs[i].2, q, by simp [hlt]⟩, Pv (i + 1), fun ys' τ' H' p' => ⟨kvs.length - (i + 1), by omega, rfl, hlt, p'⟩, fun x H' y => ?_⟩
   obtain ⟨p, k, v, hp, rfl, rfl, y⟩ := y
   exact hs i k v zs τ _ p (y kvs q) pp hp
 · have e : i = kvs.length := by omega
   subst e
   exact .inl ⟨⟨kvs, q, Nat.le_refl _⟩, hd zs τ H pp⟩
theorem for_items {d : Addr} {o : Obj} {kvs : List (Key × V)} {g : TG} {tb : TS} {D : Ends} {σ : St} {H : Hp} (Pv : Nat → St → Hp → Prop) (h0 : Pv 0 σ H) (hl : ∀ i σ H, i ≤ kvs.length → Pv i σ H → H d = some (.frz o (.dK kvs)))
   (hs : ∀ i k v σ H p, kvs[i]? = some (k, v) → Pv i σ H → H p = none → g (.ref p) σ (upd H p (.tup [kV k, v])) fun σ2 H2 => tb { D with nx := Pv (i + 1), ct := Pv (i + 1), bk := D.nx } σ2 H2) (hd : ∀ σ H, Pv kvs.length σ H → D.nx σ H) :
   ∃ W : Nat → Nat → St → Hp → Prop, (∃ m, W 0 m σ H) ∧ ∀ i m σ H, W i m σ H →
     ((Itm d o).stop i H ∧ D.nx σ H) ∨ ((Itm d o).go i H ∧ ∃ N : St → Hp → Prop, (∀ σ' H', N σ' H' → ∃ m', m' < m ∧ W (i + 1) m' σ' H') ∧ ∀ x H', (Itm d o).yld i H x H' → g x σ H' fun σ2 H2 => tb { D with nx := N, ct := N, bk := D.nx } σ2 H2) := by
 refine ⟨fun i m σ H => m = kvs.length - i ∧ i ≤ kvs.length ∧ Pv i σ H, ⟨kvs.length, by simp, Nat.zero_le _, h0⟩, ?_⟩
 rintro i m σ H ⟨rfl, hi, pp⟩
 have q := hl i σ H hi pp
 by_cases hlt : i < kvs.length
 · refine .inr ⟨⟨kvs, kvs[i].1, kvs[i].2, q, by simp [hlt]⟩, Pv (i + 1), fun σ' H' p' => ⟨kvs.length - (i + 1), by omega, rfl, hlt, p'⟩, fun x H' y => ?_⟩
   obtain ⟨p, k, v, hp, rfl, rfl, y⟩ := y
   exact hs i k v σ _ p (y kvs q) pp hp
 · have e : i = kvs.length := by omega
   subst e
   exact .inl ⟨⟨kvs, q, Nat.le_refl _⟩, hd σ H pp⟩
end
end L2
namespace L2
open PySem PySem.Spec PyProof.Rows PySem.SeqAt
theorem nodup_cK {ms : List (Int × Int)} : ((cK ms).map (·.1)).Nodup ↔ (ms.map (·.1)).Nodup := by
 unfold cK List.Nodup
 rw [List.map_map, List.pairwise_map, List.pairwise_map]
 constructor
 · intro h; exact h.imp fun {a b} n z => n (by simp [z])
 · intro h; exact h.imp fun {a b} n z => n (by simpa using z)
section
variable {X : Cx} {pins : List (Addr × Obj)} {σ : St} {H : Hp} {s : Shared} {a : Addr} {ms : List (Int × Int)}
end
section
variable {X : Cx} {n : Nat} {K : PySem.W.Frag}
end
end L2
namespace L2
open PySem PySem.Spec PyProof.Rows
theorem call_dictC {X : Cx} : CallR X (.type "dict") (fun xs H Q => ∃ a kvs, xs = [.ref a] ∧ Rd H a (.dK kvs) ∧ ∀ p, H p = none → Q (.ref p) (upd H p (.dK kvs))) := by
 intro pins s σ H xs us Q I r h
 obtain ⟨a, kvs, rfl, e, q⟩ := h
 obtain ⟨u, rfl, rx⟩ := vals1 r
 cases rx
 exact d_copyOf I e fun p s' hp I' => ⟨.ref p, _, I', rfl, q p hp⟩
theorem u1 {n c : Nat} (h : n + 8 < c) : n + 1 < c := by omega
noncomputable def getI (ms : List (Int × Int)) (k : Int) : Int := (lookI ms k).getD 0
noncomputable def putI (ms : List (Int × Int)) (k v : Int) : List (Int × Int) := if (ms.any fun p => decide (p.1 = k)) = true then ms.map (fun p => if p.1 = k then (p.1, v) else p) else ms ++ [(k, v)]
noncomputable def dropI (ms : List (Int × Int)) (k : Int) : List (Int × Int) := ms.filter fun p => decide (p.1 ≠ k)
theorem cK_put (ms : List (Int × Int)) (k v : Int) : putK (cK ms) (Sum.inl k) (V.int v) = cK (putI ms k v) := by
 unfold putK putI cK
 have e : ((ms.map fun p => ((Sum.inl p.1 : Key), V.int p.2)).any fun kv => decide (kv.1 = Sum.inl k)) = (ms.any fun p => decide (p.1 = k)) := by
   rw [List.any_map]
   congr 1
   funext p
   simp
 rw [e]
 split
 · rw [List.map_map, List.map_map]
   congr 1
   funext p
   simp only [Function.comp]
   by_cases q : p.1 = k
   · simp [q]
   · have q' : ¬ (Sum.inl p.1 : Key) = Sum.inl k := fun z => q (by simpa using z)
     simp [q]
 · simp
theorem cK_drop (ms : List (Int × Int)) (k : Int) : dropK (cK ms) (Sum.inl k) = cK (dropI ms k) := by
 unfold dropK dropI cK
 rw [List.filter_map]
 congr 1
 congr 1
 funext p
 simp
theorem cK_val (ms : List (Int × Int)) (k : Int) : valV (cK ms) (Sum.inl k) = (lookI ms k).map V.int := by
 unfold lookI cK valV
 rw [List.find?_map, Option.map_map, Option.map_map]
 have e : ((fun p : Key × V => decide (p.1 = Sum.inl k)) ∘ fun p : Int × Int => ((Sum.inl p.1 : Key), V.int p.2)) = fun p : Int × Int => decide (p.1 = k) := by
   funext p
   simp
 rw [e]
 rfl
theorem cK_getD (ms : List (Int × Int)) (k : Int) : ((lookI ms k).map V.int).getD (V.int 0) = V.int (getI ms k) := by
 unfold getI
 cases lookI ms k <;> rfl
theorem lookI_cons (p : Int × Int) (ms : List (Int × Int)) (k : Int) : lookI (p :: ms) k = if p.1 = k then some p.2 else lookI ms k := by
 unfold lookI
 by_cases q : p.1 = k
 · rw [List.find?_cons_of_pos (by simpa using q), if_pos q]; rfl
 · rw [List.find?_cons_of_neg (by simpa using q), if_neg q]
theorem lookI_put (ms : List (Int × Int)) (k v j : Int) : lookI (putI ms k v) j = if j = k then some v else lookI ms j := by
 have hs : ∀ (ns : List (Int × Int)), lookI (ns.map (fun p => if p.1 = k then (p.1, v) else p)) j = if j = k then (lookI ns j).map (fun _ => v) else lookI ns j := by
   intro ns
   induction ns with
   | nil => simp [lookI]
   | cons p ns ih =>
     rw [List.map_cons, lookI_cons, lookI_cons, ih]
     by_cases e1 : p.1 = k
     · by_cases e2 : j = k
       · simp [e1, e2]
       · have e3 : ¬ k = j := fun z => e2 z.symm
         simp [e1, e2, e3]
     · by_cases e2 : j = k
       · simp [e1, e2]
       · simp [e1, e2]
 have hn : ∀ (ns : List (Int × Int)), (ns.any fun p => decide (p.1 = k)) = (lookI ns k).isSome := by
   intro ns
   induction ns with
   | nil => rfl
   | cons p ns ih =>
     rw [List.any_cons, lookI_cons, ih]
     by_cases e1 : p.1 = k <;> simp [e1]
 have ha : ∀ (ns : List (Int × Int)), lookI (ns ++ [(k, v)]) j = (lookI ns j).or (if k = j then some v else none) := by
   intro ns
   induction ns with
   | nil => simp [lookI_cons, lookI]
   | cons p ns ih =>
     rw [List.cons_append, lookI_cons, lookI_cons, ih]
     by_cases e1 : p.1 = j <;> simp [e1]
 unfold putI
 rw [hn]
 cases q : lookI ms k with
 | some z =>
   simp only [Option.isSome_some, if_true]
   rw [hs]
   by_cases e : j = k
   · subst e; simp [q]
   · simp [e]
 | none =>
   simp only [Option.isSome_none, Bool.false_eq_true, if_false]
   rw [ha]
   by_cases e : j = k
   · subst e; simp [q]
   · have e' : ¬ k = j := fun z => e z.symm
     simp [e, e']
theorem lookI_drop (ms : List (Int × Int)) (k j : Int) : lookI (dropI ms k) j = if j = k then none else lookI ms j := by
 unfold dropI
 induction ms with
 | nil => simp [lookI]
 | cons p ms ih =>
   rw [List.filter_cons, lookI_cons]
   by_cases e1 : p.1 = k
   · rw [if_neg (by simpa using e1), ih]
     by_cases e2 : j = k
     · simp [e2]
     · have e3 : ¬ p.1 = j := fun z => e2 (by rw [← z, e1])
       simp [e2, e3]
   · rw [if_pos (by simpa using e1), lookI_cons, ih]
     by_cases e2 : j = k
     · subst e2; simp [e1]
     · simp [e2]
end L2
namespace L2
open PySem PySem.Spec PyProof.Rows
inductive DA where
 | d (d : D) | dic
noncomputable def RepA (K : PySem.W.Frag) (H : Hp) (v : V) : DA → Prop
 | .d d => Rep K H v d
 | .dic => ∃ a kvs, v = .ref a ∧ Rd H a (.dK kvs)
noncomputable def isA (n : String) : DA → Bool
 | .d d => isD n d
 | .dic => n == "dict"
theorem call_isiA {X : Cx} {K : PySem.W.Frag} (hK : X.K = K := by rfl) : CallR X (.builtin "isinstance") (fun xs H Q => ∃ x n d, xs = [x, .ty n] ∧ (n = "int" ∨ n = "bool" ∨ n = "str" ∨ n = "tuple" ∨ n = "list" ∨ n = "dict") ∧ RepA K H x d ∧ Q (.bl (isA n d)) H) := by
 subst hK
 intro pins s σ H xs us Q I r h
 obtain ⟨x, n, d, e, hn, hx, q⟩ := h
 cases d with
 | d d => exact call_isinst pins s σ H xs us Q I r ⟨x, n, d, e, hn, hx, q⟩
 | dic =>
   subst e
   obtain ⟨a, kvs, rfl, hr⟩ := hx
   obtain ⟨u, v, rfl, rx, rt⟩ := vals2 r
   cases rt
   cases rx
   obtain ⟨z, hd, vs, rel, o, es, ep, ho, ex, _⟩ := dk_rd I.hok hr
   rcases hn with rfl | rfl | rfl | rfl | rfl | rfl
   · exact PySem.IsiPair.dict_int ho ex.1 ⟨.bl false, H, I.tok _, rfl, q⟩
   · exact PySem.IsiPair.dict_bool ho ex.1 ⟨.bl false, H, I.tok _, rfl, q⟩
   · exact PySem.IsiPair.dict_str ho ex.1 ⟨.bl false, H, I.tok _, rfl, q⟩
   · exact PySem.IsiPair.dict_tuple ho ex.1 ⟨.bl false, H, I.tok _, rfl, q⟩
   · exact PySem.IsiPair.dict_list ho ex.1 ⟨.bl false, H, I.tok _, rfl, q⟩
   · exact PySem.IsiPair.dict_dict ho ex.1 ⟨.bl true, H, I, rfl, q⟩
end L2
namespace L2
open PySem PySem.Spec PyProof.Rows
section
variable {P : Program} {w : World} {K : PySem.W.Frag} {mg : Str → Option Value} {base : Heap}
end
section
variable {X : Cx} {x : Str} {ps : List Str} {j k : Nat} {sp : Sp} {p pos : Pos} {e : Expr} {es : List Expr} {t : TA}
end
end L2
namespace L2
open PySem PySem.Spec PyProof.Rows
mutual
noncomputable def toPD : D → PyData
 | .non => .none
 | .bl b => .bool b
 | .int i => .int i
 | .str x => .str x
 | .tup ds => .tuple (toPDs ds)
 | .lst ds => .list (toPDs ds)
noncomputable def toPDs : List D → List PyData
 | [] => []
 | d :: ds => toPD d :: toPDs ds
end
section
variable {X : Cx} {pins : List (Addr × Obj)} {σ : St} {H : Hp} {s : Shared}
mutual
theorem reads_of (I : Inv X pins σ H s) : ∀ (d : D) {v : V} {u : Value}, Rep X.K H v d → RelV v u → ∃ as, Reads s.heap u (toPD d) as
 | .non, v, u, h, r => by
   cases (show v = .non from h)
   obtain rfl : u = .none := r
   exact ⟨_, .none⟩
 | .bl b, v, u, h, r => by
   cases (show v = .bl b from h)
   obtain rfl : u = .bool b := r
   exact ⟨_, .bool b⟩
 | .int i, v, u, h, r => by
   cases (show v = .int i from h)
   obtain ⟨t, rfl⟩ := r
   exact ⟨_, .int i t⟩
 | .str x, v, u, h, r => by
   cases (show v = .str x from h)
   obtain ⟨t, rfl⟩ := r
   exact ⟨_, .str x t⟩
 | .tup ds, v, u, h, r => by
   obtain ⟨a, vs, rfl, hq, hr⟩ := h
   obtain rfl : u = .ref a := r
   obtain ⟨its, rv, p, hz⟩ := I.tuple hq
   obtain ⟨o, ho, hc, n, hd⟩ := (show s.heap.IsTuple a its.toArray from p)
   obtain ⟨as, ra⟩ := readsAll_of I ds hr rv
   exact ⟨as, .tuple ho hc hd (by simpa using ra)⟩
 | .lst ds, v, u, h, r => by
   obtain ⟨a, vs, rfl, hq, hr⟩ := h
   obtain rfl : u = .ref a := r
   obtain ⟨its, rv, p, hz⟩ := I.list hq
   obtain ⟨o, ho, hc, n, hd⟩ := p.isList
   obtain ⟨as, ra⟩ := readsAll_of I ds hr rv
   exact ⟨a :: as, .list ho hc hd (by simpa using ra)⟩
theorem readsAll_of (I : Inv X pins σ H s) : ∀ (ds : List D) {vs : List V} {us : List Value}, Reps X.K H vs ds → Vals vs us → ∃ as, ReadsAll s.heap us (toPDs ds) as
 | [], vs, us, h, r => by
   cases (show vs = [] from h)
   cases r
   exact ⟨_, .nil⟩
 | d :: ds, vs, us, h, r => by
   obtain ⟨v, q, rfl, hv, hq⟩ := h
   cases r with
   | cons r1 r2 =>
     obtain ⟨as, ra⟩ := reads_of I d hv r1
     obtain ⟨bs, rb⟩ := readsAll_of I ds hq r2
     exact ⟨_, .cons ra rb⟩
end
end
mutual
theorem hasDict_toPD : ∀ d : D, (toPD d).hasDict = false
 | .non => rfl
 | .bl _ => rfl
 | .int _ => rfl
 | .str _ => rfl
 | .tup ds => hasDict_toPDs ds
 | .lst ds => hasDict_toPDs ds
theorem hasDict_toPDs : ∀ ds : List D, PyData.hasDictAll (toPDs ds) = false
 | [] => rfl
 | d :: ds => by
   show ((toPD d).hasDict || PyData.hasDictAll (toPDs ds)) = false
   rw [hasDict_toPD d, hasDict_toPDs ds]
   rfl
end
end L2
namespace L2
open PySem PySem.Spec PyProof.Rows
inductive DE where
 | d (d : D) | nul
inductive TH where
 | one (e : DE) | rows (es : List DE)
noncomputable def RepE (K : PySem.W.Frag) (H : Hp) (v : V) : DE → Prop
 | .d d => Rep K H v d
 | .nul => ∃ a, v = .ref a ∧ Rd H a (.dK [])
noncomputable def RepsE (K : PySem.W.Frag) (H : Hp) : List V → List DE → Prop
 | [], [] => True
 | v :: vs, e :: es => RepE K H v e ∧ RepsE K H vs es
 | _, _ => False
noncomputable def RepT (K : PySem.W.Frag) (H : Hp) (v : V) : TH → Prop
 | .one e => RepE K H v e
 | .rows es => ∃ a vs, v = .ref a ∧ SqL K H a vs ∧ RepsE K H vs es
noncomputable def isE (n : String) : DE → Bool
 | .d d => isD n d
 | .nul => n == "dict"
noncomputable def isT (n : String) : TH → Bool
 | .one e => isE n e
 | .rows _ => n == "list"
theorem RepE.same {K : PySem.W.Frag} {H H' : Hp} {v : V} {d : DE} (s : Same H H') (h : RepE K H v d) : RepE K H' v d := by
 cases d with
 | d d => exact Rep.same s h
 | nul =>
   obtain ⟨a, e, hr⟩ := h
   refine ⟨a, e, ?_⟩
   rcases hr with hr | ⟨o, hr⟩
   · exact .inl (s _ _ hr)
   · exact .inr ⟨o, s _ _ hr⟩
section
variable {X : Cx} {K : PySem.W.Frag}
theorem call_isiT (hK : X.K = K := by rfl) : CallR X (.builtin "isinstance") (fun xs H Q => ∃ x n t, xs = [x, .ty n] ∧ (n = "int" ∨ n = "bool" ∨ n = "str" ∨ n = "tuple" ∨ n = "list" ∨ n = "dict") ∧ RepT K H x t ∧ Q (.bl (isT n t)) H) := by
 subst hK
 intro pins s σ H xs us Q I r h
 obtain ⟨x, n, t, e, hn, hx, q⟩ := h
 match t, hx, q with
 | .one (.d d), hx, q => exact call_isinst pins s σ H xs us Q I r ⟨x, n, d, e, hn, hx, q⟩
 | .one .nul, hx, q =>
   obtain ⟨a, e2, hr⟩ := hx
   exact call_isiA (K := X.K) rfl pins s σ H xs us Q I r ⟨x, n, .dic, e, hn, ⟨a, [], e2, hr⟩, q⟩
 | .rows es, hx, q =>
   subst e
   obtain ⟨a, vs, rfl, hq, _⟩ := hx
   obtain ⟨u, v, rfl, rx, rt⟩ := vals2 r
   cases rt
   cases rx
   obtain ⟨its, _, ⟨o, _, e, c, _⟩, _⟩ := I.list hq
   have k := kit_ok (K := X.K) (d := .lst []) hn
   exact PySem.W.kia_one PySem.W.kitx_list I.kIn ⟨o, e, c⟩ k (fun z => nomatch z) fun tk => ⟨.bl (n == "list"), H, I.tok tk, rfl, q⟩
end
section
variable {X : Cx} {pins : List (Addr × Obj)} {σ : St} {H : Hp} {s : Shared}
end
structure Fin (B k : Nat) (p : PyData) : Prop where
 sh : p.showable = true
 le : p.shown.length ≤ B
 dp : p.depth ≤ k
end L2
namespace L2
open PySem PySem.Spec PyProof.Rows
section
variable {prog : Program} {w : World} {A : Around} {E : Value → Shared → Prop}
end
end L2
namespace L2
open PySem PySem.Spec PyProof.Rows
section
variable {prog : Program} {w : World} {A : Around} {R : Result → Shared → Prop}
end
end L2
namespace L2
open PySem PySem.Spec PyProof.Rows
end L2
namespace L2
open PySem PySem.Spec PyProof.Rows
end L2
namespace L2
open PySem PySem.Spec PyProof.Rows
theorem args_max1 (a : Value) : argsOk "max" ⟨[a], []⟩ := by unfold argsOk; kernel_rfl
section
variable {prog : Program} {w : World} {A : Around} {R : Result → Shared → Prop}
theorem maxW_loop {I S : Addr} {fp : List Addr} {n : Nat} {P : Nat → Value → Prop} {St : Nat → Heap → Prop} (W : Walks prog w A.in1 I fp [I] n P St) (hSf : S ∉ fp) (hSI : S ≠ I) (ks : List Int) (hn : ks.length = n) (hn0 : 0 < n) (hP : ∀ i v, P i v → ∃ x t, ks[i]? = some x ∧ v = .int x t) :
   ∀ (k i : Nat) (s : Shared) (c : Nat) (best : Array Value), n - i = k → i ≤ n → St i s.heap → s.heap.get? S = some { cls := .type "list", dict := none, data := .seq best c, slots := #[] } →
   ((i = 0 ∧ best = #[]) ∨ ∃ m t, best = #[.int m t, .int m t] ∧ 0 < i ∧ m ∈ ks.take i ∧ ∀ x ∈ ks.take i, x ≤ m) →
   (∀ m t h' tk, m ∈ ks → (∀ x ∈ ks, x ≤ m) → (∀ b o, b ≠ I → b ≠ S → s.heap.get? b = some o → h'.get? b = some o) → R (.ok (.ret (.int m t))) { s with heap := h', toks := tk }) →
   codeAny (model prog w) A (.builtin "max.loop" ⟨[.ref I, .none, .ref S], []⟩) R s := by
 have hname : (toString "max" ++ toString ".loop" : String) = "max.loop" := by decide
 intro k
 induction k with
 | zero =>
   intro i s c best hk hi hst hS hb hR
   have hin : i = n := by omega
   subst hin
   refine codeAny_builtin PySem.F.entry_max_loop ?_; rw [Around.under_plainId PySem.F.plain_max_loop _]
   show wpAny _ A.in1 (seqItems? (.ref S) >>= _) _ _ s; refine wpAny_bind (wpAny_seqItems hS rfl ?_)
   show wpAny _ A.in1 (tryCatch (pyNext (.ref I)) _ >>= _) _ _ s; skip
   refine wpAny_bind (wpAny_tryCatch (W.done s _ _ hst fun h' tk hk' => ?_))
   have hS' := hk' S _ (by simpa using hSI) hS
   rcases hb with ⟨h0, rfl⟩ | ⟨m, t, rfl, _, hm1, hm2⟩
   · omega
   · show wpAny _ A.in1 (updateSeq S (fun _ => #[]) >>= _) _ _ _
     refine wpAny_bind ?_
     refine wpAny_updateSeq hS' rfl (wpAny_bind (wpAny_letGo (wpAny_pure ?_)))
     rw [← hn, List.take_length] at hm1 hm2
     exact hR m t _ tk hm1 hm2 fun b o hbI hbS e => (Heap.get?_update_other _ _ (Ne.symm hbS)).trans (hk' b o (by simpa using hbI) e)
 | succ k ih =>
   intro i s c best hk hi hst hS hb hR
   have hlt : i < n := by omega
   refine codeAny_builtin PySem.F.entry_max_loop ?_; rw [Around.under_plainId PySem.F.plain_max_loop _]
   show wpAny _ A.in1 (seqItems? (.ref S) >>= _) _ _ s; refine wpAny_bind (wpAny_seqItems hS rfl ?_)
   show wpAny _ A.in1 (tryCatch (pyNext (.ref I)) _ >>= _) _ _ s; skip
   refine wpAny_bind (wpAny_tryCatch (W.item i s _ _ hlt hst fun v h' tk hPv hst' hk' => ?_))
   have hS' := hk' S _ (by simpa using hSI) hS
   obtain ⟨n1, t1, hx, rfl⟩ := hP i v hPv
   have htk : ks.take (i + 1) = ks.take i ++ [n1] := by rw [List.take_succ, hx]; rfl
   have upS : ∀ f : Array Value → Array Value, St (i + 1) (h'.update S (Obj.mapSeq f)) := fun f => W.frame _ _ _ hst' fun b hb o e => (Heap.get?_update_other _ _ (fun z : S = b => hSf (by rw [z]; exact hb))).trans e
   have old : ∀ (f : Array Value → Array Value) (b : Addr) (o : Obj), b ≠ I → b ≠ S → s.heap.get? b = some o → (h'.update S (Obj.mapSeq f)).get? b = some o := fun f b o hbI hbS e => (Heap.get?_update_other _ _ (Ne.symm hbS)).trans (hk' b o (by simpa using hbI) e)
   rcases hb with ⟨h0, rfl⟩ | ⟨n2, t2, rfl, hi0, hm1, hm2⟩
   · show wpAny _ A.in1 (updateSeq S (fun _ => #[.int n1 t1, .int n1 t1]) >>= _) _ _ _
     refine wpAny_bind ?_
     refine wpAny_updateSeq hS' rfl ?_
     rw [hname]
     subst h0
     refine wpAny_pure ⟨plainId_quiet PySem.F.plain_max_loop _, ih 1 _ _ #[.int n1 t1, .int n1 t1] (by omega) hlt (upS _) (Heap.get?_update_self _ hS' rfl) (.inr ⟨n1, t1, rfl, by omega, by rw [htk]; simp, fun x hx' => ?_⟩) fun m t h'' tk' a1 a2 kk => ?_⟩
     · rw [htk] at hx'
       simp at hx'
       omega
     · exact hR m t h'' tk' a1 a2 fun b o hbI hbS e => kk b o hbI hbS (old _ b o hbI hbS e)
   · show wpAny _ A.in1 (tryCatch (holding [.int n1 t1, .int n1 t1] (richCompare .Gt (.int n1 t1) (.int n2 t2) >>= _)) _ >>= _) _ _ _
     refine wpAny_bind (wpAny_tryCatch (wpAny_holding (wpAny_bind (CmpOf.ints_gt (prog := prog) (w := w) (A := A.in1) (P := fun i v => ∃ t, v = .int (if i = 0 then n1 else n2) t) (fun i => if i = 0 then n1 else n2) (fun i v h => h) 0 1 _ _ _ _ _ ⟨t1, rfl⟩ ⟨t2, rfl⟩ ?_))))
     refine wpAny_bind (wpAny_holding (wpAny_truthy_bool ?_))
     refine wpAny_bind (wpAny_letGo (wpAny_pure ?_))
     split
     · next hgt =>
       have hgt' : n2 < n1 := by simpa using hgt
       refine wpAny_bind ?_
       refine wpAny_updateSeq hS' rfl (wpAny_bind (wpAny_letGo ?_)); rw [hname]
       refine wpAny_pure ⟨plainId_quiet PySem.F.plain_max_loop _, ih (i + 1) _ _ #[.int n1 t1, .int n1 t1] (by omega) hlt (upS _) (Heap.get?_update_self _ hS' rfl) (.inr ⟨n1, t1, rfl, by omega, by rw [htk]; simp, fun x hx' => ?_⟩) fun m t h'' tk' a1 a2 kk => ?_⟩
       · rw [htk] at hx'
         rcases List.mem_append.mp hx' with h1 | h1
         · have := hm2 x h1; omega
         · simp at h1; omega
       · exact hR m t h'' tk' a1 a2 fun b o hbI hbS e => kk b o hbI hbS (old _ b o hbI hbS e)
     · next hgt =>
       have hgt' : n1 ≤ n2 := by simpa using hgt
       refine wpAny_bind (wpAny_letGo ?_); rw [hname]
       refine wpAny_pure ⟨plainId_quiet PySem.F.plain_max_loop _, ih (i + 1) _ _ #[.int n2 t2, .int n2 t2] (by omega) hlt hst' hS' (.inr ⟨n2, t2, rfl, by omega, by rw [htk]; simp [hm1], fun x hx' => ?_⟩) fun m t h'' tk' a1 a2 kk => ?_⟩
       · rw [htk] at hx'
         rcases List.mem_append.mp hx' with h1 | h1
         · exact hm2 x h1
         · simp at h1; omega
       · exact hR m t h'' tk' a1 a2 fun b o hbI hbS e => kk b o hbI hbS (hk' b o (by simpa using hbI) e)
end
end L2
namespace L2
open PySem PySem.Spec PyProof.Rows
theorem call_maxK {X : Cx} (hc : X.calm = true) : CallR X (.builtin "max") (fun xs H Q => ∃ (p : Addr) (ks : List Int) (kvs : List (Key × V)), xs = [.ref p] ∧ H p = some (.dK kvs) ∧ kvs.map (·.1) = ks.map (fun k => (.inl k : Key)) ∧ ks ≠ [] ∧ ∀ m, m ∈ ks → (∀ x ∈ ks, x ≤ m) → Q (.int m) H) := by
 intro pins s σ H xs us Q I r h
 obtain ⟨p, ks, kvs, rfl, hp, hk, hne, q⟩ := h
 obtain ⟨u, rfl, ru⟩ := vals1 r
 cases ru
 have hh : X.A.handled = none := I.ok.hd hc
 obtain ⟨z, hsys, vs, rel, o, es, ep, ho, c⟩ := id (I.hok p _ hp)
 have hm : s.heap.DictAt (mixKind X.prog X.w) p vs ep := ⟨o, es, ho, c⟩
 have hl : ks.length = vs.length := by rw [← rel.length]; simpa using (congrArg List.length hk).symm
 have hll : p < s.heap.objs.size := Heap.lt_size ho
 have hname : (toString "max" ++ toString ".loop" : String) = "max.loop" := by decide
 refine PyProof.Rows.kmk_tree PySem.F.kind_max PySem.F.plain_max PySem.F.entry_max (args_max1 _) ?_
 show wpAny _ X.A.in1 (Builtin.Builtins.bindParams "max" ["key", "default"] 0 ⟨[], []⟩ >>= _) _ _ s
 refine wpAny_bind (wpAny_of_eq (show Builtin.Builtins.bindParams "max" ["key", "default"] 0 ⟨[], []⟩ = pure [none, none] from rfl) ?_)
 refine wpAny_bind (wpAny_pure ?_)
 refine wpAny_bind (wpAny_pyIter_dict hsys hm ?_)
 refine wpAny_bind (wpAny_newList ?_ (Nat.zero_le _))
 rw [hname]
 have hS : (s.heap.push { cls := .type "dict_keyiterator", data := .fields #[.ref p, .int 0 0, .int vs.length 0, .int ep 0] }).objs.size = s.heap.objs.size + 1 := Heap.size_push ..
 refine wpAny_pure ⟨plainId_quiet PySem.F.plain_max_loop _, ?_⟩
 have hpI : p ≠ s.heap.objs.size := Nat.ne_of_lt hll
 refine maxW_loop (S := (s.heap.push { cls := .type "dict_keyiterator", data := .fields #[.ref p, .int 0 0, .int vs.length 0, .int ep 0] }).objs.size) (Walks.dictKeys (prog := X.prog) (w := X.w) (A := X.A.in1) (knd := mixKind X.prog X.w) hh s.heap.objs.size p hpI vs ep) ?_ (by rw [hS]; exact Nat.succ_ne_self _) ks hl (by rw [← hl]; exact List.length_pos_iff.mpr hne) (fun i v ⟨k, x, e1, e2⟩ => ?_) _ 0 _ 0 #[] rfl (Nat.zero_le _) ⟨?_, ?_⟩ ?_ (.inl ⟨rfl, rfl⟩) fun m t h' tk a1 a2 kk => ?_
 · rw [hS]
   intro hq
   rcases List.mem_cons.mp hq with y | y
   · exact absurd y (Nat.succ_ne_self _)
   · have y2 : s.heap.objs.size + 1 = p := by simpa using y
     exact absurd hll (by rw [← y2]; exact Nat.not_lt.mpr (Nat.le_succ _))
 · have e5 : (vs.map (·.1))[i]? = some k := by rw [List.getElem?_map, e1]; rfl
   rw [← rel.keys, hk, List.getElem?_map] at e5
   cases hx : ks[i]? with
   | none => rw [hx] at e5; cases e5
   | some n =>
     rw [hx] at e5
     cases e5
     obtain ⟨t, ht⟩ := is_kV (P := X.prog) (w := X.w) e2
     exact ⟨n, t, rfl, ht⟩
 · exact ⟨_, Heap.get?_push_of_some _ (Heap.get?_push_size _ rfl), rfl, rfl⟩
 · exact (hm.at' fun o e => Heap.get?_push_of_some _ e).at' fun o e => Heap.get?_push_of_some _ e
 · exact Heap.get?_push_size _ rfl
 · refine ⟨.int m, H, I.kept fun b o e => ?_, ⟨t, rfl⟩, q m a1 a2⟩
   have hb := Heap.lt_size e
   exact kk b o (Nat.ne_of_lt hb) (by rw [hS]; exact Nat.ne_of_lt (Nat.lt_succ_of_lt hb)) (Heap.get?_push_of_some _ (Heap.get?_push_of_some _ e))
end L2
namespace L2
open PySem PySem.Spec PyProof.Rows
structure HasM (P : Program) (w : World) (K : PySem.W.Frag) (mg : Str → Option Value) (base : Heap) (C : Addr) (m : Str) (ps : List Str) (k : Nat) (sp : Sp) : Prop where
 ex : ∃ (f : Addr) (fd : FuncData), Meth K C m f ∧ Binds K fd ps [] ∧ FnOk P w K mg base CX0 k f fd ps sp
section
variable {X : Cx} {K : PySem.W.Frag} {j k : Nat} {C : Addr} {ps : List Str} {sp : Sp} {x m f : Str} {p pos apos pos' : Pos} {e o value : Expr} {es : List Expr} {ta tv : TE} {t : TA}
theorem pe_methH {pl : Sem Bool} (he : PE X o ta) (c : Cls X.K C) (h : HasM X.prog X.w X.K X.mg X.base C m ps j sp) (hr : Room k X.A) (ha : PA X (e :: es) t) (hk : j ≤ k := by decide)
   (hst : starEach (e :: es) X.env = (false, eval e X.env) :: starEach es X.env := by rfl) (hpl : (backTo pos (starEach es X.env)).any (·.1) = false := by rfl)
   (ht : eval (.Call (.Attribute o m apos) (e :: es) [] pos) X.env = (do
     let ov ← eval o X.env
     standAt apos.atName
     let (f, first) ← holding [ov] (getMethod ov m pl)
     callWith pos f first (backTo pos (starEach (e :: es) X.env)) (backToKw pos (keywordEach [] X.env))) := by rfl) :
   PE X (.Call (.Attribute o m apos) (e :: es) [] pos) (tMeth C m sp [] E0 ta t) := by
 obtain ⟨f, fd, h1, h2, h3⟩ := h.ex
 exact pe_meth he c h1 h3 (hr.mono hk) h2 .nil pass0 ha hst hpl ht
theorem pe_methH0 {pl : Sem Bool} (he : PE X o ta) (c : Cls X.K C) (h : HasM X.prog X.w X.K X.mg X.base C m ps j sp) (hr : Room k X.A) (hk : j ≤ k := by decide)
   (ht : eval (.Call (.Attribute o m apos) [] [] pos) X.env = (do
     let ov ← eval o X.env
     standAt apos.atName
     let (f, first) ← holding [ov] (getMethod ov m pl)
     callWith pos f first (backTo pos (starEach [] X.env)) (backToKw pos (keywordEach [] X.env))) := by rfl) :
   PE X (.Call (.Attribute o m apos) [] [] pos) (tMeth C m sp [] E0 ta tNil) := by
 obtain ⟨f, fd, h1, h2, h3⟩ := h.ex
 exact pe_meth0 he c h1 h3 (hr.mono hk) h2 .nil pass0 ht
theorem kpe_fld (he : PE X e ta) (hK : X.K = K := by rfl) (hb : attributeBase e f X.env (eval e X.env) = eval e X.env := by rfl) : PE X (.Attribute e f pos) (tFld K ta f) := by subst hK; exact pe_fld he hb
theorem kps_fld (ha : PE X o ta) (hv : PE X value tv) (hK : X.K = K := by rfl) (hs : swapsWith value (some (.Attribute o f pos')) pos.line X.env = pure false := by rfl) : PS X (.Assign [.Attribute o f pos'] value pos) (sFld K ta tv f) := by subst hK; exact ps_fld ha hv hs
theorem kpe_bm0 {T id : String} {name : Str} {cpos : Pos} {r : V → List V → Hp → VK → Prop} (pa : PlainAttrs T) (slot : Slot T name id) (hty : typeOf (.builtin id) = pure (.type "method_descriptor")) (hm : MtR X id r) (ho : PE X o ta) (hK : X.K = K := by rfl)
   (hbase : attributeBase o name X.env (eval o X.env) = eval o X.env := by rfl) (hline : (apos.endLine == cpos.line) = true := by rfl) : PE X (.Call (.Attribute o name apos) [] [] cpos) (tBM0 K T r ta) := by subst hK; exact pe_bm0 pa slot hty hm ho hbase hline
end
end L2
namespace L2
open PySem PySem.Spec PyProof.Rows
structure FunD (K : PySem.W.Frag) (x qual : Str) (st : Stmt) (f : Addr) (fd : FuncData) (ds : List Value) : Prop where
 ex : ∃ (oc : Value) (od : Option Addr) (kV doc pm : Value) (an : Option Addr) (cdv ct : Value) (osl : Array (Option Value)) (dt : Addr) (tn : Nat) (tsl : Array (Option Value)) (tdd : Option Addr),
   fd = PySem.W.fnOf x qual (defArgs st) (defBody st) (defScope st) (.ref dt) kV doc pm an cdv ct ∧ K.lookup f = some ⟨oc, od, .func fd, osl⟩ ∧ PySem.W.codeIn K cdv qual = true ∧ K.lookup dt = some ⟨.type "tuple", tdd, .seq ds.toArray tn, tsl⟩
 kp : PySem.W.keepIn K (.ref f) = true
section
variable {P : Program} {w : World} {K : PySem.W.Frag} {mg : Str → Option Value} {base : Heap} {ds : List Value}
theorem FunD.ok {x qual : Str} {st : Stmt} {f : Addr} {fd : FuncData} {N ps : List Str} {k : Nat} {sp : Sp} (F : FunD K x qual st f fd ds) (S : FnScope N ps (defScope st)) (len : ∀ vs H Q E, sp vs H Q E → vs.length = ps.length)
   (hbody : ∀ (cdv : Value) (A : Around) (outer : List Env) (s : Shared) (H : Hp) (vs : List V) (Q : VK) (E : XK), Room k (A.deeper (envOfC qual (defScope st) s.heap.objs.size f cdv)) → sp vs H Q E →
     ∃ t, PSs (cxOf CX0 P w K mg base N qual (defScope st) f cdv A outer s H E).nox (defBody st) t ∧ t { nx := fun _ H' => Q .non H', rt := Q } (start N vs) H) : FnOk P w K mg base CX0 (k + 1) f fd ps sp := by
 obtain ⟨oc, od, kV, doc, pm, an, cdv, ct, osl, dt, tn, tsl, tdd, rfl, lk, hcd, _⟩ := F.ex
 refine fn_of lk hcd S len fun A outer s H vs Q E hr hsp => ?_
 obtain ⟨t, h, q⟩ := hbody cdv A outer s H vs Q E hr hsp
 exact ⟨t, h.nox, q⟩
theorem FunD.binds {x qual : Str} {st : Stmt} {f : Addr} {fd : FuncData} {ps : List Str} {dd : List Value} (F : FunD K x qual st f fd ds)
   (h : ∀ (kV doc pm : Value) (an : Option Addr) (cdv ct : Value) (dt : Addr) (us : List Value), us.length + dd.length = ps.length →
     ∃ k : Option (Array Value) → Sem (List (Str × Value)), bindArgs (PySem.W.fnOf x qual (defArgs st) (defBody st) (defScope st) (.ref dt) kV doc pm an cdv ct) ⟨us, []⟩ = seqItems? (.ref dt) >>= k ∧ k (some ds.toArray) = pure (ps.zip (us ++ dd))) : Binds K fd ps dd := by
 obtain ⟨oc, od, kV, doc, pm, an, cdv, ct, osl, dt, tn, tsl, tdd, rfl, lk, hcd, lt⟩ := F.ex
 intro s us X hl
 obtain ⟨k, h1, h2⟩ := h kV doc pm an cdv ct dt us (by rw [← List.length_append]; exact hl)
 exact .of_defaults rfl (X _ _ lt) rfl h1 h2
structure HasCD (P : Program) (w : World) (K : PySem.W.Frag) (mg : Str → Option Value) (base : Heap) (C : Addr) (ps : List Str) (dvs : List V) (k : Nat) (sp : Sp) : Prop where
 ex : ∃ (f : Addr) (fd : FuncData) (ds : List Value), Mk K C f ∧ Binds K fd ps ds ∧ Vals dvs ds ∧ FnOk P w K mg base CX0 k f fd ps sp
theorem pe_makeD0 {X : Cx} {C : Addr} {ps : List Str} {dvs : List V} {j k : Nat} {sp : Sp} {x : Str} {p pos : Pos} (h : HasCD X.prog X.w X.K X.mg X.base C ps dvs j sp) (hr : Room k X.A) (hg : Gl X x) (hm : X.mg x = some (.ref C)) (hk : j + 1 ≤ k := by decide) (hdb : (x == ("__debug__" : Str)) = false := by decide) :
   PE X (.Call (.Name x p) [] [] pos) (tMake C sp dvs E0 tNil) := by
 obtain ⟨f, fd, ds, M, hb, hv, F⟩ := h.ex
 exact pe_make0 M F (hr.mono hk) hg hm hb hv pass0 hdb
end
end L2
namespace L2
open PySem PySem.Spec PyProof.Rows PySem.W
section
variable {prog : Program} {w : World} {A : Around} {E : Value → Shared → Prop} {h : Heap} {g : Array GenState} {d : Drawn} {t : Nat} {os : OsState} {a C dx : Addr} {o : Obj} {K : Frag} {cd : ClassData} {mA : Str → Option Value} {v : Value} {name : Str}
theorem xat_entry {tk : Tok} {Q : PySem.Fin → Shared → Prop} (X : K.In h) (hf : findIn K (.ref C) name = some none) (hcd : clsIn K C = some cd) (hh : cd.hasDict = true) (hx : h.get? a = some o) (hc : o.cls = .ref C) (hd : o.dict = some dx) {vs : Array Value} (hdat : o.data = .fields vs) (hn : h.Ns dx mA) (hv : mA name = some v) (hq : Q (.done (.ret v)) ⟨h, g, d, t, os⟩) :
   wpAny (model prog w) A (Builtin.«object.__getattribute__» ⟨[.ref a, .str name tk], []⟩) Q E ⟨h, g, d, t, os⟩ := by
 have L1 : Looks (model prog w) h (typeLookup (.ref C) name) none := looks_findIn X hf
 have L2' : Looks (model prog w) h (classData C) cd := looks_clsIn X hcd
 obtain ⟨oc, od, oda, osl⟩ := o
 dsimp only at hc hd hdat
 subst hc hd hdat
 repeat (any_goals (first | assumption | (with_reducible refine wpAny_nsGet hn ?_; rw [hv]) | with_reducible refine wpAny_loadPart_at hx ?_ | with_reducible refine L1.at ?_ | with_reducible refine L2'.at ?_ | (rw [hh]) | wp_step))
end
end L2
namespace L2
open PySem PySem.Spec PyProof.Rows PySem.W PySem.Builtin PySem.Builtin.ObjectAttr
noncomputable def errTail : List Value := [.type "ValueError", .type "Exception", .type "BaseException", .type "object"]
theorem refuse_tail (self : Value) : refuseLoop self "__setattr__" errTail = pure () := by kernel_rfl
section
variable {prog : Program} {w : World} {A : Around} {K : Frag} {s : Shared} {x C D : Addr} {R : Result → Shared → Prop}
theorem store_exc {ox : Obj} {od : Option Obj} {name : Str} {tk : Tok} {v : Value} {cd : ClassData} (X : K.In s.heap) (I : InstAt s.heap x ox C od) (hc : clsIn K C = some cd) (hm : cd.mro = .ref C :: .ref D :: errTail) (hf : findIn K (.ref C) name = some none)
   (h : wpAny (model prog w) A.in1 (storeInOwnDict (.ref x) (.ref C) (.str name tk) name v false) (fun fin s' => match fin with | .done f => R (.ok f) s' | .again c' => c'.quiet = true ∧ codeAny (model prog w) A c' R s') (fun e s' => R (.error e) s') s) :
   codeAny (model prog w) A (.call (.builtin "object.__setattr__") ⟨[.ref x, .str name tk, v], []⟩) R s := by
 have SF := PySem.F.store_object
 have sub : Looks (model prog w) s.heap (isInstance (.ref x) (.type "object")) true := I.type.andThen (looks_mroIn X (by unfold mroIn; rw [hc, Option.bind_some, hm]; rfl))
 refine codeAny_call_builtin SF.slot.plain SF.entry (@check_slot (model prog w) _ _ s "object.__setattr__" "object" "__setattr__" (.ref x) [.str name tk, v] [] _ SF.kind SF.split sub (SF.args (.ref x) (.str name tk) v) ?_)
 have hl : Looks (model prog w) s.heap (mroOf (.ref C)) cd.mro := (looks_clsIn X hc).andThen .now
 rw [osa_eq, refuse_eq]
 refine wpAny_bind (wpAny_bind (I.type.here (wpAny_bind (hl.here ?_))))
 rw [hm, refuseLoop_ref, refuseLoop_ref, refuse_tail]
 exact wpAny_pure (wpAny_bind (I.type.here (wpAny_bind ((looks_findIn X hf).here (wpAny_bind (wpAny_pure h))))))
end
section
variable {prog : Program} {w : World} {A : Around} {E : Value → Shared → Prop} {K : Frag} {s : Shared} {x C : Addr}
theorem store_first {ox : Obj} {vs : Array Value} {name : Str} {tk : Tok} {v : Value} {cd : ClassData} {Q : PySem.Fin → Shared → Prop} (X : K.In s.heap) (hx : s.heap.get? x = some ox) (hcl : ox.cls = .ref C) (hd : ox.dict = none) (hf : ox.data = .fields vs)
   (hc : clsIn K C = some cd) (hh : cd.hasDict = true)
   (h : ∀ h' t', h'.get? x = some { ox with dict := some s.heap.objs.size } → h'.Ns1 s.heap.objs.size (fun y => if y = name then some v else none) → (∀ b o, b ≠ x → s.heap.get? b = some o → h'.get? b = some o) → Q (.done (.ret .none)) { s with heap := h', toks := t' }) :
   wpAny (model prog w) A (storeInOwnDict (.ref x) (.ref C) (.str name tk) name v false) Q E s := by
 obtain ⟨oc, odi, oda, osl⟩ := ox
 dsimp only at hcl hd hf
 subst hcl hd hf
 refine wpAny_bind (wpAny_pure (wpAny_bind (wpAny_bind (wpAny_loadPart hx (wpAny_bind ((looks_clsIn X hc).here ?_))))))
 rw [hh]
 have hxs : x ≠ s.heap.objs.size := Nat.ne_of_lt (Heap.lt_size hx)
 have hx₁ : (s.heap.push { cls := .type "dict", data := .dict #[] }).get? x = some ⟨.ref C, none, .fields vs, osl⟩ := Heap.get?_push_of_some _ hx
 have hgd : ((s.heap.push { cls := .type "dict", data := .dict #[] }).update x fun o => { o with dict := some s.heap.objs.size }).get? s.heap.objs.size = some { cls := .type "dict", data := .dict #[] } :=
   (Heap.get?_update_other _ _ hxs).trans (Heap.get?_push_size _ rfl)
 have hgx : ((s.heap.push { cls := .type "dict", data := .dict #[] }).update x fun o => { o with dict := some s.heap.objs.size }).get? x = some ⟨.ref C, some s.heap.objs.size, .fields vs, osl⟩ :=
   Heap.get?_update_self (fun o => { o with dict := some s.heap.objs.size }) hx₁ rfl
 have hkeep : ∀ b o, b ≠ x → s.heap.get? b = some o → ((s.heap.push { cls := .type "dict", data := .dict #[] }).update x fun o => { o with dict := some s.heap.objs.size }).get? b = some o := fun b o n e =>
   (Heap.get?_update_other _ _ n.symm).trans (Heap.get?_push_of_some _ e)
 refine wpAny_bind (wpAny_alloc' (wpAny_bind (wpAny_update' hx₁ (wpAny_pure ?_))))
 generalize ((s.heap.push { cls := .type "dict", data := .dict #[] }).update x fun o => { o with dict := some s.heap.objs.size }) = G at hgd hgx hkeep ⊢
 refine wpAny_bind (wpAny_pure (wpAny_bind (wpAny_nsSet1 (m := fun _ => none) (Heap.Ns1.of_empty ⟨_, #[], _, hgd, rfl, fun e he => absurd he (by simp), fun _ => rfl⟩) fun h' hn' hs => ?_)))
 obtain ⟨oD, esD, epD, hoD, hdD, hcD⟩ := hn'.count (Within.cons name v Within.nil)
 refine wpAny_bind (wpAny_lookBehind hoD (by rw [hdD]; exact pastItsLine_dict (Nat.le_trans hcD (by rw [List.length_cons, List.length_nil]; decide))) ?_)
 exact wpAny_pure (h h' _ ((hs.2 x hxs).trans hgx) hn' fun b o n e => (hs.2 b (Nat.ne_of_lt (Heap.lt_size e))).trans (hkeep b o n e))
end
end L2
namespace L2
open PySem PySem.Spec PyProof.Rows PySem.W
theorem ns_has {K : Frag} {h : Heap} {N : Addr} {mN : Str → Option Value} {n : Str} {v : Value} (X : K.In h) (G : h.Ns N mN) (z : nsIn K N n = some (some v)) : mN n = some v := by
 obtain ⟨ob, es, ep, h1, h2, _, h4⟩ := G
 unfold nsIn at z
 split at z
 next c d es' n' sl q =>
   have y := X _ _ q
   rw [h1] at y; cases y; cases h2
   split at z
   next en hen => (cases z; rw [← h4]; unfold nsFind findBy; rw [← Array.find?_toList, hen]; rfl)
   next => (split at z <;> cases z)
 next => cases z
noncomputable abbrev errF := PySem.F.excBase_ValueError
structure ErrC (K : Frag) (C D f : Addr) : Prop where
 obj : ∃ N nm q bs sn sub ab col dd k0 k1 k2 k3 k5, K.lookup C = some (excClassObj nm q C N bs (.ref D :: bmV) true sn sub ab col dd k0 k1 k2 k3 k5 "ValueError.__new__") ∧ nsOkIn K N = true ∧ nsIn K N "__init__" = some (some (.ref f))
 tail : tailIn K bmV (.ref D :: bmV) = true
 fn : isFn K (.ref f) = true
 sa : findIn K (.ref C) "__setattr__" = some (some (.builtin "object.__setattr__"))
section
variable {prog : Program} {w : World} {A : Around} {E : Value → Shared → Prop} {h : Heap} {g : Array GenState} {d : Drawn} {t : Nat} {os : OsState} {K : Frag} {C D f : Addr} {rest : List Value}
theorem ErrC.here (Z : ErrC K C D f) (X : K.In h) : ∃ N nm q bs sn sub ab col dd k0 k1 k2 k3 k5 mN, h.get? C = some (excClassObj nm q C N bs (.ref D :: bmV) true sn sub ab col dd k0 k1 k2 k3 k5 "ValueError.__new__") ∧ h.Ns N mN ∧ mN "__init__" = some (.ref f) ∧ OwnTail h bmV (.ref D :: bmV) := by
 obtain ⟨N, nm, q, bs, sn, sub, ab, col, dd, k0, k1, k2, k3, k5, e, n1, n2⟩ := Z.obj
 have n0 : h.Ns N (h.nsMap N) := .of_isNs (isNs_of_in X n1)
 exact ⟨N, nm, q, bs, sn, sub, ab, col, dd, k0, k1, k2, k3, k5, h.nsMap N, X _ _ e, n0, ns_has X n0 n2, tail_of_in X Z.tail⟩
theorem ErrC.fnHere (Z : ErrC K C D f) (X : K.In h) : ∃ o, h.get? f = some o ∧ o.cls = .type "function" := by
 have z := beq_iff_eq.mp Z.fn
 unfold typeIn at z
 cases q : K.lookup f with
 | none => simp [q] at z
 | some o => simp [q] at z; exact ⟨o, X _ _ q, z⟩
noncomputable abbrev errObj (C t : Addr) (dx : Option Addr) : Obj := { cls := .ref C, dict := dx, data := .fields #[.ref t, .none, .none, .none, .bool false, .none] }
theorem call_err {Q : Value → Shared → Prop} (X : K.In h) (Z : ErrC K C D f) (hr : rest.length ≤ sizeLine)
   (hq : ∀ h' e, h.objs.size ≤ e → Heap.MadeExcOf h h' e (.ref C) rest → wpAny (model prog w) (A.under (.builtin "type.__call__" ⟨.ref C :: rest, []⟩)) (call (.ref f) (.ref e :: rest)) (fun r s' => r = .none ∧ Q (.ref e) s') E ⟨h', g, d, t, os⟩) :
   wpAny (model prog w) A (call (.ref C) rest) Q E ⟨h, g, d, t, os⟩ := by
 obtain ⟨N, nm, q, bs, sn, sub, ab, col, dd, k0, k1, k2, k3, k5, mN, hC, hN, hi, T⟩ := Z.here X
 obtain ⟨oI, hfI, hfc⟩ := Z.fnHere X
 have f1 := tc_lookup
 have f2 := tc_bind (.ref C)
 have hT : (⟨h, g, d, t, os⟩ : Shared).TypeIs (.ref C) "type" := ⟨_, hC, rfl⟩
 refine wpAny_call (codeAny_of_tree ?_)
 show wpAny _ _ (callAny (.ref C) _) _ _ _
 repeat (any_goals (first | assumption | with_reducible refine wpAny_loadPart_at hC ?_ | wp_step))
 refine ⟨rfl, codeAny_call_builtin_at (Code.quiet_builtin _ (by decide +kernel)) entry_typeCall (wpAny_check_type_call_sub hC ?_)⟩
 repeat (first | with_reducible refine wpAny_loadPart_at hC ?_ | with_reducible refine wpAny_madeBy_exc hC ?_ | wp_step)
 refine codeAny_call_builtin_code (Code.quiet_builtin _ errF.quiet) (wpAny_check_new_subT errF T hC (codeAny_exc_new_subT errF T hC ?_ hr))
 show wpAny _ _ _ _ _ _
 let G := (h.push { cls := .type "tuple", data := .seq rest.toArray }).push (errObj C h.objs.size none)
 have kG : ∀ b o, h.get? b = some o → G.get? b = some o := fun b o e => Heap.get?_push_of_some _ (Heap.get?_push_of_some _ e)
 have hC1 := kG _ _ hC
 have hN1 : G.Ns N mN := hN.keeps kG
 have hf1 := kG _ _ hfI
 have hget : G.get? (h.objs.size + 1) = some (errObj C h.objs.size none) := by
   have := Heap.get?_push_size (h.push { cls := .type "tuple", data := .seq rest.toArray }) (o := errObj C h.objs.size none) rfl
   rwa [Heap.size_push] at this
 have hcC : (Value.ref C :: .ref D :: bmV).contains (.ref C) = true := by rw [List.contains_cons, beq_self_eq_true]; rfl
 have hm : Heap.MadeExcOf h G (h.objs.size + 1) (.ref C) rest := ⟨kG, Heap.get?_none_of_le (Nat.le_succ _), h.objs.size, hget, Heap.get?_none_of_le (Nat.le_refl _), Heap.get?_push_of_some _ (Heap.get?_push_at rfl rfl)⟩
 show wpAny _ _ _ _ _ ⟨G, g, d, t, os⟩
 clear_value G
 unfold isInstance
 repeat (first | (with_reducible refine wpAny_loadPart_at hget ?_; dsimp only [errObj]) | (with_reducible refine wpAny_isSubtype_exc hC1 ?_; rw [hcC]) | wp_step)
 refine wpAny_typeLookup_tail hC1 hN1 (T.keeps kG) errF.mroIs errF.init.lookup ?_
 rw [hi]
 refine wpAny_holding (wpAny_bind ?_)
 unfold bindSpecial
 refine wpAny_bind (wpAny_typeOf (T := "function") ⟨_, hf1, hfc⟩ ?_)
 rw [if_pos (by decide)]
 refine wpAny_pure (wpAny_bind (wpAny_mono (hq G _ (Nat.le_succ _) hm) (fun r s' z => ?_) fun _ _ x => x))
 obtain ⟨rfl, z⟩ := z
 wp_walk
 exact z
end
end L2
namespace L2
open PySem PySem.Spec PyProof.Rows PySem.W
noncomputable def newE (e C : Addr) : HO := .ext fun h => ∃ t, h.get? e = some (errObj C t none)
noncomputable def madeE (e C d : Addr) : HO := .ext fun h => ∃ t, h.get? e = some (errObj C t (some d))
theorem newE_ok {P : Program} {w : World} {H : Hp} {h : Heap} {e C t : Addr} (z : h.get? e = some (errObj C t none)) : ObjOk P w H h e (newE e C) := ⟨⟨t, z⟩, ⟨_, z⟩, fun _ _ ⟨t', y⟩ k => ⟨t', k _ y⟩⟩
theorem madeE_ok {P : Program} {w : World} {H : Hp} {h : Heap} {e C t d : Addr} (z : h.get? e = some (errObj C t (some d))) : ObjOk P w H h e (madeE e C d) := ⟨⟨t, z⟩, ⟨_, z⟩, fun _ _ ⟨t', y⟩ k => ⟨t', k _ y⟩⟩
theorem newE_at {P : Program} {w : World} {H : Hp} {h : Heap} {e C : Addr} (z : ObjOk P w H h e (newE e C)) : ∃ t, h.get? e = some (errObj C t none) := z.1
theorem madeE_at {P : Program} {w : World} {H : Hp} {h : Heap} {e C d : Addr} (z : ObjOk P w H h e (madeE e C d)) : ∃ t, h.get? e = some (errObj C t (some d)) := z.1
structure BaseInit (K : Frag) (D : Addr) : Prop where
 rd : readsIn K D (.type "type") = true
 fc : findCls K (.ref D) (.type "type") "__init__" = some (.val (.builtin "ValueError.__init__"))
 ga : specialIn K (.ref D) "__getattribute__" = some (some (.builtin "type.__getattribute__"))
noncomputable def tBase (K : Frag) (t : TA) : TE := fun σ H Q => t σ H fun vs H1 => ∃ e C D f y, vs = [.ref e, y] ∧ H1 e = some (newE e C) ∧ ErrC K C D f ∧ Q .non H1
section
variable {X : Cx} {K : Frag}
theorem init_base {pins : List (Addr × Obj)} {σ : St} {H : Hp} {s : Shared} {Q : VK} {e C D f : Addr} {u : Value} (I : Inv X pins σ H s) (he : H e = some (newE e C)) (Z : ErrC X.K C D f) (q : Q .non H) :
   wpAny (model X.prog X.w) X.A (call (.builtin "ValueError.__init__") [.ref e, u]) (EP X pins σ Q) X.xe s := by
 obtain ⟨N, nm, qn, bs, sn, sub, ab, col, dd, k0, k1, k2, k3, k5, mN, hC, hN, hi, T⟩ := Z.here I.kIn
 obtain ⟨t0, hx⟩ := newE_at (I.hok e _ he)
 obtain ⟨h, g, d, t, os⟩ := s
 dsimp only at hx hC hN T
 refine wpAny_call (codeAny_call_builtin errF.init.plain errF.initEntry (wpAny_check_init_subT errF T hC hx rfl ?_))
 wp_walk
 refine ⟨.non, H, ?_, rfl, q⟩
 have hx1 := Heap.get?_push_of_some (h := h) { cls := .type "tuple", data := .seq [u].toArray } hx
 have hx2 := Heap.get?_update_self (Obj.mapFields (·.setIfInBounds 0 (Value.ref h.objs.size))) hx1 rfl
 have hu : upd H e (newE e C) = H := by
   funext b
   by_cases hb : b = e
   · rw [hb, upd_same, he]
   · rw [upd_ne hb]
 have z := I.write (x := e) (e := e) (o := newE e C) (t' := t) (by rw [he]; exact True.intro) (.inl rfl) (h' := (h.push { cls := .type "tuple", data := .seq [u].toArray }).update e (Obj.mapFields (·.setIfInBounds 0 (Value.ref h.objs.size))))
   (fun b o hb hq => (Heap.get?_update_other _ _ (Ne.symm hb)).trans (Heap.get?_push_of_some _ hq)) ⟨_, hx2⟩ (newE_ok (t := h.objs.size) hx2)
 rw [hu] at z
 exact z
theorem pe_base {x : Str} {D : Addr} {np apos pos : Pos} {e : Expr} {es : List Expr} {t : TA} {pl : Sem Bool} (hg : Gl X x) (hm : X.mg x = some (.ref D)) (B : BaseInit K D) (ha : PA X (e :: es) t) (hK : X.K = K := by rfl)
   (hdb : (x == ("__debug__" : Str)) = false := by decide) (hst : starEach (e :: es) X.env = (false, eval e X.env) :: starEach es X.env := by rfl) (hpl : (backTo pos (starEach es X.env)).any (·.1) = false := by rfl)
   (ht : eval (.Call (.Attribute (.Name x np) "__init__" apos) (e :: es) [] pos) X.env = (do
     let ov ← eval (.Name x np) X.env
     standAt apos.atName
     let (f, first) ← holding [ov] (getMethod ov "__init__" pl)
     callWith pos f first (backTo pos (starEach (e :: es) X.env)) (backToKw pos (keywordEach [] X.env))) := by rfl) :
   PE X (.Call (.Attribute (.Name x np) "__init__" apos) (e :: es) [] pos) (tBase K t) := by
 subst hK
 intro pins s σ H Q I h
 refine PySem.W.methodCall_KW (pl := pl) (ld_glob I hg hm ?_ hdb) ht
 refine method_cls I.kIn B.ga (cls_value I.kIn B.rd B.fc rfl ?_)
 refine PyProof.Rows.callWith_builtin1 (thn (ha pos pins _ σ H _ (I.tok _) h) fun us s1 ⟨vs, H1, I1, r1, e1, C, D', f, y, ev, he, Z, q1⟩ => ?_) hst hpl
 subst ev
 obtain ⟨u1, u2, rfl, ru, _⟩ := vals2 r1
 cases ru
 exact init_base I1 he Z q1
noncomputable def sErr (K : Frag) (ta tv : TE) (f : Str) : TS := fun D σ H => tv σ H fun y H1 => ta σ H1 fun x H2 => ∃ e C B g, x = .ref e ∧ H2 e = some (newE e C) ∧ ErrC K C B g ∧ findIn K (.ref C) f = some none ∧
 ∀ d, H2 d = none → D.nx σ (upd (upd H2 d (.xd [(f, y)])) e (madeE e C d))
theorem Inv.errd {pins : List (Addr × Obj)} {σ : St} {H : Hp} {s : Shared} {h' : Heap} {t' : Nat} {e C d : Addr} {o1 o2 : HO} (I : Inv X pins σ H s) (he : H e = some (newE e C)) (hd : s.heap.objs.size ≤ d)
   (k : ∀ b o, b ≠ e → s.heap.get? b = some o → h'.get? b = some o) (z1 : ∀ H', ObjOk X.prog X.w H' h' d o1) (z2 : ∀ H', ObjOk X.prog X.w H' h' e o2) : Inv X pins σ (upd (upd H d o1) e o2) { s with heap := h', toks := t' } := by
 have hdn : H d = none := I.hok.fresh hd
 have hde : d ≠ e := fun q => by rw [q, he] at hdn; cases hdn
 have nb : ∀ b o, s.heap.get? b = some o → b ≠ d := fun b o q => Nat.ne_of_lt (Nat.lt_of_lt_of_le (Heap.lt_size q) hd)
 have ne : ∀ b, H b = none → b ≠ e := fun b q z => by rw [z, he] at q; cases q
 have go : ∀ b u, H b = some u → u ≠ newE e C → upd (upd H d o1) e o2 b = some u := fun b u q hu => by
   have : b ≠ e := fun z => by rw [z, he] at q; cases q; exact hu rfl
   rw [upd_ne this, upd_ne (ne_of_none q hdn)]
   exact q
 have tup : ∀ b xs, H b = some (.tup xs) → upd (upd H d o1) e o2 b = some (.tup xs) := fun b xs q => go b _ q (by unfold newE; intro z; cases z)
 refine I.un ⟨fun b o q n _ _ => k b o (ne b n) q, fun b o q n _ _ => ⟨o.slots, k b o (ne b n) q⟩, fun b o q n _ => by rw [upd_ne (ne b n), upd_ne (nb b o q)]; exact n, fun b o q _ => ?_, tup, fun b o u q => go b _ q (by unfold newE; intro z; cases z),
   fun b ps q => ⟨#[], by rw [go b _ q (by unfold newE; intro z; cases z)]; simp⟩⟩ fun b u q => ?_
 · by_cases hb : b = e
   · obtain ⟨o', q'⟩ := (z2 H).ob
     exact ⟨o', by rw [hb]; exact q'⟩
   · exact ⟨o, k b o hb q⟩
 · by_cases hb : b = e
   · subst hb; rw [upd_same] at q; cases q; exact z2 _
   · rw [upd_ne hb] at q
     by_cases hb2 : b = d
     · subst hb2; rw [upd_same] at q; cases q; exact z1 _
     · rw [upd_ne hb2] at q
       refine (I.hok b u q).stay (fun c v hc z => k c v ?_ z) (fun c z => go c _ z (by unfold newE; intro z; cases z)) tup
       rintro rfl
       rcases hc with z | z
       · exact hb z.symm
       · rw [he] at z; unfold newE at z; cases z
theorem ps_err {o value : Expr} {f : Str} {pos pos' : Pos} {ta tv : TE} (ha : PE X o ta) (hv : PE X value tv) (hs : swapsWith value (some (.Attribute o f pos')) pos.line X.env = pure false) (hK : X.K = K := by rfl) : PS X (.Assign [.Attribute o f pos'] value pos) (sErr K ta tv f) := by
 subst hK
 intro pins s σ H E I h
 refine plainObj_wpAny_Assign_Attribute (thn (hv pins s σ H _ I h) fun u s1 ⟨y, H1, I1, ry, q⟩ => thn (ha pins s1 σ H1 _ I1 q) fun ov s2 ⟨x, H2, I2, rx, e, C, B, g, ex, he, Z, hf, q2⟩ => ?_) hs
 subst ex
 obtain rfl : ov = Value.ref e := rx
 obtain ⟨t0, hx⟩ := newE_at (I2.hok e _ he)
 have J : InstAt s2.heap e (errObj C t0 none) C none := ⟨hx, rfl, rfl, True.intro⟩
 obtain ⟨N, nm, qn, bs, sn, sub, ab, col, dd, k0, k1, k2, k3, k5, hl, _, _⟩ := Z.obj
 obtain ⟨cd, hc, hm, hh⟩ : ∃ cd : ClassData, clsIn X.K C = some cd ∧ cd.mro = .ref C :: .ref B :: errTail ∧ cd.hasDict = true := ⟨_, by unfold clsIn; rw [hl], rfl, rfl⟩
 refine set_plain I2.kIn J Z.sa (store_exc (s := { s2 with toks := s2.toks + 1 }) I2.kIn J hc hm hf (store_first (s := { s2 with toks := s2.toks + 1 }) I2.kIn hx rfl rfl rfl hc hh fun h' t' z1 z2 z3 => ?_))
 refine ⟨σ, _, I2.errd (t' := t') (o1 := .xd [(f, y)]) he (Nat.le_refl _) z3 (fun H' => ⟨_, z2, fun n => ?_⟩) (fun H' => madeE_ok z1), q2 _ (I2.hok.fresh (Nat.le_refl _))⟩
 by_cases hn : n = f
 · subst hn
   simp only [List.lookup_cons, beq_self_eq_true, if_true]
   exact ry
 · have : (n == f) = false := beq_eq_false_iff_ne.mpr hn
   simp only [List.lookup_cons, this, if_neg hn, List.lookup_nil]
   exact True.intro
end
end L2
namespace L2
open PySem PySem.Spec PyProof.Rows PySem.W
noncomputable def del (H : Hp) (e : Addr) : Hp := fun b => if b = e then none else H b
theorem del_ne {H : Hp} {e b : Addr} (h : b ≠ e) : del H e b = H b := if_neg h
theorem del_same {H : Hp} {e : Addr} : del H e e = none := if_pos rfl
section
variable {M : Model} {A : Around} {E : Value → Shared → Prop} {env : Env}
theorem raise_any {K : Frag} {C D f : Addr} {s : Shared} {x : Sem Value} {Q : Flow → Shared → Prop} (Z : ErrC K C D f) (hh : A.handled = none)
   (h : wpAny M A x (fun v s1 => K.In s1.heap ∧ ∃ e t dx, v = .ref e ∧ s1.heap.get? e = some (errObj C t dx) ∧ E (.ref e) s1) E s) : wpAny M A (raiseStmt env (some x) none) Q E s := by
 unfold raiseStmt
 refine wpAny_bind (wpAny_mono h (fun v s1 z => ?_) fun _ _ y => y)
 obtain ⟨X, e, t0, dx, rfl, he, hE⟩ := z
 obtain ⟨N, nm, q, bs, sn, sub, ab, col, dd, k0, k1, k2, k3, k5, mN, hC, hN, hi, T⟩ := Z.here X
 have hB : (Value.ref C :: .ref D :: bmV).contains (.type "BaseException") = true := by rw [List.contains_cons, T.hasType errF.hasBase, Bool.or_true]
 obtain ⟨hp, g, d, tk, os⟩ := s1
 dsimp only at he hC
 repeat (first | with_reducible refine wpAny_loadPart_at he ?_ | with_reducible refine wpAny_loadPart_at hC ?_ | (with_reducible refine wpAny_isSubtype_exc hC ?_; rw [hB]) | wp_step)
 exact wpAny_raiseNew_none hh hE
end
noncomputable def MakesD (X : Cx) (J : XJ) : Prop := ∀ (pins : List (Addr × Obj)) (σ : St) (H : Hp) (s : Shared) (e C d : Addr), Inv X pins σ H s → X.s₀.heap.get? e = none → e ∉ frs X.stack → H e = some (madeE e C d) → J (.ref C) (some d) σ (del H e) → X.xe (.ref e) s
noncomputable def tRaiseI (J : XJ) (C : Addr) (sp : Sp) (t : TA) : TS := fun _ σ H => t σ H fun vs H1 => vs.length ≤ sizeLine ∧ ∀ e, H1 e = none →
 sp (.ref e :: vs) (upd H1 e (newE e C)) (fun v H2 => v = .non ∧ ∃ d, H2 e = some (madeE e C d) ∧ J (.ref C) (some d) σ (del H2 e)) (fun _ _ _ => False)
theorem ps_raiseI {X : Cx} {J : XJ} {K : Frag} {C D f : Addr} {fd : FuncData} {ps : List Str} {k : Nat} {sp : Sp} {x : Str} {np cpos pos : Pos} {e : Expr} {es : List Expr} {t : TA} (hx : MakesD X J) (hc : X.calm = true) (hg : Gl X x) (hm : X.mg x = some (.ref C)) (Z : ErrC K C D f) (hkp : keepIn K (.ref C) = true)
   (F : FnOk X.prog X.w X.K X.mg X.base CX0 k f fd ps sp) (hb : Binds X.K fd ps []) (hr : Room (k + 1) X.A) (ha : PA X (e :: es) t) (hK : X.K = K := by rfl)
   (hdb : (x == ("__debug__" : Str)) = false := by decide) (he : starEach (e :: es) X.env = (false, eval e X.env) :: starEach es X.env := by rfl) (hpl : (backTo cpos (starEach es X.env)).any (·.1) = false := by rfl) :
   PS X (.Raise (some (.Call (.Name x np) (e :: es) [] cpos)) none pos) (tRaiseI J C sp t) := by
 subst hK
 intro pins s σ H Dn I h
 have main : wpAny (model X.prog X.w) X.A (eval (.Call (.Name x np) (e :: es) [] cpos) X.env) (fun v s1 => X.K.In s1.heap ∧ ∃ e' t' dx, v = .ref e' ∧ s1.heap.get? e' = some (errObj C t' dx) ∧ X.xe (.ref e') s1) X.xe s := by
   refine wpAny_Call_Name_kw (ld_glob I hg hm ?_ hdb)
   refine PySem.W.callWith_K (h₀ := X.base) I.ok.mod.kin hkp (thn (ha cpos pins s σ H _ I h) fun us s1 ⟨vs, H1, I1, r, hl, q⟩ => ⟨I1.kIn, ?_⟩) he hpl
   obtain ⟨h1, g1, d1, t1, os1⟩ := s1
   refine call_err I1.kIn Z (by show us.length ≤ _; rw [← r.length]; exact hl) fun h' e1 hsz hmk => ?_
   have hn : H1 e1 = none := I1.hok.fresh hsz
   obtain ⟨tt, ht, htn, ht2⟩ := hmk.there
   have I2 : Inv X pins σ (upd H1 e1 (newE e1 C)) ⟨h', g1, d1, t1, os1⟩ := I1.laid (a := e1) (h' := h') (t' := t1) hmk.keeps hsz (newE_ok ht)
   have r2 : Vals (V.ref e1 :: vs) (Value.ref e1 :: us) := .cons rfl r
   have hlen : (Value.ref e1 :: us).length = ps.length := by rw [← r2.length]; exact F.len _ _ _ _ (q e1 hn)
   have hb1 := hb ⟨h', g1, d1, t1, os1⟩ (Value.ref e1 :: us) I2.kIn (by rw [List.append_nil]; exact hlen)
   rw [List.append_nil] at hb1
   refine wpAny_call (codeAny_mono (F.run _ X.stack _ _ ⟨Value.ref e1 :: us, []⟩ (Value.ref e1 :: us) _ _ _ (hr.make C us []) (I2.env0.make C us []) hb1 r2 (q e1 hn)) fun rr s' hq => ?_)
   cases rr with
   | error u => exact False.elim hq
   | ok fl =>
     cases fl with
     | ret u =>
       obtain ⟨v, H3, I3, rv, ev, dd, hm3, hj⟩ := I2.after hq
       subst ev
       refine ⟨rv, I3.kIn, e1, ?_⟩
       obtain ⟨t3, h3⟩ := madeE_at (I3.hok e1 _ hm3)
       have hs0 : X.s₀.heap.get? e1 = none := by
         cases z : X.s₀.heap.get? e1 with
         | none => rfl
         | some o => exact absurd (Nat.lt_of_lt_of_le (Heap.lt_size z) (Nat.le_trans I1.sz hsz)) (Nat.lt_irrefl _)
       have hst : e1 ∉ frs X.stack := fun z => by
         have := I3.stkFree e1 z
         rw [hm3] at this
         cases this
       exact ⟨_, _, rfl, h3, hx pins σ H3 s' e1 C dd I3 hs0 hst hm3 hj⟩
     | next => exact False.elim hq
     | brk => exact False.elim hq
     | cont => exact False.elim hq
 rw [arm_exec_Raise]
 refine wpAny_bind (wpAny_standAt (raise_any Z (I.ok.hd hc) ?_))
 exact wpAny_bind (wpAny_mono main (fun v s3 z => wpAny_bind (wpAny_standAt (wpAny_pure z))) fun _ _ y => y)
structure HasE (P : Program) (w : World) (K : Frag) (mg : Str → Option Value) (base : Heap) (C D : Addr) (ps : List Str) (k : Nat) (sp : Sp) : Prop where
 ex : ∃ (f : Addr) (fd : FuncData), ErrC K C D f ∧ keepIn K (.ref C) = true ∧ Binds K fd ps [] ∧ FnOk P w K mg base CX0 k f fd ps sp
theorem ps_raiseH {X : Cx} {J : XJ} {C D : Addr} {ps : List Str} {j k : Nat} {sp : Sp} {x : Str} {np cpos pos : Pos} {e : Expr} {es : List Expr} {t : TA} (hx : MakesD X J) (hc : X.calm = true) (h : HasE X.prog X.w X.K X.mg X.base C D ps j sp) (hr : Room k X.A) (hg : Gl X x) (hm : X.mg x = some (.ref C)) (ha : PA X (e :: es) t)
   (hk : j + 1 ≤ k := by decide) (hdb : (x == ("__debug__" : Str)) = false := by decide) (he : starEach (e :: es) X.env = (false, eval e X.env) :: starEach es X.env := by rfl) (hpl : (backTo cpos (starEach es X.env)).any (·.1) = false := by rfl) :
   PS X (.Raise (some (.Call (.Name x np) (e :: es) [] cpos)) none pos) (tRaiseI J C sp t) := by
 obtain ⟨f, fd, Z, kp, hb, F⟩ := h.ex
 exact ps_raiseI hx hc hg hm Z kp F hb (hr.mono hk) ha rfl hdb he hpl
section
variable {P : Program} {w : World} {K : PySem.W.Frag} {mg : Str → Option Value} {base : Heap} {N : List Str} {qual : Str} {scope : Scope} {f : Addr} {cd : Value} {A : Around} {outer : List Env} {s : Shared} {H : Hp} {E : XK}
theorem makesD_def : MakesD (cxOf (CX1 P w) P w K mg base N qual scope f cd A outer s H E) (fun cls dx _ H' => E cls dx H') := by
 intro pins σ H1 s1 e C d I hs0 hst he hj
 have hs0' : s.heap.get? e = none := hs0
 have fin : ∀ env ∈ (envOfC qual scope s.heap.objs.size f cd :: outer), ∀ b, env.frame = some b → b ∈ e :: frs (envOfC qual scope s.heap.objs.size f cd :: outer) := fun env hv b hb => List.mem_cons_of_mem _ (List.mem_filterMap.mpr ⟨env, hv, hb⟩)
 have old : ∀ b o, s.heap.get? b = some o → b ∉ frs outer → b ∉ e :: frs (envOfC qual scope s.heap.objs.size f cd :: outer) := fun b o e1 hb z => by
   rcases List.mem_cons.mp z with y | y
   · rw [y, hs0'] at e1; cases e1
   rw [frs_def] at y
   rcases List.mem_cons.mp y with y | y
   · exact absurd (Heap.lt_size e1) (by rw [y]; exact Nat.lt_irrefl _)
   · exact hb y
 have nx : ∀ b : Addr, b ∉ ([] : List Addr) := fun b => by simp
 have fr1 : ∀ b ∈ frs (envOfC qual scope s.heap.objs.size f cd :: outer), H1 b = none := I.stkFree
 obtain ⟨t0, hx⟩ := madeE_at (I.hok e _ he)
 have ne : ∀ b u, H1 b = some u → u ≠ madeE e C d → del H1 e b = some u := fun b u q hu => by
   have : b ≠ e := fun z => by rw [z, he] at q; cases q; exact hu rfl
   rw [del_ne this]; exact q
 show wpAny (model P w) (A.deeper (envOfC qual scope s.heap.objs.size f cd)) (leaving (envOfC qual scope s.heap.objs.size f cd) (.ref e)) _ _ s1
 have dE : ErrD e (some d) s1.heap := ⟨_, hx, rfl⟩
 have hin : PySem.W.hideAll s1.heap (e :: frs (envOfC qual scope s.heap.objs.size f cd :: outer)) |>.StaysIn s1.heap := fun b o q => PySem.W.of_hideAll _ q
 have hen : (PySem.W.hideAll s1.heap (e :: frs (envOfC qual scope s.heap.objs.size f cd :: outer))).get? e = none := PySem.W.hideAll_none _ (List.mem_cons_self ..)
 refine wpAny_mono (wpAny_keepsD (kd_leaving _ _) (wpAny_leaving_firstW (E := fun _ _ => False) (Q := fun _ s2 => ∃ h2, s2 = { s1 with heap := h2 } ∧ Heap.LeftW (PySem.W.hideAll s1.heap (e :: frs (envOfC qual scope s.heap.objs.size f cd :: outer))) (envOfC qual scope s.heap.objs.size f cd :: outer) e (.ref C) (.ref t0) s1.heap h2)
   (L := s.heap.objs.size) I.ok.frames (PySem.W.funFrames_hide I.stack fin) rfl hx hin hen rfl rfl rfl fun h2 x => ⟨h2, rfl, x⟩)) (fun _ s2 ⟨⟨h2, e2, x⟩, kd⟩ => ?_) (fun _ _ z => z.1.elim)
 subst e2
 obtain ⟨x1, ⟨_, _, x2⟩, x3, x4⟩ := x
 refine ⟨e, .ref C, .ref t0, _, del H1 e, some d, rfl, I.os, I.bare, ⟨fun b o e1 n hb => ?_, fun b o e1 n hb => ?_, fun b o e1 n => ?_, fun b o e1 hb => ?_, fun b xs y => ne b _ (I.base.tups b xs y) (by unfold madeE; intro z; cases z), fun b o u y => ne b _ (I.base.frzs b o u y) (by unfold madeE; intro z; cases z), fun b ps y => ?_⟩, ?_, ⟨x1, hen, x2, x3⟩, dE.go kd, hj⟩
 · exact PySem.W.hideAll_get _ (I.base.keep b o e1 n hb (nx b)) (old b o e1 hb)
 · obtain ⟨z, e2⟩ := I.base.slot b o e1 n hb (nx b)
   obtain ⟨_, o', e3, hd⟩ := I.ok.funs.mem hb
   have e3' : s.heap.get? b = some o' := e3
   rw [e1] at e3'
   cases e3'
   obtain ⟨z2, e4⟩ := x4 b _ e2 hd
   exact ⟨z2, e4⟩
 · have : b ≠ e := fun z => by rw [z, hs0'] at e1; cases e1
   rw [del_ne this]
   exact I.base.free b o e1 n (nx b)
 · obtain ⟨o', e2⟩ := I.base.there b o e1 (nx b)
   exact ⟨o', PySem.W.hideAll_get _ e2 (old b o e1 hb)⟩
 · obtain ⟨m1, y1⟩ := I.base.tbls b ps y
   exact ⟨m1, ne b _ y1 (by unfold madeE; intro z; cases z)⟩
 · intro a u y
   have ha : a ≠ e := fun z => by rw [z, del_same] at y; cases y
   rw [del_ne ha] at y
   refine (I.hok a u y).stay (fun b v hb q => PySem.W.hideAll_get _ q fun hm => ?_) (fun b q => ne b _ q (by unfold madeE; intro z; cases z)) fun b xs q => ne b _ q (by unfold madeE; intro z; cases z)
   rcases List.mem_cons.mp hm with hm | hm
   · rcases hb with rfl | hb
     · exact ha hm
     · rw [hm, he] at hb; unfold madeE at hb; cases hb
   · have z := fr1 b hm
     rcases hb with rfl | hb
     · rw [y] at z; cases z
     · rw [hb] at z; cases z
end
end L2
namespace L2
open PySem PySem.Spec PyProof.Rows PySem.W
structure ErrA (K : Frag) (C : Addr) (name : Str) : Prop where
 no : findIn K (.ref C) name = some none
 cd : ∃ cd, clsIn K C = some cd ∧ cd.hasDict = true
theorem ErrC.attr {K : Frag} {C D f : Addr} {name : Str} (Z : ErrC K C D f) (n : findIn K (.ref C) name = some none) : ErrA K C name := by
 obtain ⟨N, nm, qn, bs, sn, sub, ab, col, dd, k0, k1, k2, k3, k5, hl, _, _⟩ := Z.obj
 exact ⟨n, _, by unfold clsIn; rw [hl], rfl⟩
section
variable {prog : Program} {w : World} {A : Around} {E : Value → Shared → Prop} {h : Heap} {g : Array GenState} {d : Drawn} {t : Nat} {os : OsState} {a C dx : Addr} {o : Obj} {K : Frag} {mA : Str → Option Value} {v : Value} {name : Str}
theorem xat_call {tk : Tok} {R : Result → Shared → Prop} (X : K.In h) (Z : ExcC K C) (Y : ErrA K C name) (hx : h.get? a = some o) (hc : o.cls = .ref C) (hd : o.dict = some dx) {vs : Array Value} (hdat : o.data = .fields vs) (hn : h.Ns dx mA) (hv : mA name = some v) (hq : R (.ok (.ret v)) ⟨h, g, d, t, os⟩) :
   codeAny (model prog w) A (.call (.builtin "BaseException.__getattribute__") ⟨[.ref a, .str name tk], []⟩) R ⟨h, g, d, t, os⟩ := by
 obtain ⟨cd, hcd, hh⟩ := Y.cd
 exact codeAny_call_builtin F.attr_ValueError.ga.plain F.entry_bexc_ga (xcls_check X Z hx hc (xat_entry X Y.no hcd hh hx hc hd hdat hn hv hq))
theorem xat_by {tk : Tok} {fill expr : Bool} {Q : Value → Shared → Prop} (X : K.In h) (Z : ExcC K C) (Y : ErrA K C name) (hx : h.get? a = some o) (hc : o.cls = .ref C) (hd : o.dict = some dx) {vs : Array Value} (hdat : o.data = .fields vs) (hn : h.Ns dx mA) (hv : mA name = some v)
   (hh : handedIn v = true) (hq : Q v ⟨h, g, d, t, os⟩) : wpAny (model prog w) A (getAttrBy (.ref a) (.str name tk) fill expr) Q E ⟨h, g, d, t, os⟩ := by
 have f3 := F.attr_ValueError.ga.bind (.ref a)
 have hx0 : (expr && onTheHeap (Value.builtin "BaseException.__getattribute__")) = false := by cases expr <;> rfl
 have hx2 : (Value.builtin "BaseException.__getattribute__" == Value.builtin "object.__getattribute__") = false := by decide +kernel
 have hx1 : (onTheHeap (Value.ref C) && Value.builtin "BaseException.__getattribute__" == Value.builtin "object.__getattribute__") = false := by rw [hx2]; rfl
 have L1 : Looks (model prog w) h (typeLookup (.ref C) "__getattribute__") (some (.builtin "BaseException.__getattribute__")) := looks_findIn X Z.ga
 have L2' : Looks (model prog w) h (typeLookup (.ref C) "__getattr__") none := looks_findIn X Z.gt
 repeat (any_goals (first | assumption | (with_reducible refine wpAny_loadPart_at hx ?_; rw [hc]) | with_reducible refine L1.at ?_ | with_reducible refine L2'.at ?_ | wp_step))
 refine xat_call X Z Y hx hc hd hdat hn hv ?_
 repeat (any_goals (first | assumption | with_reducible refine handed_on hh ?_ | wp_step))
theorem xat_attr {expr : Bool} {Q : Value → Shared → Prop} (X : K.In h) (Z : ExcC K C) (Y : ErrA K C name) (hx : h.get? a = some o) (hc : o.cls = .ref C) (hd : o.dict = some dx) {vs : Array Value} (hdat : o.data = .fields vs) (hn : h.Ns dx mA) (hv : mA name = some v)
   (hh : handedIn v = true) (hq : Q v ⟨h, g, d, t + 1, os⟩) : wpAny (model prog w) A (getAttr (.ref a) name expr) Q E ⟨h, g, d, t, os⟩ := by
 unfold getAttr
 repeat (any_goals (first | assumption | with_reducible apply xat_by X Z Y hx hc hd hdat hn hv hh | wp_step))
end
noncomputable def tErrAt (K : Frag) (ta : TE) (f : Str) : TE := fun σ H Q => ta σ H fun x H1 => ∃ e C d fs v, x = .ref e ∧ H1 e = some (excX e (.ref C) (some d)) ∧ ExcC K C ∧ ErrA K C f ∧ H1 d = some (.xd fs) ∧ fs.lookup f = some v ∧ Q v H1
section
variable {X : Cx} {K : Frag}
theorem pe_errAt {e : Expr} {f : Str} {pos : Pos} {ta : TE} (he : PE X e ta) (hb : attributeBase e f X.env (eval e X.env) = eval e X.env := by rfl) (hK : X.K = K := by rfl) : PE X (.Attribute e f pos) (tErrAt K ta f) := by
 subst hK
 intro pins s σ H Q I h
 refine attr_of hb (thn (he pins s σ H _ I h) fun u s1 ⟨x, H1, I1, rx, a, C, d, fs, v, ex, ea, Z, Y, hd, hl, q⟩ => ?_)
 subst ex
 obtain rfl : u = Value.ref a := rx
 obtain ⟨⟨o, vs, e1, c1, d1, d2⟩, _⟩ := I1.hok a _ ea
 obtain ⟨mA, hn, hr⟩ := I1.hok d _ hd
 obtain ⟨u, hu, ru⟩ := RelO.some_of (v := v) (o := mA f) (by rw [← hl]; exact hr f)
 obtain ⟨h1, g1, dd1, t1, os1⟩ := s1
 exact xat_attr I1.kIn Z Y e1 c1 d2 d1 hn.ns hu (handed_of ru) ⟨v, H1, I1.tok _, ru, q⟩
end
end L2
namespace L2
open PySem PySem.Spec PyProof.Rows PySem.W
noncomputable def tMakeE (C : Addr) (sp : Sp) (t : TA) : TE := fun σ H Q => t σ H fun vs H1 => vs.length ≤ sizeLine ∧ ∀ e, H1 e = none → sp (.ref e :: vs) (upd H1 e (newE e C)) (fun v H2 => v = .non ∧ Q (.ref e) H2) (fun _ _ _ => False)
noncomputable def tMadeAt (K : Frag) (ta : TE) (f : Str) : TE := fun σ H Q => ta σ H fun x H1 => ∃ e C d fs v, x = .ref e ∧ H1 e = some (madeE e C d) ∧ ExcC K C ∧ ErrA K C f ∧ H1 d = some (.xd fs) ∧ fs.lookup f = some v ∧ Q v H1
section
variable {X : Cx} {K : Frag}
theorem pe_makeErr {C D : Addr} {ps : List Str} {j k : Nat} {sp : Sp} {x : Str} {np pos : Pos} {e : Expr} {es : List Expr} {t : TA} (h : HasE X.prog X.w X.K X.mg X.base C D ps j sp) (hr : Room k X.A) (hg : Gl X x) (hm : X.mg x = some (.ref C)) (ha : PA X (e :: es) t)
   (hk : j + 1 ≤ k := by decide) (hdb : (x == ("__debug__" : Str)) = false := by decide) (he : starEach (e :: es) X.env = (false, eval e X.env) :: starEach es X.env := by rfl) (hpl : (backTo pos (starEach es X.env)).any (·.1) = false := by rfl) :
   PE X (.Call (.Name x np) (e :: es) [] pos) (tMakeE C sp t) := by
 obtain ⟨f, fd, Z, kp, hb, F⟩ := h.ex
 intro pins s σ H Q I hw
 refine wpAny_Call_Name_kw (ld_glob I hg hm ?_ hdb)
 refine PySem.W.callWith_K (h₀ := X.base) I.ok.mod.kin kp (thn (ha pos pins s σ H _ I hw) fun us s1 ⟨vs, H1, I1, r, hl, q⟩ => ⟨I1.kIn, ?_⟩) he hpl
 obtain ⟨h1, g1, d1, t1, os1⟩ := s1
 refine call_err I1.kIn Z (by show us.length ≤ _; rw [← r.length]; exact hl) fun h' e1 hsz hmk => ?_
 have hn : H1 e1 = none := I1.hok.fresh hsz
 obtain ⟨tt, ht, htn, ht2⟩ := hmk.there
 have I2 : Inv X pins σ (upd H1 e1 (newE e1 C)) ⟨h', g1, d1, t1, os1⟩ := I1.laid (a := e1) (h' := h') (t' := t1) hmk.keeps hsz (newE_ok ht)
 have r2 : Vals (V.ref e1 :: vs) (Value.ref e1 :: us) := .cons rfl r
 have hlen : (Value.ref e1 :: us).length = ps.length := by rw [← r2.length]; exact F.len _ _ _ _ (q e1 hn)
 have hb1 := hb ⟨h', g1, d1, t1, os1⟩ (Value.ref e1 :: us) I2.kIn (by rw [List.append_nil]; exact hlen)
 rw [List.append_nil] at hb1
 refine wpAny_call (codeAny_mono (F.run _ X.stack _ _ ⟨Value.ref e1 :: us, []⟩ (Value.ref e1 :: us) _ _ _ ((hr.mono hk).make C us []) (I2.env0.make C us []) hb1 r2 (q e1 hn)) fun rr s' hq => ?_)
 cases rr with
 | error u => exact False.elim hq
 | ok fl =>
   cases fl with
   | ret u =>
     obtain ⟨v, H3, I3, rv, ev, q3⟩ := I2.after hq
     subst ev
     exact ⟨rv, .ref e1, H3, I3, rfl, q3⟩
   | next => exact False.elim hq
   | brk => exact False.elim hq
   | cont => exact False.elim hq
theorem pe_madeAt {e : Expr} {f : Str} {pos : Pos} {ta : TE} (he : PE X e ta) (hb : attributeBase e f X.env (eval e X.env) = eval e X.env := by rfl) (hK : X.K = K := by rfl) : PE X (.Attribute e f pos) (tMadeAt K ta f) := by
 subst hK
 intro pins s σ H Q I h
 refine attr_of hb (thn (he pins s σ H _ I h) fun u s1 ⟨x, H1, I1, rx, a, C, d, fs, v, ex, ea, Z, Y, hd, hl, q⟩ => ?_)
 subst ex
 obtain rfl : u = Value.ref a := rx
 obtain ⟨t0, e1⟩ := madeE_at (I1.hok a _ ea)
 obtain ⟨mA, hn, hr⟩ := I1.hok d _ hd
 obtain ⟨u, hu, ru⟩ := RelO.some_of (v := v) (o := mA f) (by rw [← hl]; exact hr f)
 obtain ⟨h1, g1, dd1, t1, os1⟩ := s1
 exact xat_attr I1.kIn Z Y e1 rfl rfl rfl hn.ns hu (handed_of ru) ⟨v, H1, I1.tok _, ru, q⟩
end
end L2
namespace Hb
end Hb
namespace Hb
open PySem L2
noncomputable abbrev Ms := List (Int × Int)
noncomputable def nd (ms : Ms) : Prop := (ms.map (·.1)).Nodup
noncomputable def nz (ms : Ms) : Prop := ∀ p ∈ ms, p.2 ≠ 0
noncomputable def addI (ms : Ms) (k n : Int) : Ms := if getI ms k + n = 0 then dropI ms k else putI ms k (getI ms k + n)
noncomputable def plusI (ms ns : Ms) : Ms := ns.foldl (fun acc p => addI acc p.1 p.2) ms
noncomputable def timesI (n : Int) (ms : Ms) : Ms := if n = 0 then [] else ms.map fun p => (p.1, n * p.2)
theorem lookI_mem {ms : Ms} {k v : Int} (h : lookI ms k = some v) : (k, v) ∈ ms := by
 induction ms with
 | nil => simp [lookI] at h
 | cons p ms ih =>
   rw [lookI_cons] at h
   by_cases e : p.1 = k
   · rw [if_pos e] at h
     have : p = (k, v) := by cases p; simp_all
     rw [this]; exact List.mem_cons_self ..
   · rw [if_neg e] at h
     exact List.mem_cons_of_mem _ (ih h)
theorem lookI_out {ms : Ms} {k : Int} (h : k ∉ ms.map (·.1)) : lookI ms k = none := by
 cases e : lookI ms k with
 | none => rfl
 | some v => exact absurd (List.mem_map_of_mem (f := (·.1)) (lookI_mem e)) h
theorem lookI_in {ms : Ms} (h : nd ms) {p : Int × Int} (hp : p ∈ ms) : lookI ms p.1 = some p.2 := by
 induction ms with
 | nil => cases hp
 | cons q ms ih =>
   rw [lookI_cons]
   unfold nd at h
   rw [List.map_cons, List.nodup_cons] at h
   rcases List.mem_cons.mp hp with rfl | hp
   · rw [if_pos rfl]
   · have : ¬ q.1 = p.1 := fun z => h.1 (by rw [z]; exact List.mem_map_of_mem (f := (·.1)) hp)
     rw [if_neg this]
     exact ih h.2 hp
theorem getI_out {ms : Ms} {k : Int} (h : k ∉ ms.map (·.1)) : getI ms k = 0 := by unfold getI; rw [lookI_out h]; rfl
theorem getI_cons (p : Int × Int) (ms : Ms) (k : Int) : getI (p :: ms) k = if p.1 = k then p.2 else getI ms k := by
 unfold getI; rw [lookI_cons]; split <;> rfl
theorem lookI_nz {ms : Ms} (h : nz ms) (k : Int) : lookI ms k = if getI ms k = 0 then none else some (getI ms k) := by
 unfold getI
 cases e : lookI ms k with
 | none => rfl
 | some v =>
   have := h _ (lookI_mem e)
   show some v = if v = 0 then none else some v
   rw [if_neg this]
theorem len_le : ∀ (l1 l2 : List Int), l1.Nodup → (∀ x ∈ l1, x ∈ l2) → l1.length ≤ l2.length
 | [], l2, _, _ => Nat.zero_le _
 | x :: l1, l2, h, hs => by
   rw [List.nodup_cons] at h
   have hx := hs x (List.mem_cons_self ..)
   have := len_le l1 (l2.erase x) h.2 fun y hy => by
     have ne : y ≠ x := fun z => h.1 (z ▸ hy)
     exact (List.mem_erase_of_ne ne).mpr (hs y (List.mem_cons_of_mem _ hy))
   have e := List.length_erase_of_mem hx
   have : 0 < l2.length := List.length_pos_of_mem hx
   rw [List.length_cons]
   omega
theorem nd_drop {ms : Ms} (h : nd ms) (k : Int) : nd (dropI ms k) := by
 unfold nd dropI at *
 exact List.Nodup.sublist (List.Sublist.map _ List.filter_sublist) h
theorem nz_drop {ms : Ms} (h : nz ms) (k : Int) : nz (dropI ms k) := fun p hp => h p (List.mem_filter.mp hp).1
theorem any_key {ms : Ms} {k : Int} : (ms.any fun p => decide (p.1 = k)) = true ↔ k ∈ ms.map (·.1) := by
 rw [List.any_eq_true, List.mem_map]
 constructor
 · rintro ⟨p, hp, e⟩; exact ⟨p, hp, by simpa using e⟩
 · rintro ⟨p, hp, e⟩; exact ⟨p, hp, by simpa using e⟩
theorem nd_put {ms : Ms} (h : nd ms) (k v : Int) : nd (putI ms k v) := by
 unfold nd putI at *
 split
 · rw [List.map_map]
   have e : ((fun p : Int × Int => p.1) ∘ fun p : Int × Int => if p.1 = k then (p.1, v) else p) = (·.1) := by
     funext p
     simp only [Function.comp]
     split <;> rfl
   rw [e]; exact h
 · rename_i hn
   rw [any_key] at hn
   rw [List.map_append, List.nodup_append]
   refine ⟨h, by simp, fun a ha b hb e => ?_⟩
   have : b = k := by simpa using hb
   exact hn (by rw [← this, ← e]; exact ha)
theorem mem_put {ms : Ms} {k v : Int} {p : Int × Int} (hp : p ∈ putI ms k v) : p ∈ ms ∨ p = (k, v) := by
 unfold putI at hp
 split at hp
 · obtain ⟨q, hq, e⟩ := List.mem_map.mp hp
   by_cases z : q.1 = k
   · rw [if_pos z] at e; right; rw [← e, z]
   · rw [if_neg z] at e; left; rw [← e]; exact hq
 · rcases List.mem_append.mp hp with h | h
   · exact .inl h
   · exact .inr (by simpa using h)
theorem len_put (ms : Ms) (k v : Int) : (putI ms k v).length ≤ ms.length + 1 := by
 unfold putI
 split
 · rw [List.length_map]; omega
 · rw [List.length_append]; simp
theorem len_drop (ms : Ms) (k : Int) : (dropI ms k).length ≤ ms.length := List.length_filter_le ..
theorem nz_put {ms : Ms} (h : nz ms) {k v : Int} (hv : v ≠ 0) : nz (putI ms k v) := fun p hp => by
 rcases mem_put hp with q | q
 · exact h p q
 · rw [q]; exact hv
theorem nd_add {ms : Ms} (h : nd ms) (k n : Int) : nd (addI ms k n) := by unfold addI; split; exact nd_drop h k; exact nd_put h k _
theorem nz_add {ms : Ms} (h : nz ms) (k n : Int) : nz (addI ms k n) := by
 unfold addI
 split
 · exact nz_drop h k
 · rename_i q; exact nz_put h q
theorem len_add (ms : Ms) (k n : Int) : (addI ms k n).length ≤ ms.length + 1 := by
 unfold addI
 split
 · have := len_drop ms k; omega
 · exact len_put ..
theorem get_add (ms : Ms) (k n j : Int) : getI (addI ms k n) j = if j = k then getI ms j + n else getI ms j := by
 unfold addI
 split
 · rename_i q
   unfold getI at *
   rw [lookI_drop]
   by_cases e : j = k
   · subst e; simp; omega
   · simp [e]
 · unfold getI at *
   rw [lookI_put]
   by_cases e : j = k
   · subst e; simp
   · simp [e]
theorem plus_ok : ∀ (ns ms : Ms), nd ms → nz ms → nd ns → nd (plusI ms ns) ∧ nz (plusI ms ns) ∧ (plusI ms ns).length ≤ ms.length + ns.length ∧ ∀ j, getI (plusI ms ns) j = getI ms j + getI ns j
 | [], ms, h1, h2, _ => ⟨h1, h2, by simp [plusI], fun j => by simp [plusI, getI, lookI]⟩
 | p :: ns, ms, h1, h2, h3 => by
   unfold nd at h3
   rw [List.map_cons, List.nodup_cons] at h3
   obtain ⟨r1, r2, r3, r4⟩ := plus_ok ns (addI ms p.1 p.2) (nd_add h1 _ _) (nz_add h2 _ _) h3.2
   refine ⟨r1, r2, ?_, fun j => ?_⟩
   · have := len_add ms p.1 p.2
     show (plusI (addI ms p.1 p.2) ns).length ≤ _
     rw [List.length_cons]; omega
   · show getI (plusI (addI ms p.1 p.2) ns) j = _
     rw [r4, get_add, getI_cons]
     by_cases e : j = p.1
     · have := getI_out h3.1
       subst e
       simp [this]
     · have e' : ¬ p.1 = j := fun z => e z.symm
       simp [e, e']
theorem ndup_times {ms : Ms} (h : nd ms) (n : Int) : nd (ms.map fun p => (p.1, n * p.2)) := by
 unfold nd at *
 rw [List.map_map]
 exact h
end Hb
namespace Hb
open PySem L2
theorem len_plus : ∀ (ns ms : Ms), (plusI ms ns).length ≤ ms.length + ns.length
 | [], ms => by simp [plusI]
 | p :: ns, ms => by
   have h1 := len_plus ns (addI ms p.1 p.2)
   have h2 := len_add ms p.1 p.2
   show (plusI (addI ms p.1 p.2) ns).length ≤ _
   rw [List.length_cons]; omega
theorem plus_take {ms ns : Ms} {i : Nat} {q : Int × Int} (h : ns[i]? = some q) : plusI ms (ns.take (i + 1)) = addI (plusI ms (ns.take i)) q.1 q.2 := by
 unfold plusI
 rw [List.take_add_one, h, List.foldl_append]
 rfl
end Hb
namespace Hb
noncomputable def facesBy (w : List Int) (fam : Int) : List (List Int) :=
 if fam = 0 then (if w.length < 2 then [] else (List.range w.length).map fun i => w.take i ++ w.drop (i + 1))
 else if w.length = 0 then []
 else if fam < 0 then (if w.length = 1 then [[], []] else w.map fun l => [l])
 else w.drop 1 :: ((List.range (w.length - 1)).map fun i => w.take i ++ [(w.getD i 0 + w.getD (i + 1) 0) % fam] ++ w.drop (i + 2)) ++ [w.take (w.length - 1)]
noncomputable def Word (fam : Int) (w : List Int) : Prop :=
 (fam = 0 ∧ 1 ≤ w.length ∧ w.length ≤ 4) ∨ (fam < 0 ∧ (w.length = 0 ∨ w.length = 1 ∨ w.length = 3)) ∨ (0 < fam ∧ w.length ≤ 3)
noncomputable def lv (fam : Int) (w : List Int) : Nat := if fam = 0 then w.length - 1 else if fam < 0 then (if w.length = 3 then 2 else w.length) else w.length
theorem word_cases {fam : Int} {w : List Int} (h : Word fam w) :
   (fam = 0 ∧ ((∃ a, w = [a]) ∨ (∃ a b, w = [a, b]) ∨ (∃ a b c, w = [a, b, c]) ∨ ∃ a b c d, w = [a, b, c, d])) ∨
   (fam < 0 ∧ (w = [] ∨ (∃ a, w = [a]) ∨ ∃ a b c, w = [a, b, c])) ∨
   (0 < fam ∧ (w = [] ∨ (∃ a, w = [a]) ∨ (∃ a b, w = [a, b]) ∨ ∃ a b c, w = [a, b, c])) := by
 rcases h with ⟨h0, h1, h2⟩ | ⟨h0, h1⟩ | ⟨h0, h1⟩
 · left
   refine ⟨h0, ?_⟩
   match w, h1, h2 with
   | [a], _, _ => exact .inl ⟨a, rfl⟩
   | [a, b], _, _ => exact .inr (.inl ⟨a, b, rfl⟩)
   | [a, b, c], _, _ => exact .inr (.inr (.inl ⟨a, b, c, rfl⟩))
   | [a, b, c, d], _, _ => exact .inr (.inr (.inr ⟨a, b, c, d, rfl⟩))
   | _ :: _ :: _ :: _ :: _ :: _, _, h => simp at h
 · right; left
   refine ⟨h0, ?_⟩
   match w, h1 with
   | [], _ => exact .inl rfl
   | [a], _ => exact .inr (.inl ⟨a, rfl⟩)
   | [a, b], h => simp at h
   | [a, b, c], _ => exact .inr (.inr ⟨a, b, c, rfl⟩)
   | _ :: _ :: _ :: _ :: _, h => simp at h
 · right; right
   refine ⟨h0, ?_⟩
   match w, h1 with
   | [], _ => exact .inl rfl
   | [a], _ => exact .inr (.inl ⟨a, rfl⟩)
   | [a, b], _ => exact .inr (.inr (.inl ⟨a, b, rfl⟩))
   | [a, b, c], _ => exact .inr (.inr (.inr ⟨a, b, c, rfl⟩))
   | _ :: _ :: _ :: _ :: _, h => simp at h
theorem f0_3 (a b c : Int) : facesBy [a, b, c] 0 = [[b, c], [a, c], [a, b]] := rfl
theorem f0_4 (a b c d : Int) : facesBy [a, b, c, d] 0 = [[b, c, d], [a, c, d], [a, b, d], [a, b, c]] := rfl
section
variable {fam : Int}
theorem fn_1 (h : fam < 0) (a : Int) : facesBy [a] fam = [[], []] := by unfold facesBy; rw [if_neg (by omega), if_neg (by simp), if_pos h, if_pos (by simp)]
theorem fn_3 (h : fam < 0) (a b c : Int) : facesBy [a, b, c] fam = [[a], [b], [c]] := by unfold facesBy; rw [if_neg (by omega), if_neg (by simp), if_pos h, if_neg (by simp)]; rfl
theorem fp_1 (h : 0 < fam) (a : Int) : facesBy [a] fam = [[], []] := by unfold facesBy; rw [if_neg (by omega), if_neg (by simp), if_neg (by omega)]; rfl
theorem fp_2 (h : 0 < fam) (a b : Int) : facesBy [a, b] fam = [[b], [(a + b) % fam], [a]] := by unfold facesBy; rw [if_neg (by omega), if_neg (by simp), if_neg (by omega)]; rfl
theorem fp_3 (h : 0 < fam) (a b c : Int) : facesBy [a, b, c] fam = [[b, c], [(a + b) % fam, c], [a, (b + c) % fam], [a, b]] := by unfold facesBy; rw [if_neg (by omega), if_neg (by simp), if_neg (by omega)]; rfl
theorem faces_agree {w f g : List Int} {i j : Nat} (h : Word fam w) (hl : 2 ≤ lv fam w) (hij : i < j) (hf : (facesBy w fam)[j]? = some f) (hg : (facesBy w fam)[i]? = some g) : (facesBy f fam)[i]? = (facesBy g fam)[j - 1]? := by
 have hj : j < (facesBy w fam).length := (List.getElem?_eq_some_iff.mp hf).1
 rcases word_cases h with ⟨h0, ⟨a, rfl⟩ | ⟨a, b, rfl⟩ | ⟨a, b, c, rfl⟩ | ⟨a, b, c, d, rfl⟩⟩ | ⟨h0, rfl | ⟨a, rfl⟩ | ⟨a, b, c, rfl⟩⟩ | ⟨h0, rfl | ⟨a, rfl⟩ | ⟨a, b, rfl⟩ | ⟨a, b, c, rfl⟩⟩
 · subst h0; simp [lv] at hl
 · subst h0; simp [lv] at hl
 · subst h0
   rw [f0_3] at hf hg hj
   have hc : (i = 0 ∧ j = 1) ∨ (i = 0 ∧ j = 2) ∨ (i = 1 ∧ j = 2) := by simp at hj; omega
   rcases hc with ⟨rfl, rfl⟩ | ⟨rfl, rfl⟩ | ⟨rfl, rfl⟩
   · simp at hf hg; subst hf hg; rfl
   · simp at hf hg; subst hf hg; rfl
   · simp at hf hg; subst hf hg; rfl
 · subst h0
   rw [f0_4] at hf hg hj
   have hc : (i = 0 ∧ j = 1) ∨ (i = 0 ∧ j = 2) ∨ (i = 0 ∧ j = 3) ∨ (i = 1 ∧ j = 2) ∨ (i = 1 ∧ j = 3) ∨ (i = 2 ∧ j = 3) := by simp at hj; omega
   rcases hc with ⟨rfl, rfl⟩ | ⟨rfl, rfl⟩ | ⟨rfl, rfl⟩ | ⟨rfl, rfl⟩ | ⟨rfl, rfl⟩ | ⟨rfl, rfl⟩
   · simp at hf hg; subst hf hg; rfl
   · simp at hf hg; subst hf hg; rfl
   · simp at hf hg; subst hf hg; rfl
   · simp at hf hg; subst hf hg; rfl
   · simp at hf hg; subst hf hg; rfl
   · simp at hf hg; subst hf hg; rfl
 all_goals have e : ¬ fam = 0 := by omega
 · simp [lv, e, h0] at hl
 · simp [lv, e, h0] at hl
 · rw [fn_3 h0] at hf hg hj
   have hc : (i = 0 ∧ j = 1) ∨ (i = 0 ∧ j = 2) ∨ (i = 1 ∧ j = 2) := by simp at hj; omega
   rcases hc with ⟨rfl, rfl⟩ | ⟨rfl, rfl⟩ | ⟨rfl, rfl⟩
   · simp at hf hg; subst hf hg; simp [fn_1 h0]
   · simp at hf hg; subst hf hg; simp [fn_1 h0]
   · simp at hf hg; subst hf hg; simp [fn_1 h0]
 all_goals have e' : ¬ fam < 0 := by omega
 · simp [lv, e, e'] at hl
 · simp [lv, e, e'] at hl
 · rw [fp_2 h0] at hf hg hj
   have hc : (i = 0 ∧ j = 1) ∨ (i = 0 ∧ j = 2) ∨ (i = 1 ∧ j = 2) := by simp at hj; omega
   rcases hc with ⟨rfl, rfl⟩ | ⟨rfl, rfl⟩ | ⟨rfl, rfl⟩
   · simp at hf hg; subst hf hg; simp [fp_1 h0]
   · simp at hf hg; subst hf hg; simp [fp_1 h0]
   · simp at hf hg; subst hf hg; simp [fp_1 h0]
 · rw [fp_3 h0] at hf hg hj
   have hc : (i = 0 ∧ j = 1) ∨ (i = 0 ∧ j = 2) ∨ (i = 0 ∧ j = 3) ∨ (i = 1 ∧ j = 2) ∨ (i = 1 ∧ j = 3) ∨ (i = 2 ∧ j = 3) := by simp at hj; omega
   rcases hc with ⟨rfl, rfl⟩ | ⟨rfl, rfl⟩ | ⟨rfl, rfl⟩ | ⟨rfl, rfl⟩ | ⟨rfl, rfl⟩ | ⟨rfl, rfl⟩
   · simp at hf hg; subst hf hg; simp [fp_2 h0]
   · simp at hf hg; subst hf hg; simp [fp_2 h0]
   · simp at hf hg; subst hf hg; simp [fp_2 h0]
   · skip
     simp at hf hg; subst hf hg
     simp only [fp_2 h0, List.getElem?_cons_succ, List.getElem?_cons_zero, Nat.add_one_sub_one]
     congr 2
     rw [Int.add_emod_emod, Int.emod_add_emod, Int.add_assoc]
   · simp at hf hg; subst hf hg; simp [fp_2 h0]
   · simp at hf hg; subst hf hg; simp [fp_2 h0]
end
noncomputable def lev (p : List Int) : Nat := p.length - 1
structure Fits (xs : List (List Int)) (p : List Int) : Prop where
 cnt : p.length = 0 ∨ p.length = 2 ∨ p.length = 3 ∨ p.length = 4
 low : ∀ f ∈ p, 0 ≤ f
 bel : ∀ f ∈ p, ∃ q, xs[f.toNat]? = some q ∧ lev q + 1 = lev p
 agr : 3 ≤ p.length → ∀ (i j : Nat) (f g : Int) (q r : List Int), i < j → p[j]? = some f → p[i]? = some g → xs[f.toNat]? = some q → xs[g.toNat]? = some r → q[i]? = r[j - 1]?
noncomputable def IsShape (xs : List (List Int)) : Prop := ∀ (k : Nat) (p : List Int), xs[k]? = some p → Fits (xs.take k) p
end Hb
namespace Hb
noncomputable def pc (xs : List (List Int)) (p : Int) : List Int := xs.getD p.toNat []
section
variable {xs : List (List Int)}
end
end Hb
namespace Hb
open PySem L2
noncomputable def cellAt (ns : List Int) (k : Int) : Int := ns.getD k.toNat 0
noncomputable abbrev LT (K : PySem.W.Frag) (H : Hp) (v : V) (xs : List (List Int)) : Prop := Rep K H v (.lst (xs.map tI))
noncomputable abbrev TI (K : PySem.W.Frag) (H : Hp) (v : V) (ns : List Int) : Prop := Rep K H v (tI ns)
section
variable {K : PySem.W.Frag} {H H' : Hp}
theorem TI.sq {v : V} {ns : List Int} (h : TI K H v ns) : ∃ a, v = .ref a ∧ SqT K H a (ns.map V.int) := by
 obtain ⟨a, vs, e, q, r⟩ := h
 rw [reps_nums.mp r] at q
 exact ⟨a, e, q⟩
theorem TI.mk {a : Addr} {ns : List Int} (h : SqT K H a (ns.map V.int)) : TI K H (.ref a) ns := ⟨a, _, rfl, h, reps_nums.mpr rfl⟩
theorem TI.same {v : V} {ns : List Int} (s : Same H H') (h : TI K H v ns) : TI K H' v ns := Rep.same s h
theorem cut_take (xs : List V) (k : Nat) : cutV xs none (some (k : Int)) = xs.take k := by
 unfold cutV
 rw [HT.sIx_none, HT.sIx_nat, Nat.sub_zero, List.drop_zero, List.take_eq_take_iff]
 omega
noncomputable def SameX (B : Addr) (H H' : Hp) : Prop := ∀ b o, b ≠ B → H b = some o → H' b = some o
theorem SameX.of {B : Addr} {H H1 : Hp} (a : Same H H1) : SameX B H H1 := fun c o _ h => a c o h
theorem SameX.upd {B : Addr} {H H1 : Hp} {o : HO} (a : SameX B H H1) : SameX B H (upd H1 B o) := fun c u n h => by rw [upd_ne n]; exact a c u n h
theorem deps_nums : ∀ ns : List Int, deps (nums ns) = 0
 | [] => rfl
 | n :: ns => by show max (dep (.int n)) (deps (nums ns)) = 0; rw [deps_nums ns]; rfl
theorem deps_tIs : ∀ xs : List (List Int), deps (xs.map tI) ≤ 1
 | [] => Nat.zero_le _
 | x :: xs => by
   have h1 := deps_tIs xs
   have h2 : dep (tI x) = 1 := by show deps (nums x) + 1 = 1; rw [deps_nums]
   show max (dep (tI x)) (deps (xs.map tI)) ≤ 1
   omega
theorem ifP {c A B : Prop} [Decidable c] (hc : c) (h : A) : if c then A else B := by rw [if_pos hc]; exact h
theorem ifN {c A B : Prop} [Decidable c] (hc : ¬ c) (h : B) : if c then A else B := by rw [if_neg hc]; exact h
theorem neI {a b : Int} (h : ¬ a = b) : (!decide (V.int a = V.int b)) = true := by simp [h]
theorem eqI {a b : Int} (h : a = b) : ¬ (!decide (V.int a = V.int b)) = true := by simp [h]
theorem noI {a b : Int} (h : ¬ a = b) : ¬ decide (V.int a = V.int b) = true := by simp [h]
theorem comp_tup0 {g : TG} {te : TE} {D : Addr} {Q : Hp → Prop} {τ : St} {H : Hp} {K : PySem.W.Frag} {a : Addr} {xs : List V} (Pv : Nat → List V → St → Hp → Prop) (h0 : Pv 0 [] τ H) (hl : ∀ i ys τ H, i ≤ xs.length → Pv i ys τ H → SqT K H a xs)
   (hs : ∀ i x ys τ H, xs[i]? = some x → Pv i ys τ H → g x τ H fun τ2 H2 => te τ2 H2 fun y H4 => H4 D = some (.lst ys) ∧ ys.length < sizeLine ∧ Pv (i + 1) (ys ++ [y]) τ2 (upd H4 D (.lst (ys ++ [y]))))
   (hd : ∀ ys τ H, Pv xs.length ys τ H → Q H) : RunC (Itt K a) g tYes te D Q τ H := comp_tup Pv h0 hl (fun i x ys τ H e p => hs i x ys τ H e p) hd
theorem comp_range0 {g : TG} {te : TE} {D : Addr} {Q : Hp → Prop} {τ : St} {H : Hp} {lo : Int} {n : Nat} (Pv : Nat → List V → St → Hp → Prop) (h0 : Pv 0 [] τ H)
   (hs : ∀ i ys τ H, i < n → Pv i ys τ H → g (.int (lo + i)) τ H fun τ2 H2 => te τ2 H2 fun y H4 => H4 D = some (.lst ys) ∧ ys.length < sizeLine ∧ Pv (i + 1) (ys ++ [y]) τ2 (upd H4 D (.lst (ys ++ [y]))))
   (hd : ∀ ys τ H, Pv n ys τ H → Q H) : RunC (Itr lo n) g tYes te D Q τ H := comp_range Pv h0 (fun i ys τ H e p => hs i ys τ H e p) hd
theorem tSeq_cut {t u : TS} {D : Ends} {σ : St} {H : Hp} (P : St → Hp → Prop) (hu : ∀ σ' H', P σ' H' → u D σ' H') (h : (∀ σ' H', P σ' H' → u D σ' H') → tSeq t u D σ H) : tSeq t u D σ H := h hu
theorem small {n : Nat} (h : n ≤ 1000000) : n < sizeLine := Nat.lt_of_le_of_lt h (by decide)
theorem smallE {n : Nat} (h : n ≤ 1000000) : n ≤ sizeLine := Nat.le_of_lt (small h)
end
section
variable (K : PySem.W.Frag)
noncomputable def sp_cell_at : Sp := fun vs H Q _ => ∃ (a : Addr) (ns : List Int) (k : Int), vs = [.ref a, .int k] ∧ SqL K H a (ns.map V.int) ∧ 0 ≤ k ∧ ns.length ≤ 63 ∧ Q (.int (cellAt ns k)) H
noncomputable def sp_law : Sp := fun vs H Q _ => ∃ (a : Addr) (ns : List Int), vs = [.ref a] ∧ SqL K H a (ns.map V.int) ∧ ns.length ≤ 63 ∧ ∀ H', Q (.bl true) H'
end
end Hb
namespace Hb
open PySem L2
noncomputable def wholeD (d : L2.D) : Bool := isD "int" d && !isD "bool" d
noncomputable def belowD (d : L2.D) (b : Int) : Bool := match d with
 | .int i => decide (0 ≤ i) && decide (i < b)
 | _ => false
noncomputable def levI (n : Nat) : Int := if (0 : Int) > (n : Int) - 1 then 0 else (n : Int) - 1
noncomputable def placeLev (xs : List (List Int)) (d : L2.D) (l : Int) : Bool := match d with
 | .int i => decide (0 ≤ i) && decide (i < (xs.length : Int)) && decide (levI (xs.getD i.toNat []).length = l)
 | _ => false
noncomputable def agreeAt (xs : List (List Int)) (p : List Int) (j i : Nat) : Bool := decide ((xs.getD (p.getD j 0).toNat []).getD i 0 = (xs.getD (p.getD i 0).toNat []).getD (j - 1) 0)
noncomputable def agreeB (xs : List (List Int)) (p : List Int) : Bool := (List.range p.length).all fun j => (List.range j).all fun i => agreeAt xs p j i
noncomputable def toI : L2.D → Int
 | .int i => i
 | _ => 0
noncomputable def cntB (n : Nat) : Bool := n == 0 || n == 2 || n == 3 || n == 4
noncomputable def fitsD (xs : List (List Int)) (d : L2.D) : Bool := match d with
 | .tup ds => cntB ds.length && ds.all (fun e => placeLev xs e (levI ds.length - 1)) && (decide (levI ds.length < 2) || agreeB xs (ds.map toI))
 | _ => false
theorem fitsD_tup (xs : List (List Int)) (ds : List L2.D) : fitsD xs (.tup ds) = (cntB ds.length && ds.all (fun e => placeLev xs e (levI ds.length - 1)) && (decide (levI ds.length < 2) || agreeB xs (ds.map toI))) := rfl
theorem cntB_le {n : Nat} (h : cntB n = true) : n ≤ 4 ∧ n ≠ 1 := by
 unfold cntB at h
 simp only [Bool.or_eq_true, beq_iff_eq] at h
 omega
section
variable (K : PySem.W.Frag)
noncomputable def sp_is_whole : Sp := fun vs H Q _ => ∃ (x : V) (d : L2.D), vs = [x] ∧ Rep K H x d ∧ Q (.bl (wholeD d)) H
noncomputable abbrev sp_L_whole : Sp := sp_is_whole K
noncomputable def sp_is_whole_below : Sp := fun vs H Q _ => ∃ (x : V) (d : L2.D) (b : Int), vs = [x, .int b] ∧ Rep K H x d ∧ Q (.bl (belowD d b)) H
noncomputable def sp_level_of : Sp := fun vs H Q _ => ∃ (x : V) (ds : List L2.D), vs = [x] ∧ SeqD K H x ds ∧ Q (.int (levI ds.length)) H
noncomputable def sp_is_place_of_level : Sp := fun vs H Q _ => ∃ (a : Addr) (x : V) (d : L2.D) (l : Int) (xs : List (List Int)), vs = [.ref a, x, .int l] ∧ LT K H (.ref a) xs ∧ Rep K H x d ∧ Q (.bl (placeLev xs d l)) H
noncomputable def sp_faces_agree : Sp := fun vs H Q _ => ∃ (a : Addr) (v : V) (xs : List (List Int)) (p : List Int), vs = [.ref a, v] ∧ LT K H (.ref a) xs ∧ TI K H v p ∧ p.length ≤ 4 ∧
 (∀ f ∈ p, 0 ≤ f ∧ f < (xs.length : Int) ∧ (xs.getD f.toNat []).length + 1 = p.length) ∧ Q (.bl (agreeB xs p)) H
noncomputable abbrev sp_L_cell_at : Sp := sp_cell_at K
end
section
variable {K : PySem.W.Frag} {H : Hp}
theorem wholeD_int {d : L2.D} (h : wholeD d = true) : ∃ i, d = .int i := by
 cases d <;> simp [wholeD, isD] at h
 exact ⟨_, rfl⟩
theorem LT.get {a : Addr} {xs : List (List Int)} {i : Int} (h : LT K H (.ref a) xs) (h0 : 0 ≤ i) (h1 : i < (xs.length : Int)) : ∃ us v, SqL K H a us ∧ atI us i = some v ∧ TI K H v (xs.getD i.toNat []) := by
 obtain ⟨a', us, e, hq, r⟩ := h
 cases e
 obtain ⟨j, rfl⟩ := Int.eq_ofNat_of_zero_le h0
 have hj : j < xs.length := by omega
 have e : (xs.map tI)[j]? = some (tI xs[j]) := by rw [List.getElem?_map, List.getElem?_eq_getElem hj]; rfl
 obtain ⟨v, hv, tv⟩ := r.get e
 refine ⟨us, v, hq, atI_nat hv, ?_⟩
 rw [Int.toNat_natCast, List.getD_eq_getElem?_getD, List.getElem?_eq_getElem hj]
 exact tv
theorem LT.len {a : Addr} {xs : List (List Int)} (h : LT K H (.ref a) xs) : ∃ us, SqL K H a us ∧ us.length = xs.length := by
 obtain ⟨a', us, e, hq, r⟩ := h
 cases e
 exact ⟨us, hq, by have := r.length; simpa using this⟩
theorem TI.get {v : V} {p : List Int} {i : Int} (h : TI K H v p) (h0 : 0 ≤ i) (h1 : i < (p.length : Int)) : ∃ a, v = .ref a ∧ SqT K H a (p.map V.int) ∧ atI (p.map V.int) i = some (.int (p.getD i.toNat 0)) := by
 obtain ⟨a, e, hq⟩ := h.sq
 refine ⟨a, e, hq, ?_⟩
 obtain ⟨j, rfl⟩ := Int.eq_ofNat_of_zero_le h0
 have hj : j < p.length := by omega
 refine atI_nat ?_
 rw [List.getElem?_map, List.getElem?_eq_getElem hj]
 simp [hj]
theorem levI_eq (n : Nat) : levI n = ((n - 1 : Nat) : Int) := by unfold levI; split <;> omega
theorem all_nums {xs : List (List Int)} {l : Int} : ∀ {ds : List L2.D}, ds.all (fun e => placeLev xs e l) = true → ds = nums (ds.map toI)
 | [], _ => rfl
 | d :: ds, h => by
   simp only [List.all_cons, Bool.and_eq_true] at h
   cases d with
   | int i =>
     show L2.D.int i :: ds = L2.D.int i :: nums (ds.map toI)
     rw [← all_nums h.2]
   | _ => simp [placeLev] at h
end
end Hb
namespace L2
open PySem PySem.Spec PyProof.Rows
section
variable {X : Cx} {sc : Scope} {N' : List Str} {cap : List (Option Nat)} {xc : Str} {pins : List (Addr × Obj)} {σ : St} {H : Hp} {s : Shared} {C c : Addr} {fp : List Addr}
end
section
variable {X : Cx} {sc : Scope} {N' : List Str} {cap : List (Option Nat)} {xc : Str} {tg elt iter : Expr} {ifs : List Expr} {pos : Pos} {g : TG} {tc : TT} {te : TE}
end
end L2
namespace Hb
open PySem L2
section
variable {H H1 : Hp} {a : Addr} {ms : Ms} {k v : Int}
theorem dget_ok (rd : Rd H a (.dK (cK ms))) : DGet H a (.int k) ((lookI ms k).map V.int) := .inl ⟨cK ms, .inl k, rd, rfl, (cK_val ms k).symm⟩
theorem dget_at (rd : Rd H a (.dK (cK ms))) (h : lookI ms k = some v) : DGet H a (.int k) (some (.int v)) := .inl ⟨cK ms, .inl k, rd, rfl, by rw [cK_val, h]; rfl⟩
theorem dput_ok (h : H a = some (.dK (cK ms))) (hl : ms.length ≤ 1000000) : DPut H a (.int k) (.int v) (upd H a (.dK (cK (putI ms k v)))) := by
 rw [← cK_put]
 exact .inl ⟨cK ms, .inl k, h, rfl, by unfold cK; rw [List.length_map]; exact small hl, rfl⟩
theorem cK_get {i : Nat} {kk : Key} {x : V} (h : (cK ms)[i]? = some (kk, x)) : ∃ p : Int × Int, ms[i]? = some p ∧ kk = .inl p.1 ∧ x = .int p.2 := by
 unfold cK at h
 rw [List.getElem?_map] at h
 cases e : ms[i]? with
 | none => rw [e] at h; cases h
 | some p =>
   rw [e] at h
   have := Option.some.inj h
   simp only [Prod.mk.injEq] at this
   exact ⟨p, rfl, this.1.symm, this.2.symm⟩
theorem cK_len : (cK ms).length = ms.length := by unfold cK; rw [List.length_map]
theorem upd_id {o : HO} (h : H a = some o) : upd H a o = H := by
 funext b
 by_cases e : b = a
 · rw [e, upd_same, h]
 · rw [upd_ne e]
theorem frz_free {x : HO} {D : Addr} (h : (upd H a x) D = none) : H D = none ∧ D ≠ a := by
 have n : D ≠ a := fun z => by rw [z, upd_same] at h; cases h
 rw [upd_ne n] at h
 exact ⟨h, n⟩
end
noncomputable def newC (H : Hp) (ms : Ms) (Q : V → Hp → Prop) : Prop := ∀ (D : Addr) (H' : Hp), H D = none → Same H H' → H' D = some (.dK (cK ms)) → Q (.ref D) H'
section
variable (K : PySem.W.Frag)
noncomputable def sp_add_at (_K : PySem.W.Frag) : Sp := fun vs H Q _ => ∃ (a : Addr) (ms : Ms) (k n : Int), vs = [.ref a, .int k, .int n] ∧ H a = some (.dK (cK ms)) ∧ ms.length ≤ 1000000 ∧ Q .non (upd H a (.dK (cK (addI ms k n))))
noncomputable def sp_plus (_K : PySem.W.Frag) : Sp := fun vs H Q _ => ∃ (a b : Addr) (ms ns : Ms), vs = [.ref a, .ref b] ∧ Rd H a (.dK (cK ms)) ∧ H b = some (.dK (cK ns)) ∧ ms.length ≤ 1000 ∧ ns.length ≤ 1000 ∧ newC H (plusI ms ns) Q
noncomputable def sp_times (_K : PySem.W.Frag) : Sp := fun vs H Q _ => ∃ (n : Int) (a : Addr) (ms : Ms), vs = [.int n, .ref a] ∧ H a = some (.dK (cK ms)) ∧ ms.length ≤ 1000 ∧ (∀ p ∈ ms, IntMulOk n p.2) ∧ newC H (timesI n ms) Q
end
end Hb
namespace Hb
open PySem L2
noncomputable def modI (p : Int) (ms : Ms) : Ms := (ms.filter fun q => decide (q.2 % p ≠ 0)).map fun q => (q.1, q.2 % p)
noncomputable def keysI (ms : Ms) : List Int := ms.map (·.1)
theorem mod_keys {p : Int} {ms : Ms} {x : Int} (h : x ∈ keysI (modI p ms)) : x ∈ keysI ms := by
 unfold keysI modI at h
 rw [List.map_map] at h
 obtain ⟨q, hq, rfl⟩ := List.mem_map.mp h
 exact List.mem_map.mpr ⟨q, (List.mem_filter.mp hq).1, rfl⟩
theorem mod_nd {p : Int} {ms : Ms} (h : nd ms) : nd (modI p ms) := by
 unfold nd modI
 rw [List.map_map]
 exact (List.filter_sublist.map _).nodup h
theorem mod_get {p : Int} : ∀ {ms : Ms}, nd ms → ∀ k, getI (modI p ms) k = getI ms k % p
 | [], _, k => by simp [modI, getI, lookI]
 | q :: ms, h, k => by
   have h2 : nd ms := (List.nodup_cons.mp h).2
   have h1 : q.1 ∉ ms.map (·.1) := (List.nodup_cons.mp h).1
   have ih := mod_get (p := p) h2 k
   rw [getI_cons]
   unfold modI at ih ⊢
   by_cases hq : q.2 % p ≠ 0
   · rw [List.filter_cons_of_pos (by simpa using hq), List.map_cons, getI_cons]
     by_cases hk : q.1 = k
     · rw [if_pos hk, if_pos hk]
     · rw [if_neg hk, if_neg hk]; exact ih
   · rw [List.filter_cons_of_neg (by simpa using hq), ih]
     by_cases hk : q.1 = k
     · rw [if_pos hk, ← hk, getI_out h1]
       have : q.2 % p = 0 := by simpa using hq
       rw [this]; simp
     · rw [if_neg hk]
structure OkM (p : Int) (ms : Ms) : Prop where
 nd : nd ms
 bd : ∀ q ∈ ms, 0 < q.2 ∧ q.2 < p
theorem OkM.nz {p : Int} {ms : Ms} (h : OkM p ms) : nz ms := fun q hq => by have := (h.bd q hq).1; omega
theorem mod_ok {p : Int} {ms : Ms} (h : nd ms) (hp : 0 < p) : OkM p (modI p ms) := by
 refine ⟨mod_nd h, fun q hq => ?_⟩
 obtain ⟨r, hr, rfl⟩ := List.mem_map.mp hq
 have h1 : r.2 % p ≠ 0 := by simpa using (List.mem_filter.mp hr).2
 have h2 := Int.emod_nonneg r.2 (show p ≠ 0 by omega)
 have h3 := Int.emod_lt_of_pos r.2 hp
 exact ⟨by omega, h3⟩
theorem mod_len (p : Int) (ms : Ms) : (modI p ms).length ≤ ms.length := by
 unfold modI
 rw [List.length_map]
 exact List.length_filter_le ..
theorem get_key {ms : Ms} (h : nz ms) {k : Int} : getI ms k ≠ 0 ↔ k ∈ keysI ms := by
 constructor
 · intro hk
   by_cases hm : k ∈ ms.map (·.1)
   · exact hm
   · exact absurd (getI_out hm) hk
 · intro hk hz
   have e := lookI_nz h k
   rw [if_pos hz] at e
   obtain ⟨q, hq, rfl⟩ := List.mem_map.mp hk
   unfold lookI at e
   cases hf : ms.find? (fun p => decide (p.1 = q.1)) with
   | none => exact absurd (List.find?_eq_none.mp hf q hq) (by simp)
   | some r => rw [hf] at e; simp at e
theorem get_times (n : Int) : ∀ (ms : Ms) (k : Int), getI (timesI n ms) k = n * getI ms k := fun ms k => by
 unfold timesI
 by_cases hn : n = 0
 · rw [if_pos hn, hn]; simp [getI, lookI]
 · rw [if_neg hn]
   induction ms with
   | nil => simp [getI, lookI]
   | cons q ms ih =>
     rw [List.map_cons, getI_cons, getI_cons, ih]
     split <;> rfl
structure Top (ms : Ms) (b : Int) : Prop where
 mem : b ∈ keysI ms
 le : ∀ x ∈ keysI ms, x ≤ b
theorem Top.one {ms : Ms} {b c : Int} (h1 : Top ms b) (h2 : Top ms c) : b = c := by
 have := h1.le c h2.mem
 have := h2.le b h1.mem
 omega
theorem settle_step {p f b : Int} {es fs : Ms} (hp : 0 < p) (he : OkM p es) (hf : OkM p fs) (te : Top es b) (tf : Top fs b) (hinv : p ∣ 1 - f * getI fs b) :
   OkM p (modI p (plusI es (timesI (-(getI es b) * f) fs))) ∧ ∀ x ∈ keysI (modI p (plusI es (timesI (-(getI es b) * f) fs))), x < b ∧ (x ∈ keysI es ∨ x ∈ keysI fs) := by
 have ndt : nd (timesI (-(getI es b) * f) fs) := by
   unfold timesI
   split
   · exact List.nodup_nil
   · exact ndup_times hf.nd _
 obtain ⟨n1, n2, n3, n4⟩ := plus_ok (timesI (-(getI es b) * f) fs) es he.nd he.nz ndt
 have gt : ∀ k, getI (timesI (-(getI es b) * f) fs) k = (-(getI es b) * f) * getI fs k := fun k => get_times _ fs k
 have ok := mod_ok n1 hp
 refine ⟨ok, fun x hx => ?_⟩
 have hx0 := (get_key ok.nz).mpr hx
 rw [mod_get n1, n4, gt] at hx0
 have hin : x ∈ keysI es ∨ x ∈ keysI fs := by
   by_cases h1 : x ∈ keysI es
   · exact .inl h1
   by_cases h2 : x ∈ keysI fs
   · exact .inr h2
   · rw [getI_out h1, getI_out h2] at hx0
     simp at hx0
 refine ⟨?_, hin⟩
 have hle : x ≤ b := by
   rcases hin with h | h
   · exact te.le x h
   · exact tf.le x h
 have hne : x ≠ b := fun z => by
   rw [z] at hx0
   apply hx0
   obtain ⟨d, hd⟩ := hinv
   have : getI es b + -getI es b * f * getI fs b = p * (getI es b * d) := by
     have e : getI es b + -getI es b * f * getI fs b = getI es b * (1 - f * getI fs b) := by grind
     rw [e, hd]; grind
   rw [this]
   exact Int.mul_emod_right _ _
 omega
end Hb
namespace L2
open PySem PySem.Spec PyProof.Rows PySem.W
structure HasMX (P : Program) (w : World) (K : Frag) (mg : Str → Option Value) (base : Heap) (C : Addr) (m : Str) (ps : List Str) (k : Nat) (sp : Sp) : Prop where
 ex : ∃ (f : Addr) (fd : FuncData), Meth K C m f ∧ Binds K fd ps [] ∧ FnOk P w K mg base (CX1 P w) k f fd ps sp
theorem HasMX.down {P : Program} {w : World} {K : Frag} {mg : Str → Option Value} {base : Heap} {C : Addr} {m : Str} {ps : List Str} {k : Nat} {sp sp' : Sp} (h : HasMX P w K mg base C m ps k sp) (hi : ∀ vs H Q E, sp' vs H Q E → sp vs H Q (fun _ _ _ => False)) : HasM P w K mg base C m ps k sp' := by
 obtain ⟨f, fd, h1, h3, h4⟩ := h.ex
 refine ⟨f, fd, h1, h3, ⟨fun vs H Q E z => h4.len vs H Q _ (hi vs H Q E z), fun A outer s H args us vs Q E hr he hb hv hs => codeAny_mono (h4.run A outer s H args us vs Q _ hr he hb hv (hi vs H Q E hs)) fun r s' q => ?_⟩⟩
 cases r with
 | error u =>
   obtain ⟨_, _, _, _, _, _, _, _, _, _, _, _, _, z⟩ := q
   exact z.elim
 | ok fl => cases fl <;> exact q
noncomputable def tMethX (C : Addr) (m : Str) (sp : Sp) (J : XJ) (ta : TE) (t : TA) : TE := fun σ H Q => ta σ H fun x H1 => ∃ a dx fs, x = .ref a ∧ H1 a = some (.ins C dx fs) ∧ fs.lookup m = none ∧
 t σ H1 fun vs H2 => sp (x :: vs) H2 Q (fun cls ed H3 => J cls ed σ H3)
section
variable {X : Cx} {J : XJ} {j k : Nat} {C : Addr} {ps : List Str} {sp : Sp} {m : Str} {pos apos : Pos} {e o : Expr} {es : List Expr} {ta : TE} {t : TA}
theorem pe_methX {pl : Sem Bool} (hx : Flies X J) (he : PE X o ta) (c : Cls X.K C) (h : HasMX X.prog X.w X.K X.mg X.base C m ps j sp) (hr : Room k X.A) (ha : PA X (e :: es) t) (hk : j ≤ k := by decide)
   (hst : starEach (e :: es) X.env = (false, eval e X.env) :: starEach es X.env := by rfl) (hpl : (backTo pos (starEach es X.env)).any (·.1) = false := by rfl)
   (ht : eval (.Call (.Attribute o m apos) (e :: es) [] pos) X.env = (do
     let ov ← eval o X.env
     standAt apos.atName
     let (f, first) ← holding [ov] (getMethod ov m pl)
     callWith pos f first (backTo pos (starEach (e :: es) X.env)) (backToKw pos (keywordEach [] X.env))) := by rfl) :
   PE X (.Call (.Attribute o m apos) (e :: es) [] pos) (tMethX C m sp J ta t) := by
 obtain ⟨f, fd, hm, hb, F⟩ := h.ex
 intro pins s σ H Q I hw
 refine methodCall_KW (pl := pl) (thn (he pins s σ H _ I hw) fun u s1 ⟨x, H1, I1, rx, a, dx, fs, ex, ea, l, q⟩ => ?_) ht
 subst ex
 obtain rfl : u = Value.ref a := rx
 refine getmeth_ok I1 ea c hm l ?_
 refine callWith_K (first := [.ref a]) (h₀ := X.base) I.ok.mod.kin hm.kp (thn (ha pos pins s1 σ H1 _ I1 q) fun us s2 ⟨vs, H2, I2, r, q2⟩ => ⟨I2.kIn, ?_⟩) hst hpl
 exact run_fnX (us := .ref a :: us) (vs := .ref a :: vs) F (hr.mono hk) hb hx I2 (.cons rfl r) q2
theorem pe_methX0 {pl : Sem Bool} (hx : Flies X J) (he : PE X o ta) (c : Cls X.K C) (h : HasMX X.prog X.w X.K X.mg X.base C m ps j sp) (hr : Room k X.A) (hk : j ≤ k := by decide)
   (ht : eval (.Call (.Attribute o m apos) [] [] pos) X.env = (do
     let ov ← eval o X.env
     standAt apos.atName
     let (f, first) ← holding [ov] (getMethod ov m pl)
     callWith pos f first (backTo pos (starEach [] X.env)) (backToKw pos (keywordEach [] X.env))) := by rfl) :
   PE X (.Call (.Attribute o m apos) [] [] pos) (tMethX C m sp J ta tNil) := by
 obtain ⟨f, fd, hm, hb, F⟩ := h.ex
 intro pins s σ H Q I hw
 refine methodCall_KW (pl := pl) (thn (he pins s σ H _ I hw) fun u s1 ⟨x, H1, I1, rx, a, dx, fs, ex, ea, l, q⟩ => ?_) ht
 subst ex
 obtain rfl : u = Value.ref a := rx
 refine getmeth_ok I1 ea c hm l ?_
 exact callWith_K0 (first := [.ref a]) I1.kIn hm.kp (run_fnX (us := [.ref a]) (vs := [.ref a]) F (hr.mono hk) hb hx I1 (.cons rfl .nil) q)
end
noncomputable def hBare (K : Frag) (C : Addr) (ts : TS) (th : Ends → XJ) : Ends → XJ := fun D cls dx σ H => ∃ (C' : Addr) (b : Bool), cls = .ref C' ∧ subIn K (.ref C') (.ref C) = some b ∧ if b = true then ts D σ H else th D cls dx σ H
theorem ph_bare {X : Cx} {th : Ends → XJ} {x : Str} {C : Addr} {np hpos : Pos} {b0 : Stmt} {bs : List Stmt} {ts : TS} {rest : List ExceptHandler} (hg : Gl X x) (hm : X.mg x = some (.ref C)) (hC : ktsIn X.K C "BaseException" = true)
   (hs : ∀ e, PSs (X.suite e) (b0 :: bs) ts) (hr : PH X rest th) (hdb : (x == ("__debug__" : Str)) = false := by decide) : PH X (.ExceptHandler (some (.Name x np)) none (b0 :: bs) hpos :: rest) (hBare X.K C ts th) := by
 intro pins s σ H D e cls a0 dx F h
 obtain ⟨C', b, rfl, hb, h⟩ := h
 have I := F.inv.1
 obtain ⟨nm, qn, N, bs', bm, hdct, sn, sub, ab, col, dd, k0, k1, k2, k3, k5, nid, hCo, hbase, _⟩ := kts_cls I.kIn hC
 have F' := F
 obtain ⟨B, H0, S, I0, q1, q2, q3, q4, q5, dE⟩ := F'
 obtain ⟨oe, he, hcls⟩ := q5.there
 refine wpAny_handleBy_cons (codeAny_handlers_test (ld_glob (X := X.suite e) (I.suite e) hg hm ?_ hdb)) (by intro q; cases q)
 have LS : Looks (model X.prog X.w) s.heap (isSubtype (.ref C') (.ref C)) b := looks_subIn I.kIn hb
 obtain ⟨sh, sg, sd, st, so⟩ := s
 refine exc_match hCo he hcls hbase LS ?_
 cases b with
 | false =>
   rw [if_neg Bool.false_ne_true] at h
   exact hr pins _ σ H D e _ a0 dx F h
 | true =>
   rw [if_pos rfl] at h
   refine codeAny_handlers_suite ?_
   refine wpAny_mono (wpAny_keepsD (kd_setFlight _ _) (lands_againW (E := fun _ _ => False) (Q := fun _ s2 => ∃ h6, s2 = { (⟨sh, sg, sd, st, so⟩ : Shared) with heap := h6 } ∧ Heap.FlyingW B X.stack e (.ref C') a0 h6 ∧ sh.UpToSlots h6) q5 fun h6 f6 up6 => ⟨h6, rfl, f6, up6⟩)) (fun _ s2 ⟨⟨h6, e6, f6, up6⟩, kd⟩ => ?_) (fun _ _ z => z.1.elim)
   subst e6
   have F6 := FlyAt.step I0 q1 q2 q3 q4 q5 f6 up6 (dE.go kd)
   have I6 := F6.inv.1
   refine wpAny_mono (hs e pins _ σ H D (I6.suite e) h) (fun f s8 q => ?_) fun _ _ z => z.elim
   cases f with
   | next => obtain ⟨σ', H', I8, q⟩ := q; exact ⟨σ', H', I8.unsuite I.ok, q⟩
   | brk => obtain ⟨σ', H', I8, q⟩ := q; exact ⟨σ', H', I8.unsuite I.ok, q⟩
   | cont => obtain ⟨σ', H', I8, q⟩ := q; exact ⟨σ', H', I8.unsuite I.ok, q⟩
   | ret u => obtain ⟨v, σ', H', I8, r, q⟩ := q; exact ⟨v, σ', H', I8.unsuite I.ok, r, q⟩
end L2
namespace L2
open PySem PySem.Spec PyProof.Rows PySem.SeqAt
section
variable {X : Cx}
section
variable {o e : Expr} {es : List Expr} {to : TE} {t : TA} {name : Str} {apos cpos : Pos} {id : String} {r : V → List V → Hp → VK → Prop}
end
end
end L2
namespace L2
open PySem PySem.Spec PyProof.Rows
noncomputable def intOf : Expr → Option Int
 | .Constant (.int i) _ _ => some i
 | _ => none
noncomputable def intsOf : List Expr → Option (List Int)
 | [] => some []
 | e :: es => match intOf e, intsOf es with
   | some i, some is => some (i :: is)
   | _, _ => none
noncomputable def tInts (ns : List Int) : TA := fun _ H Q => Q (ns.map V.int) H
theorem pa_ints {X : Cx} : ∀ {es : List Expr} {ns : List Int}, intsOf es = some ns → PA X es (tInts ns)
 | [], ns, h => by
   cases h
   exact pa_nil
 | e :: es, ns, h => by
   unfold intsOf at h
   cases e1 : intOf e with
   | none => rw [e1] at h; cases h
   | some i =>
     cases e2 : intsOf es with
     | none => rw [e1, e2] at h; cases h
     | some is =>
       rw [e1, e2] at h
       cases h
       unfold intOf at e1
       split at e1
       case h_2 => cases e1
       case h_1 =>
         cases e1
         exact pa_cons pe_int (pa_ints e2)
end L2
namespace L2
open PySem PySem.Spec PyProof.Rows
structure PAw (X : Cx) (es : List Expr) (t : TA) : Prop where
 h : PA X es t
theorem paw_nil {X : Cx} : PAw X [] tNil := ⟨pa_nil⟩
theorem paw_cons {X : Cx} {e : Expr} {es : List Expr} {te : TE} {t : TA} (ha : PE X e te) (hr : PAw X es t) (hs : starEach (e :: es) X.env = (false, eval e X.env) :: starEach es X.env := by rfl) : PAw X (e :: es) (tCons te t) := ⟨pa_cons ha hr.h hs⟩
theorem paw_ints {X : Cx} {es : List Expr} {ns : List Int} (h : intsOf es = some ns) : PAw X es (tInts ns) := ⟨pa_ints h⟩
end L2
namespace Hb
open PySem L2
noncomputable def CntOk (xs : List (List Int)) : Prop := ∀ x ∈ xs, x.length = 0 ∨ x.length = 2 ∨ x.length = 3 ∨ x.length = 4
theorem getD_mem_of {α : Type} {l : List α} {i : Nat} {d : α} (h : i < l.length) : l.getD i d ∈ l := by
 rw [List.getD_eq_getElem?_getD, List.getElem?_eq_getElem h]
 exact List.getElem_mem h
theorem CntOk.at {xs : List (List Int)} (h : CntOk xs) {f : Int} (h0 : 0 ≤ f) (h1 : f < (xs.length : Int)) : (xs.getD f.toNat []).length = 0 ∨ (xs.getD f.toNat []).length = 2 ∨ (xs.getD f.toNat []).length = 3 ∨ (xs.getD f.toNat []).length = 4 := h _ (getD_mem_of (by omega))
section
variable (K : PySem.W.Frag)
noncomputable def sp_L_pick (_K : PySem.W.Frag) : Sp := fun vs H Q _ => ∃ (c j m : Int), vs = [.int c, .int j, .int m] ∧ 0 < m ∧ ∀ (r : Int) (H' : Hp), Same H H' → 0 ≤ r → r < m → Q (.int r) H'
noncomputable def sp_L_side : Sp := fun vs H Q _ => ∃ (a : Addr) (xs : List (List Int)) (c : Int), vs = [.ref a, .int c] ∧ LT K H (.ref a) xs ∧ xs.length ≤ 1000 ∧ ∀ (w : V) (p : List Int) (H' : Hp), Same H H' → TI K H' w p → Q w H'
noncomputable def sp_L_next : Sp := fun vs H Q _ => ∃ (a : Addr) (xs : List (List Int)) (c : Int), vs = [.ref a, .int c] ∧ LT K H (.ref a) xs ∧ CntOk xs ∧ xs.length ≤ 1000 ∧ ∀ (w : V) (p : List Int) (H' : Hp), Same H H' → TI K H' w p → Q w H'
end
end Hb
namespace Hb
open PySem L2
theorem at_int {sp : List Int} {x : Int} (h0 : 0 ≤ x) (h1 : x < (sp.length : Int)) : atI (sp.map V.int) x = some (.int (sp.getD x.toNat 0)) := by
 obtain ⟨j, rfl⟩ := Int.eq_ofNat_of_zero_le h0
 have hj : j < sp.length := by omega
 rw [Int.toNat_natCast]
 exact atI_nat (by rw [List.getElem?_map, List.getElem?_eq_getElem hj, List.getD_eq_getElem?_getD, List.getElem?_eq_getElem hj]; rfl)
end Hb
namespace Hb
end Hb
namespace Hb
open PySem L2
section
variable {K : PySem.W.Frag} {H : Hp}
end
section
variable (K : PySem.W.Frag)
end
end Hb
namespace L2
open PySem PySem.Spec PyProof.Rows
noncomputable abbrev TJ := St → Hp → (Hp → Prop) → Prop
noncomputable def tJN : TJ := fun _ H Q => Q H
noncomputable def tJC (te : TE) (tj : TJ) : TJ := fun σ H Q => te σ H fun v H1 => ∃ y : Str, v = .str y ∧ y.length ≤ 100000 ∧ tj σ H1 Q
noncomputable def PJ (X : Cx) (es : List Expr) (tj : TJ) : Prop := ∀ (pins : List (Addr × Obj)) (s : Shared) (σ : St) (H : Hp) (acc : Str) (Q : Hp → Prop), Inv X pins σ H s → acc.length + 100000 * es.length ≤ 1000000 → tj σ H Q →
 Joins (model X.prog X.w) X.A X.xe (evalEach es X.env) acc (fun out s' => out.length ≤ 1000000 ∧ ∃ H', Inv X pins σ H' s' ∧ Q H') s
theorem joins_mono {M : Model} {A : Around} {E : Value → Shared → Prop} : ∀ {parts : List (Sem Value)} {acc : Str} {Q Q' : Str → Shared → Prop} {s : Shared}, Joins M A E parts acc Q s → (∀ x s, Q x s → Q' x s) → Joins M A E parts acc Q' s
 | [], acc, Q, Q', s, h, f => f _ _ h
 | x :: rest, acc, Q, Q', s, h, f => wpAny_mono (show wpAny M A x _ E s from h) (fun v s1 ⟨y, t, e, hz, hr⟩ => ⟨y, t, e, hz, joins_mono hr f⟩) fun _ _ z => z
section
variable {X : Cx} {e v₁ v₂ : Expr} {es rest : List Expr} {te : TE} {tj : TJ} {pos : Pos}
theorem pj_nil : PJ X [] tJN := fun pins s σ H acc Q I hl h => ⟨by simpa using hl, H, I, h⟩
theorem pj_cons (he : PE X e te) (hr : PJ X es tj) : PJ X (e :: es) (tJC te tj) := by
 intro pins s σ H acc Q I hl h
 show wpAny _ _ (eval e X.env) _ _ s
 refine thn (he pins s σ H _ I h) fun u s1 ⟨v, H1, I1, r, y, ev, hy, q⟩ => ?_
 subst ev
 obtain ⟨t, rfl⟩ := r
 have hl2 : (acc ++ y).length = acc.length + y.length := strLen_append ..
 have hl3 : acc.length + 100000 * (es.length + 1) ≤ 1000000 := hl
 refine ⟨y, t, rfl, ?_, hr pins s1 σ H1 (acc ++ y) Q I1 (by rw [hl2]; omega) q⟩
 rw [hl2, sizeLine_eq]
 omega
noncomputable def tFstr (tj : TJ) : TE := fun σ H Q => tj σ H fun H' => ∀ x : Str, x.length ≤ 1000000 → Q (.str x) H'
theorem pe_fstr (h : PJ X (v₁ :: v₂ :: rest) tj) (hl : rest.length ≤ 7 := by decide) : PE X (.JoinedStr (v₁ :: v₂ :: rest) pos) (tFstr tj) := by
 intro pins s σ H Q I hw
 refine wpAny_JoinedStr (joins_mono (h pins s σ H Str.empty _ I ?_ hw) fun out s' ⟨hz, H', I', q⟩ => ⟨?_, .str out, H', I'.tok _, ⟨_, rfl⟩, q out hz⟩)
 · show 0 + 100000 * (rest.length + 2) ≤ 1000000
   omega
 · rw [sizeLine_eq]; omega
noncomputable def tFmt (te : TE) : TE := fun σ H Q => te σ H fun v H1 => (∃ i : Int, v = .int i ∧ i.natAbs.log2 < 1920 ∧ ∀ x : Str, x.length ≤ 100000 → Q (.str x) H1) ∨ ∃ x : Str, v = .str x ∧ x.length ≤ 100000 ∧ Q (.str x) H1
theorem pe_fmt (he : PE X e te) : PE X (.FormattedValue e (-1) none pos) (tFmt te) := by
 intro pins s σ H Q I hw
 refine wpAny_FormattedValue_plain (thn (he pins s σ H _ I hw) fun u s1 ⟨v, H1, I1, r, q⟩ => ?_)
 rcases q with ⟨i, rfl, hi, q⟩ | ⟨x, rfl, hx, q⟩
 · obtain ⟨t, rfl⟩ := r
   refine PySem.wpAny_formatField_int hi ⟨.str (toString i), H1, I1.tok _, ⟨_, rfl⟩, q _ ?_⟩
   have := int_text_length_le (k := 1920) (by decide) hi
   rw [PySem.ofString_length]
   omega
 · obtain ⟨t, rfl⟩ := r
   exact PySem.wpAny_formatField_str ⟨.str x, H1, I1, ⟨_, rfl⟩, q⟩ ⟨.str x, H1, I1.tok _, ⟨_, rfl⟩, q⟩ (by rw [sizeLine_eq]; omega)
end
end L2
namespace Hb
open PySem L2
theorem log40 : (40 : Int).natAbs.log2 < 1920 := Nat.lt_of_lt_of_le ((Nat.log2_lt (k := 7) (by decide)).mpr (by decide)) (by decide)
section
variable (K : PySem.W.Frag)
noncomputable def sp_check_size (C : Addr) : Sp := fun vs H Q E => ∃ (a : Addr) (us : List V), vs = [.ref a] ∧ SqL K H a us ∧ (us.length ≤ 40 → Q .non H) ∧ (40 < us.length → ∀ H', Same H H' → E (.ref C) none H')
end
end Hb
namespace L2
open PySem PySem.Spec PyProof.Rows PySem.SeqAt
section
variable {X : Cx} {n : Nat} {K : PySem.W.Frag}
end
end L2
namespace L2
open PySem PySem.Spec PyProof.Rows
section
variable {prog : Program} {w : World} {A : Around} {E : Value → Shared → Prop} {s : Shared}
theorem nextOf_tup_item {j t : Addr} {n : Nat} {vs : Array Value} {x : Value} {Q : Value → Shared → Prop} (g : s.heap.IsTupleIter j t n) (gt : s.heap.IsTuple t vs) (gx : vs[n]? = some x)
   (k : ∀ h', h'.IsTupleIter j t (n + 1) → Heap.SameBut j s.heap h' → Q x { s with heap := h' }) : wpAny (model prog w) A (Builtin.SmallTypes.nextOf (.ref j)) Q E s := by
 obtain ⟨o, q1, q2, q3⟩ := id g
 obtain ⟨p, p1, _, m, p2⟩ := gt
 unfold Builtin.SmallTypes.nextOf; refine wpAny_bind (wpAny_callSpecial?_slot (name := Str.ofString "__next__") g.typeIs F.slot_tuple_iterator_next (wpAny_call_entry F.slot_tuple_iterator_next g.typeIs F.entry_tuple_iterator_next ?_ (F.args_tuple_iterator_next_1 _)))
 show wpAny _ _ (field (.ref j) 0 >>= _) _ _ s; refine wpAny_bind (wpAny_field q1 q3 (x := .ref t) rfl ?_)
 show wpAny _ _ (if (Value.ref t == Value.none) = true then _ else _) _ _ s; rw [if_neg (show ¬ ((Value.ref t == Value.none) = true) from Bool.false_ne_true)]
 show wpAny _ _ (field (.ref j) 1 >>= _) _ _ s; refine wpAny_bind (wpAny_field q1 q3 (x := .int n 0) rfl ?_)
 show wpAny _ _ (seqItems? (.ref t) >>= _) _ _ s; refine wpAny_bind (wpAny_seqItems p1 p2 ?_)
 simp only [Int.toNat_natCast, gx]
 refine wpAny_bind (wpAny_setField q1 q3 (by simp) (wpAny_pure ⟨x, rfl, wpAny_pure (k _ ?_ (Heap.SameBut.update ..))⟩))
 exact ⟨_, Heap.get?_update_self _ q1 (Obj.isFreed_of_fields (Obj.data_mapFields q3 _)), (Obj.cls_mapFields ..).trans q2, by rw [Obj.data_mapFields q3]; simp [rawInt]⟩
theorem nextOf_tup_end {j t : Addr} {n : Nat} {vs : Array Value} {Q : Value → Shared → Prop} (hn : A.handled = none) (g : s.heap.IsTupleIter j t n) (gt : s.heap.IsTuple t vs) (gx : vs[n]? = none)
   (k : ∀ h' e, Heap.ExtBut j s.heap h' → (∃ o, h'.get? e = some o ∧ o.cls = .type "StopIteration") → E (.ref e) { s with heap := h' }) : wpAny (model prog w) A (Builtin.SmallTypes.nextOf (.ref j)) Q E s := by
 obtain ⟨o, q1, q2, q3⟩ := id g
 obtain ⟨p, p1, _, m, p2⟩ := gt
 unfold Builtin.SmallTypes.nextOf; refine wpAny_bind (wpAny_callSpecial?_slot (name := Str.ofString "__next__") g.typeIs F.slot_tuple_iterator_next (wpAny_call_entry F.slot_tuple_iterator_next g.typeIs F.entry_tuple_iterator_next ?_ (F.args_tuple_iterator_next_1 _)))
 show wpAny _ _ (field (.ref j) 0 >>= _) _ _ s; refine wpAny_bind (wpAny_field q1 q3 (x := .ref t) rfl ?_)
 show wpAny _ _ (if (Value.ref t == Value.none) = true then _ else _) _ _ s; rw [if_neg (show ¬ ((Value.ref t == Value.none) = true) from Bool.false_ne_true)]
 show wpAny _ _ (field (.ref j) 1 >>= _) _ _ s; refine wpAny_bind (wpAny_field q1 q3 (x := .int n 0) rfl ?_)
 show wpAny _ _ (seqItems? (.ref t) >>= _) _ _ s; refine wpAny_bind (wpAny_seqItems p1 p2 ?_)
 simp only [Int.toNat_natCast, gx]
 refine wpAny_bind (wpAny_rule (wpAny_bind (wpAny_setField q1 q3 (by simp) ?_)))
 show wpAny _ _ (newExc (.type "StopIteration") [] >>= _) _ _ _; refine wpAny_bind ?_
 simp only [newExc, newTuple]; refine wpAny_bind (wpAny_newObj_type ?_ (by size_fits))
 refine wpAny_bind (m := firstArgMember _ _) (wpAny_of_eq (a := Value.none) (by first | rfl | (simp only [firstArgMember]; rfl)) ?_); refine wpAny_newObj_type ?_ (by size_fits)
 simp only [raiseNew]; refine wpAny_bind (wpAny_handled ?_)
 first | rw [show A.in1.handled = none from hn] | rw [hn]
 refine wpAny_bind (wpAny_pure (wpAny_throw ?_)); exact k _ _ (((Heap.SameBut.update ..).extBut.push _).push _) ⟨_, Heap.get?_push_size _ rfl, rfl⟩
theorem zipT_item {z a b i1 i2 t1 t2 : Addr} {n m : Nat} {xs ys : Array Value} {x y u v : Value} {Q : Value → Shared → Prop} (D : ZipApart z a b i1 i2 t1 t2) (gz : IsZip s.heap z a b .none) (ga : IsPair s.heap a (.ref i1) (.ref i2)) (gb : IsPair s.heap b u v)
   (g1 : s.heap.IsTupleIter i1 t1 n) (g2 : s.heap.IsTupleIter i2 t2 m) (e1 : s.heap.IsTuple t1 xs) (e2 : s.heap.IsTuple t2 ys) (gx : xs[n]? = some x) (gy : ys[m]? = some y)
   (k : ∀ h', IsZip h' z a b (rawInt s.heap.objs.size) → IsPair h' b x y → h'.IsTupleIter i1 t1 (n + 1) → h'.IsTupleIter i2 t2 (m + 1) → IsPair h' s.heap.objs.size x y → h'.objs.size = s.heap.objs.size + 1 →
     (∀ c o, c ≠ z → c ≠ b → c ≠ i1 → c ≠ i2 → s.heap.get? c = some o → h'.get? c = some o) → Q (.ref s.heap.objs.size) { s with heap := h' }) :
   wpAny (model prog w) A (Builtin.«zip.__next__» ⟨[.ref z], []⟩) (fun fin s' => ∃ r, fin = .done (.ret r) ∧ Q r s') E s := by
 show wpAny _ _ (field (.ref z) 2 >>= _) _ _ _; refine wpAny_bind (wpAny_field gz rfl (x := .bool false) rfl ?_)
 show wpAny _ _ (field (.ref z) 3 >>= _) _ _ _; refine wpAny_bind (wpAny_field gz rfl (x := .ref a) rfl ?_)
 refine wpAny_bind (wpAny_seqItems ga rfl ?_)
 show wpAny _ _ (Builtin.SmallTypes.ownedTupleIsFree (.ref z) >>= _) _ _ _; refine wpAny_bind ?_; unfold Builtin.SmallTypes.ownedTupleIsFree
 refine wpAny_bind (wpAny_field gz rfl (x := .none) rfl (wpAny_pure ?_)); simp only [if_true]
 refine wpAny_bind (wpAny_rule ?_); refine wpAny_bind (wpAny_field gz rfl (x := .ref b) rfl ?_)
 refine wpAny_bind (wpAny_setField_rec gz (by simp) fun k1 gz1 w1 => ?_)
 replace gz1 : IsZip k1 z a b .ellipsis := gz1
 refine wpAny_bind ?_; simp only [List.zipIdx_cons, List.zipIdx_nil, List.forIn_cons, List.forIn_nil]
 refine wpAny_bind (wpAny_bind (wpAny_onRaise ?_)); show wpAny _ _ (Builtin.SmallTypes.nextOf (.ref i1) >>= _) _ _ _
 refine wpAny_bind (nextOf_tup_item (g1.extBut w1.extBut D.i1z) (e1.extBut w1.extBut D.l1z) gx fun k2 f1 w2 => wpAny_pure ?_)
 have gb2 : IsPair k2 b u v := w2.extBut _ _ D.TOi1 (w1.extBut _ _ D.TOz gb)
 refine wpAny_bind (wpAny_seqItems gb2 rfl ?_); refine wpAny_bind (wpAny_updateSeq_pair gb2 fun k3 gb3 w3 => ?_)
 replace gb3 : IsPair k3 b x v := gb3
 refine wpAny_bind (wpAny_letGo (wpAny_pure ?_)); refine wpAny_bind (wpAny_bind (wpAny_onRaise ?_)); show wpAny _ _ (Builtin.SmallTypes.nextOf (.ref i2) >>= _) _ _ _
 refine wpAny_bind (nextOf_tup_item (((g2.extBut w1.extBut D.i2z).extBut w2.extBut D.i12.symm).extBut w3.extBut D.TOi2.symm) (((e2.extBut w1.extBut D.l2z).extBut w2.extBut D.l2i1).extBut w3.extBut D.l2TO) gy fun k4 f2 w4 => wpAny_pure ?_)
 have gb4 : IsPair k4 b x v := w4.extBut _ _ D.TOi2 gb3
 refine wpAny_bind (wpAny_seqItems gb4 rfl ?_); refine wpAny_bind (wpAny_updateSeq_pair gb4 fun k5 gb5 w5 => ?_)
 replace gb5 : IsPair k5 b x y := gb5
 refine wpAny_bind (wpAny_letGo (wpAny_pure (wpAny_pure ?_))); refine wpAny_bind (wpAny_seqItems gb5 rfl ?_); refine wpAny_bind (wpAny_newTuple ?_)
 have sz : k5.objs.size = s.heap.objs.size := by rw [w5.1, w4.1, w3.1, w2.1, w1.1]
 have gz5 : IsZip k5 z a b .ellipsis := w5.extBut _ _ D.TOz.symm (w4.extBut _ _ D.i2z.symm (w3.extBut _ _ D.TOz.symm (w2.extBut _ _ D.i1z.symm gz1)))
 have kp : ∀ c o, c ≠ z → c ≠ b → c ≠ i1 → c ≠ i2 → s.heap.get? c = some o → k5.get? c = some o := fun c o c1 c2 c3 c4 e => w5.extBut _ _ c2 (w4.extBut _ _ c4 (w3.extBut _ _ c2 (w2.extBut _ _ c3 (w1.extBut _ _ c1 e))))
 have f15 : k5.IsTupleIter i1 t1 (n + 1) := ((f1.extBut w3.extBut D.TOi1.symm).extBut w4.extBut D.i12).extBut w5.extBut D.TOi1.symm
 have f25 : k5.IsTupleIter i2 t2 (m + 1) := f2.extBut w5.extBut D.TOi2.symm
 have lz : z < k5.objs.size := Heap.lt_size gz5
 show wpAny _ _ (Builtin.SmallTypes.ownedTupleHandOut (.ref z) (.ref k5.objs.size) >>= _) _ _ _; refine wpAny_bind ?_; unfold Builtin.SmallTypes.ownedTupleHandOut
 have gz6 : IsZip (k5.push { cls := .type "tuple", data := .seq #[x, y] }) z a b .ellipsis := Heap.get?_push_of_some _ gz5
 refine wpAny_bind (wpAny_setField_rec gz6 (by simp) fun k7 gz7 w7 => ?_)
 replace gz7 : IsZip k7 z a b (rawInt k5.objs.size) := gz7
 refine wpAny_setField_rec gz7 (by simp) fun k8 gz8 w8 => ?_
 replace gz8 : IsZip k8 z a b (rawInt k5.objs.size) := gz8
 have up : ∀ c o, c ≠ z → k5.get? c = some o → k8.get? c = some o := fun c o c1 e => w8.extBut _ _ c1 (w7.extBut _ _ c1 (Heap.get?_push_of_some _ e))
 have gt : IsPair k8 k5.objs.size x y := w8.extBut _ _ (Nat.ne_of_gt lz) (w7.extBut _ _ (Nat.ne_of_gt lz) (Heap.get?_push_size _ rfl))
 have s8 : k8.objs.size = k5.objs.size + 1 := by rw [w8.1, w7.1, Heap.size_push]
 rw [sz] at gz8 gt s8
 refine wpAny_pure ⟨_, rfl, ?_⟩; show Q (.ref k5.objs.size) _; rw [sz]
 exact k k8 gz8 (up _ _ D.TOz gb5) (f15.at fun o e => up _ o D.i1z e) (f25.at fun o e => up _ o D.i2z e) gt s8 fun c o c1 c2 c3 c4 e => up c o c1 (kp c o c1 c2 c3 c4 e)
theorem zipT_end {z a b i1 i2 t1 t2 : Addr} {n m : Nat} {xs ys : Array Value} {u v : Value} {Q : PySem.Fin → Shared → Prop} (hn : A.handled = none) (D : ZipApart z a b i1 i2 t1 t2) (gz : IsZip s.heap z a b .none) (ga : IsPair s.heap a (.ref i1) (.ref i2)) (gb : IsPair s.heap b u v)
   (g1 : s.heap.IsTupleIter i1 t1 n) (g2 : s.heap.IsTupleIter i2 t2 m) (e1 : s.heap.IsTuple t1 xs) (e2 : s.heap.IsTuple t2 ys) (gx : xs[n]? = none)
   (k : ∀ h' e, (∀ c o, c ≠ z → c ≠ b → c ≠ i1 → c ≠ i2 → s.heap.get? c = some o → h'.get? c = some o) → (∃ o, h'.get? e = some o ∧ o.cls = .type "StopIteration") → E (.ref e) { s with heap := h' }) :
   wpAny (model prog w) A (Builtin.«zip.__next__» ⟨[.ref z], []⟩) Q E s := by
 show wpAny _ _ (field (.ref z) 2 >>= _) _ _ _; refine wpAny_bind (wpAny_field gz rfl (x := .bool false) rfl ?_)
 show wpAny _ _ (field (.ref z) 3 >>= _) _ _ _; refine wpAny_bind (wpAny_field gz rfl (x := .ref a) rfl ?_)
 refine wpAny_bind (wpAny_seqItems ga rfl ?_)
 show wpAny _ _ (Builtin.SmallTypes.ownedTupleIsFree (.ref z) >>= _) _ _ _; refine wpAny_bind ?_; unfold Builtin.SmallTypes.ownedTupleIsFree
 refine wpAny_bind (wpAny_field gz rfl (x := .none) rfl (wpAny_pure ?_)); simp only [if_true]
 refine wpAny_bind (wpAny_rule ?_); refine wpAny_bind (wpAny_field gz rfl (x := .ref b) rfl ?_)
 refine wpAny_bind (wpAny_setField_rec gz (by simp) fun k1 gz1 w1 => ?_)
 replace gz1 : IsZip k1 z a b .ellipsis := gz1
 refine wpAny_bind ?_; simp only [List.zipIdx_cons, List.zipIdx_nil, List.forIn_cons, List.forIn_nil]
 refine wpAny_bind (wpAny_bind (wpAny_onRaise ?_)); show wpAny _ _ (Builtin.SmallTypes.nextOf (.ref i1) >>= _) _ _ _
 refine wpAny_bind (nextOf_tup_end hn (g1.extBut w1.extBut D.i1z) (e1.extBut w1.extBut D.l1z) gx fun k2 e w2 he => ?_)
 obtain ⟨oe, ge, ce⟩ := he
 have gz2 : IsZip k2 z a b .ellipsis := w2 _ _ D.i1z.symm gz1
 have ne : e ≠ z := fun q => by subst q; rw [gz2] at ge; cases ge; simp at ce
 refine wpAny_setField_rec gz2 (by simp) fun k3 _ w3 => k k3 e (fun c o c1 _ c3 _ q => w3.extBut _ _ c1 (w2 _ _ c3 (w1.extBut _ _ c1 q))) ⟨oe, w3.extBut _ _ ne ge, ce⟩
theorem next_zipT_item {z a b i1 i2 t1 t2 : Addr} {n m : Nat} {xs ys : Array Value} {x y u v : Value} {Q : Option Value → Shared → Prop} (D : ZipApart z a b i1 i2 t1 t2) (gz : IsZip s.heap z a b .none) (ga : IsPair s.heap a (.ref i1) (.ref i2)) (gb : IsPair s.heap b u v)
   (g1 : s.heap.IsTupleIter i1 t1 n) (g2 : s.heap.IsTupleIter i2 t2 m) (e1 : s.heap.IsTuple t1 xs) (e2 : s.heap.IsTuple t2 ys) (gx : xs[n]? = some x) (gy : ys[m]? = some y)
   (k : ∀ h', IsZip h' z a b (rawInt s.heap.objs.size) → IsPair h' b x y → h'.IsTupleIter i1 t1 (n + 1) → h'.IsTupleIter i2 t2 (m + 1) → IsPair h' s.heap.objs.size x y → h'.objs.size = s.heap.objs.size + 1 →
     (∀ c o, c ≠ z → c ≠ b → c ≠ i1 → c ≠ i2 → s.heap.get? c = some o → h'.get? c = some o) → Q (some (.ref s.heap.objs.size)) { s with heap := h' }) : wpAny (model prog w) A (pyNext (.ref z)) Q E s := by
 have ht : s.TypeIs (.ref z) "zip" := ⟨_, gz, rfl⟩
 unfold pyNext
 exact wpAny_bind (wpAny_attempt (wpAny_callSpecial?_slot (name := Str.ofString "__next__") ht F.slot_zip_next (wpAny_call_entry F.slot_zip_next ht F.entry_zip_next (zipT_item D gz ga gb g1 g2 e1 e2 gx gy fun h' a1 a2 a3 a4 a5 a6 a7 => wpAny_pure (k h' a1 a2 a3 a4 a5 a6 a7)) (F.args_zip_next_1 _))))
theorem next_zipT_end {z a b i1 i2 t1 t2 : Addr} {n m : Nat} {xs ys : Array Value} {u v : Value} {Q : Option Value → Shared → Prop} (hn : A.handled = none) (D : ZipApart z a b i1 i2 t1 t2) (gz : IsZip s.heap z a b .none) (ga : IsPair s.heap a (.ref i1) (.ref i2)) (gb : IsPair s.heap b u v)
   (g1 : s.heap.IsTupleIter i1 t1 n) (g2 : s.heap.IsTupleIter i2 t2 m) (e1 : s.heap.IsTuple t1 xs) (e2 : s.heap.IsTuple t2 ys) (gx : xs[n]? = none)
   (k : ∀ h', (∀ c o, c ≠ z → c ≠ b → c ≠ i1 → c ≠ i2 → s.heap.get? c = some o → h'.get? c = some o) → Q none { s with heap := h' }) : wpAny (model prog w) A (pyNext (.ref z)) Q E s := by
 have ht : s.TypeIs (.ref z) "zip" := ⟨_, gz, rfl⟩
 unfold pyNext
 refine wpAny_bind (wpAny_attempt (wpAny_callSpecial?_slot (name := Str.ofString "__next__") ht F.slot_zip_next (wpAny_call_entry F.slot_zip_next ht F.entry_zip_next (zipT_end hn D gz ga gb g1 g2 e1 e2 gx fun h' e kp he => ?_) (F.args_zip_next_1 _))))
 obtain ⟨o, q1, q2⟩ := he
 exact wpAny_bind (wpAny_isInstance (T := "StopIteration") (b := true) ⟨o, q1, q2⟩ isSubtype_stop (wpAny_pure (k _ kp)))
end
noncomputable abbrev zt1 (h : Heap) (a : Addr) : Heap := h.push { cls := .type "tuple_iterator", data := .fields #[.ref a, .int 0 0] }
noncomputable abbrev zt2 (h : Heap) (a b : Addr) : Heap := (zt1 h a).push { cls := .type "tuple_iterator", data := .fields #[.ref b, .int 0 0] }
noncomputable abbrev zt3 (h : Heap) (a b : Addr) : Heap := (zt2 h a b).push { cls := .type "tuple", data := .seq #[.ref h.objs.size, .ref (zt1 h a).objs.size] }
noncomputable abbrev zt4 (h : Heap) (a b : Addr) : Heap := (zt3 h a b).push { cls := .type "tuple", data := .seq #[.none, .none] }
noncomputable abbrev zt5 (h : Heap) (a b : Addr) : Heap := (zt4 h a b).push { cls := .type "zip", data := .fields #[.none, .bool false, .bool false, .ref (zt2 h a b).objs.size, .ref (zt3 h a b).objs.size] }
theorem zipT_new (a b : Addr) (xs ys : Array Value) : Meets (Builtin.«zip.__new__» ⟨[.type "zip", .ref a, .ref b], []⟩) (fun _ R s => s.heap.IsTuple a xs ∧ s.heap.IsTuple b ys ∧ R (.ok (.ret (.ref (zt4 s.heap a b).objs.size))) { s with heap := zt5 s.heap a b }) :=
 .of_wp fun prog w A R s h => by
   obtain ⟨hp, g, d, tk, os⟩ := s; obtain ⟨h1, h2, h⟩ := h
   have hsub := sub_zip
   have g1 : Heap.IsTuple (Shared.heap ⟨hp, g, d, tk, os⟩) a xs := h1
   have g2 : Heap.IsTuple (Shared.heap ⟨hp.push { cls := .type "tuple_iterator", data := .fields #[.ref a, .int 0 0] }, g, d, tk, os⟩) b ys := Heap.IsTuple.push h2 _
   wp_walk using wpAny_pyIter_tuple g1, wpAny_pyIter_tuple g2
   exact ⟨_, rfl, h⟩
section
variable {prog : Program} {w : World} {A : Around} {E : Value → Shared → Prop} {s : Shared}
theorem call_zipT {a b : Addr} {xs ys : Array Value} {Q : Value → Shared → Prop} (h1 : s.heap.IsTuple a xs) (h2 : s.heap.IsTuple b ys)
   (k : ∀ h', IsZip h' (s.heap.objs.size + 4) (s.heap.objs.size + 2) (s.heap.objs.size + 3) .none → IsPair h' (s.heap.objs.size + 2) (.ref s.heap.objs.size) (.ref (s.heap.objs.size + 1)) →
     IsPair h' (s.heap.objs.size + 3) .none .none → h'.IsTupleIter s.heap.objs.size a 0 → h'.IsTupleIter (s.heap.objs.size + 1) b 0 → h'.objs.size = s.heap.objs.size + 5 →
     (∀ c o, s.heap.get? c = some o → h'.get? c = some o) → Q (.ref (s.heap.objs.size + 4)) { s with heap := h' }) : wpAny (model prog w) A (call (.type "zip") [.ref a, .ref b]) Q E s := by
 refine callType_new F.called_zip (by decide) (F.typeCall_zip_2 _ _) (F.newCall_zip_2 _ _) (fun obj => F.args_object_init_3 obj _ _) F.entry_zip_new (zipT_new a b xs ys) ⟨h1, h2, ?_⟩
 have z1 : (zt1 s.heap a).objs.size = s.heap.objs.size + 1 := Heap.size_push ..
 have z2 : (zt2 s.heap a b).objs.size = s.heap.objs.size + 2 := by rw [Heap.size_push, z1]
 have z3 : (zt3 s.heap a b).objs.size = s.heap.objs.size + 3 := by rw [Heap.size_push, z2]
 have z4 : (zt4 s.heap a b).objs.size = s.heap.objs.size + 4 := by rw [Heap.size_push, z3]
 have z5 : (zt5 s.heap a b).objs.size = s.heap.objs.size + 5 := by rw [Heap.size_push, z4]
 have q5 : (zt5 s.heap a b).get? (zt4 s.heap a b).objs.size = some _ := Heap.get?_push_size _ rfl
 have q4 : (zt5 s.heap a b).get? (zt3 s.heap a b).objs.size = some _ := Heap.get?_push_of_some _ (Heap.get?_push_size _ rfl)
 have q3 : (zt5 s.heap a b).get? (zt2 s.heap a b).objs.size = some _ := Heap.get?_push_of_some _ (Heap.get?_push_of_some _ (Heap.get?_push_size _ rfl))
 have q2 : (zt5 s.heap a b).get? (zt1 s.heap a).objs.size = some _ := Heap.get?_push_of_some _ (Heap.get?_push_of_some _ (Heap.get?_push_of_some _ (Heap.get?_push_size _ rfl)))
 have q1 : (zt5 s.heap a b).get? s.heap.objs.size = some _ := Heap.get?_push_of_some _ (Heap.get?_push_of_some _ (Heap.get?_push_of_some _ (Heap.get?_push_of_some _ (Heap.get?_push_size _ rfl))))
 show _ ∧ _
 rw [z2, z3, z4] at q5
 rw [z1, z2] at q3
 rw [z3] at q4
 rw [z1] at q2
 rw [z4]
 exact ⟨⟨_, q5, rfl⟩, k _ q5 q3 q4 ⟨_, q1, rfl, rfl⟩ ⟨_, q2, rfl, rfl⟩ z5 fun c o x => Heap.get?_push_of_some _ (Heap.get?_push_of_some _ (Heap.get?_push_of_some _ (Heap.get?_push_of_some _ (Heap.get?_push_of_some _ x))))⟩
end
noncomputable def Ityp (K : PySem.W.Frag) (a b : Addr) : It :=
 ⟨fun i H => ∃ xs ys x y, SqT K H a xs ∧ SqT K H b ys ∧ xs[i]? = some x ∧ ys[i]? = some y,
  fun i H v H' => ∃ p x y, H p = none ∧ v = .ref p ∧ H' = upd H p (.tup [x, y]) ∧ (∀ xs, SqT K H a xs → xs[i]? = some x) ∧ ∀ ys, SqT K H b ys → ys[i]? = some y,
  fun i H => ∃ xs ys, SqT K H a xs ∧ SqT K H b ys ∧ xs.length ≤ i⟩
theorem turn_zipT {P : Program} {w : World} {K : PySem.W.Frag} {es : List Expr} {x1 : Nat} {tpos : Pos} (a b z TI TO i1 i2 : Addr) (D : ZipApart z TI TO i1 i2 a b) :
   Turn P w K (.Tuple es x1 tpos) (Ityp K a b) [z, TI, TO, i1, i2] z (fun i h => IsZip h z TI TO .none ∧ IsPair h TI (.ref i1) (.ref i2) ∧ (∃ c d, IsPair h TO c d) ∧ h.IsTupleIter i1 a i ∧ h.IsTupleIter i2 b i) where
 mem := by simp
 obj := fun i h st c hc => by
   obtain ⟨hz, hTI, ⟨u, v, hTO⟩, ⟨o1, h1, c1, d1⟩, ⟨o2, h2, c2, d2⟩⟩ := st
   simp only [List.mem_cons, List.not_mem_nil, or_false] at hc
   rcases hc with rfl | rfl | rfl | rfl | rfl
   · exact ⟨_, hz, fun v q => by cases (show Data.fields _ = Data.cell v from q)⟩
   · exact ⟨_, hTI, fun v q => by cases (show Data.seq _ _ = Data.cell v from q)⟩
   · exact ⟨_, hTO, fun v q => by cases (show Data.seq _ _ = Data.cell v from q)⟩
   · exact ⟨o1, h1, fun v q => by rw [d1] at q; cases q⟩
   · exact ⟨o2, h2, fun v q => by rw [d2] at q; cases q⟩
 keep := fun i h h' st k => by
   obtain ⟨hz, hTI, ⟨u, v, hTO⟩, h1, h2⟩ := st
   exact ⟨k z (by simp) _ hz, k TI (by simp) _ hTI, ⟨u, v, k TO (by simp) _ hTO⟩, h1.at fun o q => k i1 (by simp) o q, h2.at fun o q => k i2 (by simp) o q⟩
 item := by
   intro X hP hw hK hc i pins s σ H E I hf st hg
   subst hP hw hK
   obtain ⟨hz, hTI, ⟨u0, v0, hTO⟩, h1, h2⟩ := st
   obtain ⟨xs, ys, x, y, hqa, hqb, hx, hy⟩ := hg
   obtain ⟨ia, ra, pa, _⟩ := I.tuple hqa
   obtain ⟨ib, rb, pb, _⟩ := I.tuple hqb
   obtain ⟨u, hu, ru⟩ := ra.get hx
   obtain ⟨v, hv, rv⟩ := rb.get hy
   have hfresh : H s.heap.objs.size = none := I.hok.fresh (Nat.le_refl _)
   have ltz := Heap.lt_size hz
   refine next_zipT_item D hz hTI hTO h1 h2 (show s.heap.IsTuple a ia.toArray from pa) (show s.heap.IsTuple b ib.toArray from pb) (x := u) (y := v) (by simpa using hu) (by simpa using hv) fun h' hz' hTO' h1' h2' htup hsz hk => ?_
   refine ⟨_, rfl, wpAny_letOwnedTupleGo_zip hz' fun h3 hz3 hsb => ?_⟩
   replace hsb : Heap.SameBut z h' h3 := hsb
   have kk : ∀ c o, c ∉ [z, TI, TO, i1, i2] → s.heap.get? c = some o → h3.get? c = some o := fun c o hc e => by
     simp only [List.mem_cons, List.not_mem_nil, or_false, not_or] at hc
     obtain ⟨n1, n2, n3, n4, n5⟩ := hc
     exact (hsb.2 c n1).trans (hk c o n1 n3 n4 n5 e)
   have ht3 : h3.get? s.heap.objs.size = some { cls := .type "tuple", data := .seq #[u, v] } := (hsb.2 _ (Nat.ne_of_gt ltz)).trans htup
   have hi1 : h3.IsTupleIter i1 a (i + 1) := h1'.at fun o e => (hsb.2 i1 D.i1z).trans e
   have hi2 : h3.IsTupleIter i2 b (i + 1) := h2'.at fun o e => (hsb.2 i2 D.i2z).trans e
   have hTI3 : IsPair h3 TI (.ref i1) (.ref i2) := (hsb.2 TI D.TIz).trans (hk _ _ D.TIz D.TITO D.TIi1 D.TIi2 hTI)
   have hTO3 : IsPair h3 TO u v := (hsb.2 TO D.TOz).trans hTO'
   have ntr : ∀ c o, H c = some o → c ∉ [z, TI, TO, i1, i2] := fun c o e hm => by rw [(hf c hm).1] at e; cases e
   have nsz : ∀ c o, H c = some o → c ≠ s.heap.objs.size := fun c o e => ne_of_none e hfresh
   refine ⟨.ref s.heap.objs.size, upd H s.heap.objs.size (.tup [x, y]), ?_, rfl, ⟨s.heap.objs.size, x, y, hfresh, rfl, rfl, fun zs q => by rw [I.tuple_inj q hqa]; exact hx, fun zs q => by rw [I.tuple_inj q hqb]; exact hy⟩, ⟨hz3, hTI3, ⟨_, _, hTO3⟩, hi1, hi2⟩, fun c hc => ?_⟩
   · refine Inv.step (s := s) (h' := h3) (t' := s.toks) (H' := upd H s.heap.objs.size (.tup [x, y])) I (g' := s.gens) (d' := s.drawn) (ch := [z, TI, TO, i1, i2]) (fun c hc => ?_) (fun c o _ _ hc e _ => kk c o hc e) (fun c o _ _ hc e _ => ⟨o.slots, kk c o hc e⟩) (fun c o hc e n => ?_) (fun c o hc e => ⟨o, kk c o hc e⟩)
       (fun c zs e => by rw [upd_ne (nsz c _ e)]; exact e) (fun c o w' e => by rw [upd_ne (nsz c _ e)]; exact e) (fun c ps e => ⟨#[], by rw [upd_ne (nsz c _ e), e]; simp⟩) (fun m hm => ?_) (fun c w' e => ?_) I.bare
     · have f := hf c hc
       exact ⟨f.2.2.2.1, f.2.1, f.2.2.2.2.1, f.2.2.2.2.2⟩
     · rw [upd_ne (Nat.ne_of_lt (Heap.lt_size e))]
       exact n
     · obtain ⟨o, es', ep, ho, r⟩ := hm
       exact ⟨o, es', ep, kk _ o (fun q => (hf _ q).2.1 rfl) ho, r⟩
     · by_cases hcs : c = s.heap.objs.size
       · subst hcs
         rw [upd_same] at e
         cases e
         exact ⟨(by show (2 : Nat) ≤ sizeLine; decide), [u, v], .cons ru (.cons rv .nil), ⟨_, ht3, rfl, rfl, _, rfl⟩⟩
       · rw [upd_ne hcs] at e
         refine (I.hok c w' e).stay (fun c' y' hc' q => ?_) (fun c' q => by rw [upd_ne (nsz c' _ q)]; exact q) fun c' zs q => by rw [upd_ne (nsz c' _ q)]; exact q
         rcases hc' with rfl | hc'
         · exact kk _ _ (ntr _ _ e) q
         · exact kk _ _ (ntr _ _ hc') q
   · have lb : c < s.heap.objs.size := by
       simp only [List.mem_cons, List.not_mem_nil, or_false] at hc
       obtain ⟨o1, q1, _⟩ := h1
       obtain ⟨o2, q2, _⟩ := h2
       rcases hc with rfl | rfl | rfl | rfl | rfl
       · exact ltz
       · exact Heap.lt_size hTI
       · exact Heap.lt_size hTO
       · exact Heap.lt_size q1
       · exact Heap.lt_size q2
     rw [upd_ne (Nat.ne_of_lt lb)]
     exact (hf c hc).1
 done := by
   intro X hP hw hK hc i pins s σ H E I hf st hg
   subst hP hw hK
   obtain ⟨hz, hTI, ⟨u0, v0, hTO⟩, h1, h2⟩ := st
   obtain ⟨xs, ys, hqa, hqb, hx⟩ := hg
   obtain ⟨ia, ra, pa, _⟩ := I.tuple hqa
   obtain ⟨ib, rb, pb, _⟩ := I.tuple hqb
   have la := ra.length
   have lb := rb.length
   refine next_zipT_end (I.ok.hd hc) D hz hTI hTO h1 h2 (show s.heap.IsTuple a ia.toArray from pa) (show s.heap.IsTuple b ib.toArray from pb) ?_ fun h' hk => ⟨rfl, I.turnedN (t' := s.toks) (fp := [z, TI, TO, i1, i2]) (fun c o hc e => ?_) hf⟩
   · simp; omega
   · simp only [List.mem_cons, List.not_mem_nil, or_false, not_or] at hc
     obtain ⟨n1, n2, n3, n4, n5⟩ := hc
     exact hk c o n1 n3 n4 n5 e
 self := fun _ _ _ _ _ st h => wpAny_pyIter_zip st.1 h
noncomputable def iZipT (K : PySem.W.Frag) (ta : TA) : TI := fun σ H R => ta σ H fun vs H1 => ∃ a b, vs = [.ref a, .ref b] ∧ (∃ xs, SqT K H1 a xs) ∧ (∃ ys, SqT K H1 b ys) ∧ R (Ityp K a b) H1
theorem boot_zipTy : bootBuiltins "zip" = some (.type "zip") := by decide +kernel
theorem pi_zipT {X : Cx} {K : PySem.W.Frag} {es : List Expr} {x1 : Nat} {tpos : Pos} {a b : Expr} {ta : TA} {p pos : Pos} (hg : Gl X "zip") (hm : X.mg "zip" = none) (ha : PA X [a, b] ta) (hK : X.K = K := by rfl) (hs : starEach [a, b] X.env = [(false, eval a X.env), (false, eval b X.env)] := by rfl) (hs2 : starEach [b] X.env = [(false, eval b X.env)] := by rfl) :
   PI X (.Tuple es x1 tpos) (.Call (.Name "zip" p) [a, b] [] pos) (iZipT K ta) := by
 subst hK
 intro pins s σ H R I h
 refine Call_ (ld_blt I hg hm boot_zipTy (PyProof.Rows.callWith_type1 (thn (ha pos pins s σ H _ I h) fun us s1 ⟨vs, H1, I1, r1, q1⟩ => ?_) (by rw [hs, hs2]) (by rw [hs2]; rfl)))
 obtain ⟨la, lb, e, ⟨xs, hqa⟩, ⟨ys, hqb⟩, q⟩ := q1
 subst e
 cases r1 with
 | cons ra rr =>
   cases rr with
   | cons rb rr =>
     cases rr
     cases ra
     cases rb
     obtain ⟨ia, _, pa, _⟩ := I1.tuple hqa
     obtain ⟨ib, _, pb, _⟩ := I1.tuple hqb
     have a1 : la < s1.heap.objs.size := by obtain ⟨_, e, _⟩ := pa; exact Heap.lt_size e
     have a2 : lb < s1.heap.objs.size := by obtain ⟨_, e, _⟩ := pb; exact Heap.lt_size e
     refine call_zipT (show s1.heap.IsTuple la ia.toArray from pa) (show s1.heap.IsTuple lb ib.toArray from pb) fun h' hz hTI hTO hi1 hi2 hsz hk => ?_
     refine wpAny_pyIter_zip hz ⟨s1.heap.objs.size + 4, [s1.heap.objs.size + 4, s1.heap.objs.size + 2, s1.heap.objs.size + 3, s1.heap.objs.size, s1.heap.objs.size + 1], _, _, H1, rfl, I1.kept (t' := s1.toks) hk, turn_zipT la lb _ _ _ _ _ (zipApart_new a1 a2), ⟨hz, hTI, ⟨_, _, hTO⟩, hi1, hi2⟩, fun c hc => ?_, q⟩
     have lc : s1.heap.objs.size ≤ c := by
       simp only [List.mem_cons, List.not_mem_nil, or_false] at hc
       rcases hc with rfl | rfl | rfl | rfl | rfl
       · exact Nat.le_add_right _ _
       · exact Nat.le_add_right _ _
       · exact Nat.le_add_right _ _
       · exact Nat.le_refl _
       · exact Nat.le_add_right _ _
     exact I1.fpOk lc (I1.hok.fresh lc)
section
variable {g : TG} {tc : TT} {te : TE} {D : Addr} {Q : Hp → Prop} {τ : St} {H : Hp}
theorem comp_zipT {K : PySem.W.Frag} {a b : Addr} {xs ys : List V} {n : Nat} (hn : xs.length = n ∧ ys.length = n) (Pv : Nat → List V → St → Hp → Prop) (h0 : Pv 0 [] τ H) (hl : ∀ i zs τ H, i ≤ n → Pv i zs τ H → SqT K H a xs ∧ SqT K H b ys)
   (hs : ∀ i x y zs τ H p, xs[i]? = some x → ys[i]? = some y → Pv i zs τ H → H p = none → g (.ref p) τ (upd H p (.tup [x, y])) fun τ2 H2 => tc τ2 H2 fun b H3 => if b = true then te τ2 H3 fun y H4 => H4 D = some (.lst zs) ∧ zs.length < sizeLine ∧ Pv (i + 1) (zs ++ [y]) τ2 (upd H4 D (.lst (zs ++ [y]))) else Pv (i + 1) zs τ2 H3)
   (hd : ∀ zs τ H, Pv n zs τ H → Q H) : RunC (Ityp K a b) g tc te D Q τ H := by
 refine ⟨fun i m zs τ H => m = n - i ∧ i ≤ n ∧ Pv i zs τ H, ⟨n, by simp, Nat.zero_le _, h0⟩, ?_⟩
 rintro i m zs τ H ⟨rfl, hi, pp⟩
 obtain ⟨qa, qb⟩ := hl i zs τ H hi pp
 by_cases hlt : i < n
 · refine .inr ⟨⟨xs, ys, xs[i], ys[i], qa, qb, by simp <;> omega, by simp <;> omega⟩, Pv (i + 1), fun ys' τ' H' p' => ⟨n - (i + 1), by omega, rfl, hlt, p'⟩, fun x H' y => ?_⟩
   obtain ⟨p, u, v, hp, rfl, rfl, y1, y2⟩ := y
   exact hs i u v zs τ _ p (y1 xs qa) (y2 ys qb) pp hp
 · have e : i = n := by omega
   subst e
   exact .inl ⟨⟨xs, ys, qa, qb, by omega⟩, hd zs τ H pp⟩
end
end L2
namespace L2
open PySem PySem.Spec PyProof.Rows
open AutoSeq1 (wpAny_loadPart')
theorem enumT_new (t : Addr) (vs : Array Value) (n : Nat) (dd : Option Addr) (sl : Array (Option Value)) : Meets (Builtin.«enumerate.__new__» ⟨[.type "enumerate", .ref t], []⟩) (fun _ R s => s.heap.get? t = some { cls := .type "tuple", dict := dd, data := .seq vs n, slots := sl } ∧
     R (.ok (.ret (.ref (zt1 s.heap t).objs.size))) { s with heap := (zt1 s.heap t).push { cls := .type "enumerate", data := .fields #[.none, .bool false, .ref s.heap.objs.size, rawInt 0, .none, .none] } }) :=
 .of_wp fun prog w A R s h => by
   obtain ⟨hp, g, d, tk, os⟩ := s; obtain ⟨q1, q2⟩ := h
   have hsub := sub_enumerate
   have gt : Heap.IsTuple (Shared.heap ⟨hp, g, d, tk, os⟩) t vs := ⟨_, q1, rfl, n, rfl⟩
   wp_walk using wpAny_loadPart' q1
   refine wpAny_stack_any fun st => wpAny_pure ?_
   split
   · rename_i c _ _ _ _ _
     cases (c == Value.type "enumerate")
     · wp_walk using wpAny_loadPart' q1, wpAny_pyIter_tuple gt
       exact ⟨_, rfl, q2⟩
     · wp_walk using wpAny_loadPart' q1, wpAny_pyIter_tuple gt
       exact ⟨_, rfl, q2⟩
   · wp_walk using wpAny_loadPart' q1, wpAny_pyIter_tuple gt
     exact ⟨_, rfl, q2⟩
section
variable {prog : Program} {w : World} {A : Around} {E : Value → Shared → Prop} {s : Shared}
theorem enumT_item {e j t : Addr} {n : Nat} {vs : Array Value} {x old : Value} {Q : Value → Shared → Prop} (ge : IsEnum s.heap e j n old) (gj : s.heap.IsTupleIter j t n) (gt : s.heap.IsTuple t vs) (gx : vs[n]? = some x) (ne : e ≠ j)
   (k : ∀ h', IsEnumOut h' e j ((n : Int) + 1) x s.heap.objs.size → h'.IsTupleIter j t (n + 1) → h'.get? s.heap.objs.size = some { cls := .type "tuple", data := .seq #[.int n s.toks, x] } → h'.objs.size = s.heap.objs.size + 1 →
     (∀ b o, b ≠ e → b ≠ j → s.heap.get? b = some o → h'.get? b = some o) → Q (.ref s.heap.objs.size) { s with heap := h', toks := s.toks + 1 }) :
   wpAny (model prog w) A (Builtin.«enumerate.__next__» ⟨[.ref e], []⟩) (fun fin s' => ∃ r, fin = .done (.ret r) ∧ Q r s') E s := by
 obtain ⟨hp, g, d, tk, os⟩ := s
 show wpAny _ _ (field (.ref e) 2 >>= _) _ _ _; refine wpAny_bind (wpAny_field ge rfl (x := .ref j) rfl ?_)
 refine wpAny_bind (nextOf_tup_item gj gt gx fun k1 gj1 w1 => ?_)
 replace w1 : Heap.SameBut j hp k1 := w1
 have ge1 : IsEnum k1 e j n old := (w1.2 e ne).trans ge
 show wpAny _ _ (field (.ref e) 3 >>= _) _ _ ⟨k1, g, d, tk, os⟩; refine wpAny_bind (wpAny_field ge1 rfl (x := rawInt n) rfl ?_)
 show wpAny _ _ (field (.ref e) 4 >>= _) _ _ ⟨k1, g, d, tk, os⟩; refine wpAny_bind (wpAny_field ge1 rfl (x := .none) rfl ?_)
 show wpAny _ _ (mkInt n >>= _) _ _ ⟨k1, g, d, tk, os⟩; refine wpAny_bind (wpAny_mkInt ?_)
 show wpAny _ _ (setField (.ref e) 3 (rawInt ((n : Int) + 1)) >>= _) _ _ ⟨k1, g, d, tk + 1, os⟩
 refine wpAny_bind (wpAny_setField_rec ge1 (by simp) fun k2 ge2 w2 => ?_)
 replace w2 : Heap.SameBut e k1 k2 := w2
 replace ge2 : IsEnum k2 e j ((n : Int) + 1) old := ge2
 show wpAny _ _ (setField (.ref e) 4 .none >>= _) _ _ ⟨k2, g, d, tk + 1, os⟩; refine wpAny_bind (wpAny_setField_rec ge2 (by simp) fun k3 ge3 w3 => ?_)
 replace w3 : Heap.SameBut e k2 k3 := w3
 replace ge3 : IsEnum k3 e j ((n : Int) + 1) old := ge3
 show wpAny _ _ (newTuple [.int n tk, x] >>= _) _ _ ⟨k3, g, d, tk + 1, os⟩; refine wpAny_bind (wpAny_newTuple ?_)
 have ge4 : IsEnum (k3.push { cls := .type "tuple", data := .seq #[.int n tk, x] }) e j ((n : Int) + 1) old := Heap.get?_push_of_some _ ge3
 generalize hk4 : k3.push { cls := .type "tuple", data := .seq #[.int n tk, x] } = k4 at ge4
 have sz : k3.objs.size = hp.objs.size := by rw [w3.1, w2.1, w1.1]
 have le : e < hp.objs.size := Heap.lt_size ge
 have gt4 : k4.get? hp.objs.size = some { cls := .type "tuple", data := .seq #[.int n tk, x] } := by rw [← hk4, ← sz]; exact Heap.get?_push_size _ rfl
 have sz4 : k4.objs.size = hp.objs.size + 1 := by rw [← hk4, Heap.size_push, sz]
 have kp4 : ∀ b o, b ≠ e → b ≠ j → hp.get? b = some o → k4.get? b = some o := fun b o n1 n2 q => by
   rw [← hk4]; exact Heap.get?_push_of_some _ (w3.extBut b o n1 (w2.extBut b o n1 (w1.extBut b o n2 q)))
 have gj4 : k4.IsTupleIter j t (n + 1) := by
   rw [← hk4]; obtain ⟨o, q, r⟩ := (gj1.extBut w2.extBut (Ne.symm ne)).extBut w3.extBut (Ne.symm ne); exact ⟨o, Heap.get?_push_of_some _ q, r⟩
 show wpAny _ _ (Builtin.SmallTypes.ownedTupleIsFree (.ref e) >>= _) _ _ ⟨k4, g, d, tk + 1, os⟩
 rw [sz]; clear hk4 ge3 w3 ge2 w2 ge1 w1 gj1 sz k3 k2 k1
 refine wpAny_bind ?_; unfold Builtin.SmallTypes.ownedTupleIsFree
 refine wpAny_bind (wpAny_field ge4 rfl (x := .none) rfl (wpAny_pure ?_)); simp only [if_true]
 refine wpAny_bind (wpAny_rule ?_); refine wpAny_bind (wpAny_field ge4 rfl (x := old) rfl ?_)
 refine wpAny_bind (wpAny_setField_rec ge4 (by simp) fun k5 ge5 w5 => ?_)
 replace w5 : Heap.SameBut e k4 k5 := w5
 replace ge5 : IsEnum k5 e j ((n : Int) + 1) x := ge5
 show wpAny _ _ (Builtin.SmallTypes.ownedTupleHandOut (.ref e) (.ref hp.objs.size) >>= _) _ _ ⟨k5, g, d, tk + 1, os⟩; refine wpAny_bind ?_; unfold Builtin.SmallTypes.ownedTupleHandOut
 refine wpAny_bind (wpAny_setField_rec ge5 (by simp) fun k6 ge6 w6 => ?_)
 replace w6 : Heap.SameBut e k5 k6 := w6
 replace ge6 : IsEnumOut k6 e j ((n : Int) + 1) x hp.objs.size := ge6
 refine wpAny_setField_rec ge6 (by simp) fun k7 ge7 w7 => ?_
 replace w7 : Heap.SameBut e k6 k7 := w7
 replace ge7 : IsEnumOut k7 e j ((n : Int) + 1) x hp.objs.size := ge7
 refine wpAny_bind (wpAny_letGo (wpAny_pure ⟨_, rfl, k k7 ge7 ?_ ?_ ?_ ?_⟩))
 · exact ((gj4.extBut w5.extBut (Ne.symm ne)).extBut w6.extBut (Ne.symm ne)).extBut w7.extBut (Ne.symm ne)
 · exact w7.extBut _ _ (Nat.ne_of_gt le) (w6.extBut _ _ (Nat.ne_of_gt le) (w5.extBut _ _ (Nat.ne_of_gt le) gt4))
 · rw [w7.1, w6.1, w5.1, sz4]
 · exact fun b o n1 n2 q => w7.extBut b o n1 (w6.extBut b o n1 (w5.extBut b o n1 (kp4 b o n1 n2 q)))
theorem next_enumT_item {e j t : Addr} {n : Nat} {vs : Array Value} {x old : Value} {Q : Option Value → Shared → Prop} (ge : IsEnum s.heap e j n old) (gj : s.heap.IsTupleIter j t n) (gt : s.heap.IsTuple t vs) (gx : vs[n]? = some x) (ne : e ≠ j)
   (k : ∀ h', IsEnumOut h' e j ((n : Int) + 1) x s.heap.objs.size → h'.IsTupleIter j t (n + 1) → h'.get? s.heap.objs.size = some { cls := .type "tuple", data := .seq #[.int n s.toks, x] } → h'.objs.size = s.heap.objs.size + 1 →
     (∀ b o, b ≠ e → b ≠ j → s.heap.get? b = some o → h'.get? b = some o) → Q (some (.ref s.heap.objs.size)) { s with heap := h', toks := s.toks + 1 }) : wpAny (model prog w) A (pyNext (.ref e)) Q E s := by
 have ht : s.TypeIs (.ref e) "enumerate" := ⟨_, ge, rfl⟩
 unfold pyNext
 exact wpAny_bind (wpAny_attempt (wpAny_callSpecial?_slot (name := Str.ofString "__next__") ht F.slot_enumerate_next (wpAny_call_entry F.slot_enumerate_next ht F.entry_enumerate_next (enumT_item ge gj gt gx ne fun h' a b c d q => wpAny_pure (k h' a b c d q)) (F.args_enumerate_next_1 _))))
theorem next_enumT_end {e j t : Addr} {n : Nat} {vs : Array Value} {old : Value} {Q : Option Value → Shared → Prop} (hn : A.handled = none) (ge : IsEnum s.heap e j n old) (gj : s.heap.IsTupleIter j t n) (gt : s.heap.IsTuple t vs) (gx : vs[n]? = none)
   (k : ∀ h', Heap.ExtBut j s.heap h' → Q none { s with heap := h' }) : wpAny (model prog w) A (pyNext (.ref e)) Q E s := by
 have ht : s.TypeIs (.ref e) "enumerate" := ⟨_, ge, rfl⟩
 unfold pyNext
 refine wpAny_bind (wpAny_attempt (wpAny_callSpecial?_slot (name := Str.ofString "__next__") ht F.slot_enumerate_next (wpAny_call_entry F.slot_enumerate_next ht F.entry_enumerate_next ?_ (F.args_enumerate_next_1 _))))
 show wpAny _ _ (field (.ref e) 2 >>= _) _ _ _; refine wpAny_bind (wpAny_field ge rfl (x := .ref j) rfl ?_)
 refine wpAny_bind (nextOf_tup_end hn gj gt gx fun h' x he hx => ?_)
 obtain ⟨o, q1, q2⟩ := hx
 exact wpAny_bind (wpAny_isInstance (T := "StopIteration") (b := true) ⟨o, q1, q2⟩ isSubtype_stop (wpAny_pure (k _ he)))
theorem call_enumT {t : Addr} {vs : Array Value} {Q : Value → Shared → Prop} (gt : s.heap.IsTuple t vs)
   (k : ∀ h', IsEnum h' (s.heap.objs.size + 1) s.heap.objs.size 0 .none → h'.IsTupleIter s.heap.objs.size t 0 → h'.objs.size = s.heap.objs.size + 2 → (∀ b o, s.heap.get? b = some o → h'.get? b = some o) → Q (.ref (s.heap.objs.size + 1)) { s with heap := h' }) :
   wpAny (model prog w) A (call (.type "enumerate") [.ref t]) Q E s := by
 obtain ⟨⟨c, dd, dt, sl⟩, q, qc, n, qd⟩ := gt
 replace qc : c = .type "tuple" := qc
 replace qd : dt = .seq vs n := qd
 subst qc qd
 refine callType_new F.called_enumerate (by decide) (F.typeCall_enumerate_1 _) (F.newCall_enumerate_1 _) (fun obj => F.args_object_init_2 obj _) F.entry_enumerate_new (enumT_new t vs n dd sl) ⟨q, ?_⟩
 have z1 : (zt1 s.heap t).objs.size = s.heap.objs.size + 1 := Heap.size_push ..
 show _ ∧ _
 rw [z1]
 have ge : IsEnum ((zt1 s.heap t).push { cls := .type "enumerate", data := .fields #[.none, .bool false, .ref s.heap.objs.size, rawInt 0, .none, .none] }) (s.heap.objs.size + 1) s.heap.objs.size 0 .none := by
   have := Heap.get?_push_size (zt1 s.heap t) (o := { cls := .type "enumerate", data := .fields #[.none, .bool false, .ref s.heap.objs.size, rawInt 0, .none, .none] }) rfl
   rw [z1] at this; exact this
 exact ⟨⟨_, ge, rfl⟩, k _ ge ⟨_, Heap.get?_push_of_some _ (Heap.get?_push_size _ rfl), rfl, rfl⟩ (by rw [Heap.size_push, z1]) fun b o x => Heap.get?_push_of_some _ (Heap.get?_push_of_some _ x)⟩
end
noncomputable def IteT (K : PySem.W.Frag) (a : Addr) : It :=
 ⟨fun i H => ∃ xs x, SqT K H a xs ∧ xs[i]? = some x, fun i H x H' => ∃ p v, H p = none ∧ x = .ref p ∧ H' = upd H p (.tup [.int i, v]) ∧ ∀ xs, SqT K H a xs → xs[i]? = some v, fun i H => ∃ xs, SqT K H a xs ∧ xs.length ≤ i⟩
theorem turn_enumT {P : Program} {w : World} {K : PySem.W.Frag} {es : List Expr} {x1 : Nat} {tpos : Pos} (a e it : Addr) (hne : e ≠ it) : Turn P w K (.Tuple es x1 tpos) (IteT K a) [e, it] e (fun i h => (∃ old, IsEnum h e it (i : Int) old) ∧ h.IsTupleIter it a i) where
 mem := by simp
 obj := fun i h st b hb => by
   obtain ⟨⟨old, h1⟩, o, h2, c, d⟩ := st
   rcases List.mem_cons.mp hb with rfl | hb
   · exact ⟨_, h1, fun v z => by cases (show Data.fields _ = Data.cell v from z)⟩
   · have z : b = it := by simpa using hb
     subst z
     exact ⟨o, h2, fun v z => by rw [d] at z; cases z⟩
 keep := fun i h h' st k => by
   obtain ⟨⟨old, h1⟩, h2⟩ := st
   exact ⟨⟨old, k e (by simp) _ h1⟩, h2.at fun o z => k it (by simp) o z⟩
 item := by
   intro X hP hw hK hc i pins s σ H E I hf st hg
   subst hP hw hK
   obtain ⟨⟨old, h1⟩, h2⟩ := st
   obtain ⟨xs, x, hq, hx⟩ := hg
   obtain ⟨its, rv, p, hz⟩ := I.tuple hq
   obtain ⟨u, hu, ru⟩ := rv.get hx
   have fe := hf e (by simp)
   have fi := hf it (by simp)
   have lte : e < s.heap.objs.size := Heap.lt_size h1
   have hfresh : H s.heap.objs.size = none := I.hok.fresh (Nat.le_refl _)
   refine next_enumT_item h1 h2 (show s.heap.IsTuple a its.toArray from p) (x := u) (by simpa using hu) hne fun h' hout hit' htup hsz hk => ?_
   refine ⟨_, rfl, wpAny_letOwnedTupleGo_enum hout fun h3 hen hsb => ?_⟩
   replace hsb : Heap.SameBut e h' h3 := hsb
   have kk : ∀ b o, b ≠ e → b ≠ it → s.heap.get? b = some o → h3.get? b = some o := fun b o n1 n2 z => (hsb.2 b n1).trans (hk b o n1 n2 z)
   have ht3 : h3.get? s.heap.objs.size = some { cls := .type "tuple", data := .seq #[.int i s.toks, u] } := (hsb.2 _ (Nat.ne_of_gt lte)).trans htup
   have hi3 : h3.IsTupleIter it a (i + 1) := hit'.at fun o z => (hsb.2 it hne.symm).trans z
   have nch : ∀ b, b ∉ [e, it] → b ≠ e ∧ b ≠ it := fun b hb => by simpa using hb
   have ntr : ∀ b v, H b = some v → b ≠ e ∧ b ≠ it := fun b v z => ⟨ne_of_none z fe.1, ne_of_none z fi.1⟩
   have nsz : ∀ b v, H b = some v → b ≠ s.heap.objs.size := fun b v z => ne_of_none z hfresh
   refine ⟨.ref s.heap.objs.size, upd H s.heap.objs.size (.tup [.int i, x]), ?_, rfl, ⟨s.heap.objs.size, x, hfresh, rfl, rfl, fun ys hy => by rw [I.tuple_inj hy hq]; exact hx⟩, ⟨⟨_, hen⟩, hi3⟩, fun b hb => ?_⟩
   · refine Inv.step (s := s) (h' := h3) (t' := s.toks + 1) (H' := upd H s.heap.objs.size (.tup [.int i, x])) I (g' := s.gens) (d' := s.drawn) (ch := [e, it]) (fun b hb => ?_) (fun b o _ _ hb z _ => kk b o (nch b hb).1 (nch b hb).2 z) (fun b o _ _ hb z _ => ⟨o.slots, kk b o (nch b hb).1 (nch b hb).2 z⟩) (fun b o hb z n => ?_) (fun b o hb z => ⟨o, kk b o (nch b hb).1 (nch b hb).2 z⟩)
       (fun b ys z => by rw [upd_ne (nsz b _ z)]; exact z) (fun b o v z => by rw [upd_ne (nsz b _ z)]; exact z) (fun b ps z => ⟨#[], by rw [upd_ne (nsz b _ z), z]; simp⟩) (fun m hm => ?_) (fun b v z => ?_) I.bare
     · rcases List.mem_cons.mp hb with rfl | hb
       · exact ⟨fe.2.2.2.1, fe.2.1, fe.2.2.2.2.1, fe.2.2.2.2.2⟩
       · have z : b = it := by simpa using hb
         subst z
         exact ⟨fi.2.2.2.1, fi.2.1, fi.2.2.2.2.1, fi.2.2.2.2.2⟩
     · rw [upd_ne (Nat.ne_of_lt (Heap.lt_size z))]
       exact n
     · obtain ⟨o, es', ep, ho, r⟩ := hm
       exact ⟨o, es', ep, kk _ o fe.2.1.symm fi.2.1.symm ho, r⟩
     · by_cases hb : b = s.heap.objs.size
       · subst hb
         rw [upd_same] at z
         cases z
         exact ⟨(by show (2 : Nat) ≤ sizeLine; decide), [.int i s.toks, u], .cons ⟨_, rfl⟩ (.cons ru .nil), ⟨_, ht3, rfl, rfl, _, rfl⟩⟩
       · rw [upd_ne hb] at z
         refine (I.hok b v z).stay (fun c y hc' q => ?_) (fun c q => by rw [upd_ne (nsz c _ q)]; exact q) fun c ys q => by rw [upd_ne (nsz c _ q)]; exact q
         rcases hc' with rfl | hc'
         · exact kk _ _ (ntr _ _ z).1 (ntr _ _ z).2 q
         · exact kk _ _ (ntr _ _ hc').1 (ntr _ _ hc').2 q
   · have lb : b < s.heap.objs.size := by
       rcases List.mem_cons.mp hb with rfl | hb
       · exact lte
       · have z : b = it := by simpa using hb
         subst z
         obtain ⟨o, z, _⟩ := h2
         exact Heap.lt_size z
     rw [upd_ne (Nat.ne_of_lt lb)]
     exact (hf b hb).1
 done := by
   intro X hP hw hK hc i pins s σ H E I hf st hg
   subst hP hw hK
   obtain ⟨⟨old, h1⟩, h2⟩ := st
   obtain ⟨xs, hq, hx⟩ := hg
   obtain ⟨its, rv, p, hz⟩ := I.tuple hq
   obtain ⟨f0, f1, f2, f3, f4, f5⟩ := hf it (by simp)
   have hl := rv.length
   exact next_enumT_end (I.ok.hd hc) h1 h2 (show s.heap.IsTuple a its.toArray from p) (by simp; omega) fun h' eb => ⟨rfl, I.turned (t' := s.toks) (fun b o hb z => eb b o hb z) f0 f1 f3 f4 f5⟩
 self := fun _ _ _ _ _ st h => by
   obtain ⟨⟨old, h1⟩, h2⟩ := st
   exact wpAny_pyIter_enum h1 h
noncomputable def iEnumT (K : PySem.W.Frag) (ta : TA) : TI := fun σ H R => ta σ H fun vs H1 => ∃ a, vs = [.ref a] ∧ (∃ xs, SqT K H1 a xs) ∧ R (IteT K a) H1
theorem boot_enumerateTy : bootBuiltins "enumerate" = some (.type "enumerate") := by decide +kernel
theorem pi_enumT {X : Cx} {K : PySem.W.Frag} {es : List Expr} {x1 : Nat} {tpos : Pos} {a : Expr} {ta : TA} {p pos : Pos} (hg : Gl X "enumerate") (hm : X.mg "enumerate" = none) (ha : PA X [a] ta) (hK : X.K = K := by rfl) (hs : starEach [a] X.env = [(false, eval a X.env)] := by rfl) : PI X (.Tuple es x1 tpos) (.Call (.Name "enumerate" p) [a] [] pos) (iEnumT K ta) := by
 subst hK
 intro pins s σ H R I h
 refine Call_ (ld_blt I hg hm boot_enumerateTy (PyProof.Rows.callWith_type1 (thn (ha pos pins s σ H _ I h) fun us s1 ⟨vs, H1, I1, r1, q1⟩ => ?_) hs rfl))
 obtain ⟨l, e, ⟨xs, hq⟩, q⟩ := q1
 subst e
 cases r1 with
 | cons r rr =>
   cases rr
   cases r
   obtain ⟨its, rv, pl, hz⟩ := I1.tuple hq
   refine call_enumT (show s1.heap.IsTuple l its.toArray from pl) fun h' hen hit hsz hk => ?_
   refine wpAny_pyIter_enum hen ⟨s1.heap.objs.size + 1, [s1.heap.objs.size + 1, s1.heap.objs.size], _, _, H1, rfl, I1.kept (t' := s1.toks) hk, turn_enumT l _ _ (Nat.succ_ne_self _), ⟨⟨_, hen⟩, hit⟩, fun b hb => ?_, q⟩
   have lb : s1.heap.objs.size ≤ b := by
     rcases List.mem_cons.mp hb with rfl | hb
     · exact Nat.le_succ _
     · have z : b = s1.heap.objs.size := by simpa using hb
       rw [z]
       exact Nat.le_refl _
   exact I1.fpOk lb (I1.hok.fresh lb)
section
variable {g : TG} {tc : TT} {te : TE} {D : Addr} {Q : Hp → Prop} {τ : St} {H : Hp}
theorem comp_enumT {K : PySem.W.Frag} {a : Addr} {xs : List V} (Pv : Nat → List V → St → Hp → Prop) (h0 : Pv 0 [] τ H) (hl : ∀ i ys τ H, i ≤ xs.length → Pv i ys τ H → SqT K H a xs)
   (hs : ∀ i x ys τ H p, xs[i]? = some x → Pv i ys τ H → H p = none → g (.ref p) τ (upd H p (.tup [.int i, x])) fun τ2 H2 => tc τ2 H2 fun b H3 => if b = true then te τ2 H3 fun y H4 => H4 D = some (.lst ys) ∧ ys.length < sizeLine ∧ Pv (i + 1) (ys ++ [y]) τ2 (upd H4 D (.lst (ys ++ [y]))) else Pv (i + 1) ys τ2 H3)
   (hd : ∀ ys τ H, Pv xs.length ys τ H → Q H) : RunC (IteT K a) g tc te D Q τ H := by
 refine ⟨fun i m ys τ H => m = xs.length - i ∧ i ≤ xs.length ∧ Pv i ys τ H, ⟨xs.length, by simp, Nat.zero_le _, h0⟩, ?_⟩
 rintro i m ys τ H ⟨rfl, hi, pp⟩
 have q := hl i ys τ H hi pp
 by_cases hlt : i < xs.length
 · refine .inr ⟨⟨xs, xs[i], q, by simp [hlt]⟩, Pv (i + 1), fun ys' τ' H' p' => ⟨xs.length - (i + 1), by omega, rfl, hlt, p'⟩, fun x H' y => ?_⟩
   obtain ⟨p, v, hp, rfl, rfl, y⟩ := y
   exact hs i v ys τ _ p (y xs q) pp hp
 · have e : i = xs.length := by omega
   subst e
   exact .inl ⟨⟨xs, q, Nat.le_refl _⟩, hd ys τ H pp⟩
theorem for_enumT {K : PySem.W.Frag} {a : Addr} {xs : List V} {g : TG} {tb : TS} {D : Ends} {σ : St} {H : Hp} (Pv : Nat → St → Hp → Prop) (h0 : Pv 0 σ H) (hl : ∀ i σ H, i ≤ xs.length → Pv i σ H → SqT K H a xs)
   (hs : ∀ i x σ H p, xs[i]? = some x → Pv i σ H → H p = none → g (.ref p) σ (upd H p (.tup [.int i, x])) fun σ2 H2 => tb { D with nx := Pv (i + 1), ct := Pv (i + 1), bk := D.nx } σ2 H2) (hd : ∀ σ H, Pv xs.length σ H → D.nx σ H) :
   ∃ W : Nat → Nat → St → Hp → Prop, (∃ m, W 0 m σ H) ∧ ∀ i m σ H, W i m σ H →
     ((IteT K a).stop i H ∧ D.nx σ H) ∨ ((IteT K a).go i H ∧ ∃ N : St → Hp → Prop, (∀ σ' H', N σ' H' → ∃ m', m' < m ∧ W (i + 1) m' σ' H') ∧ ∀ x H', (IteT K a).yld i H x H' → g x σ H' fun σ2 H2 => tb { D with nx := N, ct := N, bk := D.nx } σ2 H2) := by
 refine ⟨fun i m σ H => m = xs.length - i ∧ i ≤ xs.length ∧ Pv i σ H, ⟨xs.length, by simp, Nat.zero_le _, h0⟩, ?_⟩
 rintro i m σ H ⟨rfl, hi, pp⟩
 have q := hl i σ H hi pp
 by_cases hlt : i < xs.length
 · refine .inr ⟨⟨xs, xs[i], q, by simp [hlt]⟩, Pv (i + 1), fun σ' H' p' => ⟨xs.length - (i + 1), by omega, rfl, hlt, p'⟩, fun x H' y => ?_⟩
   obtain ⟨p, v, hp, rfl, rfl, y⟩ := y
   exact hs i v σ _ p (y xs q) pp hp
 · have e : i = xs.length := by omega
   subst e
   exact .inl ⟨⟨xs, q, Nat.le_refl _⟩, hd σ H pp⟩
end
end L2
namespace Hb
noncomputable def oftN (fs : List Int) (f : Int) : Nat → Int
 | 0 => 0
 | i + 1 => if fs.getD i 0 = f then oftN fs f i + 1 - 2 * ((i : Int) % 2) else oftN fs f i
noncomputable def sg (i : Nat) : Int := 1 - 2 * ((i : Int) % 2)
end Hb
namespace Hb
open PySem L2
noncomputable def sgn (n : Int) (i : Nat) : Int := if (i : Int) % 2 = 0 then n else -n
noncomputable def addFN (ms : Ms) (fs : List Int) (n : Int) : Nat → Ms
 | 0 => ms
 | i + 1 => addI (addFN ms fs n i) (fs.getD i 0) (sgn n i)
noncomputable def addF (ms : Ms) (fs : List Int) (n : Int) : Ms := addFN ms fs n fs.length
theorem get_addFN (ms : Ms) (fs : List Int) (n k : Int) : ∀ i, getI (addFN ms fs n i) k = getI ms k + oftN fs k i * n
 | 0 => by simp [addFN, oftN]
 | i + 1 => by
   show getI (addI (addFN ms fs n i) (fs.getD i 0) (sgn n i)) k = _
   rw [get_add, get_addFN ms fs n k i]
   show _ = getI ms k + (if fs.getD i 0 = k then oftN fs k i + 1 - 2 * ((i : Int) % 2) else oftN fs k i) * n
   by_cases h : k = fs.getD i 0
   · rw [if_pos h, if_pos h.symm]
     have e : sgn n i = (1 - 2 * ((i : Int) % 2)) * n := by
       unfold sgn
       have : (i : Int) % 2 = 0 ∨ (i : Int) % 2 = 1 := by omega
       rcases this with z | z
       · rw [if_pos z, z]; simp
       · rw [if_neg (by omega), z]; omega
     rw [e, show oftN fs k i + 1 - 2 * ((i : Int) % 2) = oftN fs k i + (1 - 2 * ((i : Int) % 2)) by omega, Int.add_mul]
     omega
   · rw [if_neg h, if_neg (fun z => h z.symm)]
theorem nd_addFN {ms : Ms} (h : nd ms) (fs : List Int) (n : Int) : ∀ i, nd (addFN ms fs n i)
 | 0 => h
 | i + 1 => nd_add (nd_addFN h fs n i) _ _
theorem len_addFN (ms : Ms) (fs : List Int) (n : Int) : ∀ i, (addFN ms fs n i).length ≤ ms.length + i
 | 0 => Nat.le_refl _
 | i + 1 => by
   have h1 := len_addFN ms fs n i
   have h2 := len_add (addFN ms fs n i) (fs.getD i 0) (sgn n i)
   show (addI _ _ _).length ≤ _
   omega
noncomputable def StayX (b : Addr) (H H1 : Hp) : Prop := ∀ c q, c ≠ b → H c = some q → H1 c = some q
section
variable {K : PySem.W.Frag} {H H1 : Hp} {b : Addr} {m : List (Key × V)}
theorem SqL.x (s : StayX b H H1) (hb : H b = some (.dK m)) {a : Addr} {xs : List V} (h : SqL K H a xs) : SqL K H1 a xs := by
 rcases h with (h | ⟨o, h⟩) | h
 · exact .inl (.inl (s _ _ (fun z => by rw [z, hb] at h; cases h) h))
 · exact .inl (.inr ⟨o, s _ _ (fun z => by rw [z, hb] at h; cases h) h⟩)
 · exact .inr h
theorem SqT.x (s : StayX b H H1) (hb : H b = some (.dK m)) {a : Addr} {xs : List V} (h : SqT K H a xs) : SqT K H1 a xs := by
 rcases h with (h | ⟨o, h⟩) | h
 · exact .inl (.inl (s _ _ (fun z => by rw [z, hb] at h; cases h) h))
 · exact .inl (.inr ⟨o, s _ _ (fun z => by rw [z, hb] at h; cases h) h⟩)
 · exact .inr h
mutual
theorem Rep.x (s : StayX b H H1) (hb : H b = some (.dK m)) {v : V} {d : L2.D} (h : Rep K H v d) : Rep K H1 v d := by
 cases d with
 | non => exact h
 | bl b => exact h
 | int i => exact h
 | str x => exact h
 | tup ds =>
   obtain ⟨a, vs, e, q, r⟩ := h
   exact ⟨a, vs, e, SqT.x s hb q, Reps.x s hb r⟩
 | lst ds =>
   obtain ⟨a, vs, e, q, r⟩ := h
   exact ⟨a, vs, e, SqL.x s hb q, Reps.x s hb r⟩
theorem Reps.x (s : StayX b H H1) (hb : H b = some (.dK m)) {vs : List V} {ds : List L2.D} (h : Reps K H vs ds) : Reps K H1 vs ds := by
 cases ds with
 | nil => exact h
 | cons d r =>
   obtain ⟨v, q, e, h1, h2⟩ := h
   exact ⟨v, q, e, Rep.x s hb h1, Reps.x s hb h2⟩
end
end
section
variable (K : PySem.W.Frag)
noncomputable def sp_add_faces : Sp := fun vs H Q _ => ∃ (a : Addr) (v : V) (ms : Ms) (fs : List Int) (n : Int), vs = [.ref a, v, .int n] ∧ H a = some (.dK (cK ms)) ∧ TI K H v fs ∧ ms.length + fs.length ≤ 100000 ∧
 ∀ H', StayX a H H' → H' a = some (.dK (cK (addF ms fs n))) → Q .non H'
end
end Hb
namespace L2
open PySem PySem.Spec PyProof.Rows
structure PEw (X : Cx) (e : Expr) (t : TE) : Prop where
 h : PE X e t
theorem pe_ixTw {X : Cx} {K : PySem.W.Frag} {sl : Expr} {es : List Expr} {k : Nat} {p q : Pos} {ta : TA} {tsl : TE} (ha : PAw X es ta) (hsl : PE X sl tsl) (hpi : PlainIx sl) (hK : X.K = K := by rfl) :
   PEw X (.Subscript (.Tuple es k p) sl q) (tOp (rIxT K) (tTup ta) tsl) := by
 subst hK
 exact ⟨pe_ix kix_tup (pe_tup ha.h) hsl hpi⟩
end L2
namespace Hb
open PySem L2
noncomputable def toTI : L2.D → List Int
 | .tup ds => ds.map toI
 | _ => []
theorem fits_tup {xs : List (List Int)} {d : L2.D} (h : fitsD xs d = true) : d = tI (toTI d) := by
 cases d with
 | tup ds =>
   rw [fitsD_tup] at h
   simp only [Bool.and_eq_true] at h
   have := all_nums h.1.2
   show L2.D.tup ds = .tup (nums (ds.map toI))
   rw [← this]
 | _ => simp [fitsD] at h
theorem log_small {n : Int} (h : n.natAbs < 1024) : n.natAbs.log2 < 1920 := by
 by_cases z : n.natAbs = 0
 · rw [z]; decide
 · exact Nat.lt_of_lt_of_le ((Nat.log2_lt (k := 10) z).mpr h) (by decide)
theorem at0 (x : V) (r : List V) : atI (x :: r) 0 = some x := atI_nat (j := 0) rfl
theorem at1 (x y : V) (r : List V) : atI (x :: y :: r) 1 = some y := atI_nat (j := 1) rfl
theorem at2 (x y z : V) (r : List V) : atI (x :: y :: z :: r) 2 = some z := atI_nat (j := 2) rfl
theorem smallS {x : Str} (h : x.length ≤ 100 := by decide) : x.length ≤ 100000 := by omega
theorem raised_same {H H1 : Hp} {e d C : Addr} {fs : List (Str × V)} (s : Same H H1) (he : H1 e = none) (hd : upd H1 e (newE e C) d = none) :
   Same H (del (upd (upd (upd H1 e (newE e C)) d (.xd fs)) e (madeE e C d)) e) ∧ del (upd (upd (upd H1 e (newE e C)) d (.xd fs)) e (madeE e C d)) e d = some (.xd fs) := by
 have hde : d ≠ e := fun z => by rw [z, upd_same] at hd; cases hd
 have hd1 : H1 d = none := by rw [upd_ne hde] at hd; exact hd
 refine ⟨fun b u q => ?_, by rw [del_ne hde, upd_ne hde, upd_same]⟩
 have q1 := s b u q
 rw [del_ne (ne_of_none q1 he), upd_ne (ne_of_none q1 he), upd_ne (ne_of_none q1 hd1), upd_ne (ne_of_none q1 he)]
 exact q1
section
variable (K : PySem.W.Frag)
noncomputable def sp_NoPiece_init (_K : PySem.W.Frag) (C : Addr) : Sp := fun vs H Q _ => ∃ (e : Addr) (n : Int), vs = [.ref e, .int n] ∧ H e = some (newE e C) ∧ n.natAbs.log2 < 1920 ∧ ∀ d, H d = none → Q .non (upd (upd H d (.xd [("place", .int n)])) e (madeE e C d))
end
end Hb
namespace Hb
open PySem L2
end Hb
namespace Hb
noncomputable def isP (n : Int) : Bool := (List.range (n - 2).toNat).all fun k => decide (¬ n % (2 + (k : Int)) = 0)
structure PrimeI (p : Int) : Prop where
 two : 2 ≤ p
 free : ∀ k : Int, 2 ≤ k → k < p → ¬ p % k = 0
theorem PrimeI.div {p a : Int} (h : PrimeI p) (ha : 0 < a) (hd : a ∣ p) : a = 1 ∨ a = p := by
 have h2 := h.two
 have hle : a ≤ p := Int.le_of_dvd (by omega) hd
 by_cases h1 : a = 1
 · exact .inl h1
 · by_cases hp : a = p
   · exact .inr hp
   · exact absurd (Int.emod_eq_zero_of_dvd hd) (h.free a (by omega) (by omega))
structure Eu (n p a x b u : Int) : Prop where
 ha : p ∣ a - x * n
 hb : p ∣ b - u * n
 dv : ∀ d : Int, d ∣ a → d ∣ b → d ∣ n ∧ d ∣ p
theorem Eu.start (n p : Int) : Eu n p n 1 p 0 := ⟨by simp, by simp, fun d h1 h2 => ⟨h1, h2⟩⟩
theorem Eu.step {n p a x b u : Int} (h : Eu n p a x b u) (q : Int) : Eu n p b u (a - q * b) (x - q * u) := by
 refine ⟨h.hb, ?_, fun d h1 h2 => ?_⟩
 · have e : a - q * b - (x - q * u) * n = (a - x * n) - q * (b - u * n) := by
     rw [Int.sub_mul, Int.mul_sub, Int.mul_assoc]
     omega
   rw [e]
   exact Int.dvd_sub h.ha (Int.dvd_mul_of_dvd_right h.hb)
 · have e : a = (a - q * b) + q * b := by omega
   refine h.dv d ?_ h1
   rw [e]
   exact Int.dvd_add h2 (Int.dvd_mul_of_dvd_right h1)
theorem Eu.last {n p a x u : Int} (h : Eu n p a x 0 u) (hp : PrimeI p) (hn : ¬ p ∣ n) (ha : 0 < a) : a = 1 := by
 obtain ⟨h1, h2⟩ := h.dv a (Int.dvd_refl a) (Int.dvd_zero a)
 rcases hp.div ha h2 with e | e
 · exact e
 · subst e
   exact absurd h1 hn
theorem over_mod {n p x : Int} (h2 : 2 ≤ p) (h : p ∣ 1 - x * n) : 0 ≤ x % p ∧ x % p < p ∧ p ∣ 1 - (x % p) * n := by
 refine ⟨Int.emod_nonneg _ (by omega), Int.emod_lt_of_pos _ (by omega), ?_⟩
 have e : 1 - (x % p) * n = (1 - x * n) + p * ((x / p) * n) := by
   have : x = p * (x / p) + x % p := (Int.mul_ediv_add_emod x p).symm
   have e2 : x * n = p * (x / p) * n + x % p * n := by
     rw [← Int.add_mul, ← this]
   rw [e2, Int.mul_assoc]
   omega
 rw [e]
 exact Int.dvd_add h (Int.dvd_mul_right _ _)
noncomputable def prs (m : Nat) : List Int := ((List.range m).map fun (i : Nat) => 2 + (i : Int)).filter isP
noncomputable def dvs (n : Int) (m : Nat) : List Int := ((List.range m).map fun (i : Nat) => 2 + (i : Int)).filter fun k => decide (n % k = 0)
end Hb
namespace L2
open PySem PySem.Spec PyProof.Rows
noncomputable def rInK : R2 := fun x y H Q => ∃ a kvs k, y = .ref a ∧ H a = some (.dK kvs) ∧ x = kV k ∧ Q (.bl (valV kvs k).isSome) H
theorem op_inK {X : Cx} (hu : X.A.units + 1 < cLine) : OpR X (compareOp .In) rInK := by
 intro pins s σ H x y v u Q I rx ry h
 obtain ⟨a, kvs, k, rfl, ha, rfl, q⟩ := h
 obtain rfl : u = Value.ref a := ry
 exact d_in hu I (.k ha) rx fun s3 I3 => ⟨.bl (valV kvs k).isSome, H, I3, rfl, q⟩
end L2
namespace Hb
open PySem L2
theorem shape_cnt {xs : List (List Int)} (h : IsShape xs) : CntOk xs := fun x hx => by
 obtain ⟨k, hk⟩ := List.getElem?_of_mem hx
 exact (h k x hk).cnt
theorem shape_snoc {xs : List (List Int)} {q : List Int} (h : IsShape xs) (hf : Fits xs q) : IsShape (xs ++ [q]) := fun k p hk => by
 by_cases hlt : k < xs.length
 · rw [List.getElem?_append_left hlt] at hk
   rw [List.take_append_of_le_length (by omega)]
   exact h k p hk
 · have hk' : k < (xs ++ [q]).length := (List.getElem?_eq_some_iff.mp hk).1
   have e : k = xs.length := by simp at hk'; omega
   subst e
   simp at hk
   subst hk
   rw [List.take_append_of_le_length (Nat.le_refl _), List.take_length]
   exact hf
theorem shape_init {xs : List (List Int)} {q : List Int} (h : IsShape (xs ++ [q])) : IsShape xs := fun k p hk => by
 have hlt : k < xs.length := (List.getElem?_eq_some_iff.mp hk).1
 have := h k p (by rw [List.getElem?_append_left hlt]; exact hk)
 rw [List.take_append_of_le_length (by omega)] at this
 exact this
theorem getD_of {xs : List (List Int)} {f : Int} (h0 : 0 ≤ f) (h1 : f < (xs.length : Int)) : xs[f.toNat]? = some (xs.getD f.toNat []) := by
 have : f.toNat < xs.length := by omega
 rw [List.getD_eq_getElem?_getD, List.getElem?_eq_getElem this]
 rfl
theorem fits_faces {xs : List (List Int)} {q : List Int} (h : fitsD xs (tI q) = true) : ∀ f ∈ q, 0 ≤ f ∧ f < (xs.length : Int) ∧ levI (xs.getD f.toNat []).length = levI q.length - 1 := by
 intro f hf
 have h' : fitsD xs (.tup (nums q)) = true := h
 rw [fitsD_tup] at h'
 simp only [Bool.and_eq_true] at h'
 have h2 := List.all_eq_true.mp h'.1.2 (.int f) (List.mem_map.mpr ⟨f, hf, rfl⟩)
 have h3 : (decide (0 ≤ f) && decide (f < (xs.length : Int)) && decide (levI (xs.getD f.toNat []).length = levI (nums q).length - 1)) = true := h2
 simp only [Bool.and_eq_true, decide_eq_true_eq] at h3
 have hl : (nums q).length = q.length := by unfold nums; rw [List.length_map]
 rw [hl] at h3
 exact ⟨h3.1.1, h3.1.2, h3.2⟩
theorem fits_cnt {xs : List (List Int)} {q : List Int} (h : fitsD xs (tI q) = true) : q.length = 0 ∨ q.length = 2 ∨ q.length = 3 ∨ q.length = 4 := by
 have h' : fitsD xs (.tup (nums q)) = true := h
 rw [fitsD_tup] at h'
 simp only [Bool.and_eq_true] at h'
 have h1 := h'.1.1
 have hl : (nums q).length = q.length := by unfold nums; rw [List.length_map]
 rw [hl] at h1
 unfold cntB at h1
 simp only [Bool.or_eq_true, beq_iff_eq] at h1
 omega
theorem map_toI (q : List Int) : (nums q).map toI = q := by
 unfold nums
 rw [List.map_map]
 exact (List.map_congr_left fun _ _ => rfl).trans (List.map_id q)
theorem fits_is {xs : List (List Int)} {q : List Int} (hc : CntOk xs) (h : fitsD xs (tI q) = true) : Fits xs q := by
 have hfs := fits_faces h
 have hcn := fits_cnt h
 have hlev : ∀ f ∈ q, (xs.getD f.toNat []).length - 1 + 1 = q.length - 1 := fun f hf => by
   obtain ⟨h0, h1, h2⟩ := hfs f hf
   have hq : 1 ≤ q.length := List.length_pos_of_mem hf
   rw [levI_eq, levI_eq] at h2
   omega
 refine ⟨hcn, fun f hf => (hfs f hf).1, fun f hf => ?_, fun h3 i j f g r s hij hj hi hr hs => ?_⟩
 · obtain ⟨h0, h1, _⟩ := hfs f hf
   exact ⟨_, getD_of h0 h1, hlev f hf⟩
 · have hf := List.mem_of_getElem? hj
   have hg := List.mem_of_getElem? hi
   obtain ⟨f0, f1, _⟩ := hfs f hf
   obtain ⟨g0, g1, _⟩ := hfs g hg
   have er : r = xs.getD f.toNat [] := by rw [getD_of f0 f1] at hr; exact (Option.some.inj hr).symm
   have es : s = xs.getD g.toNat [] := by rw [getD_of g0 g1] at hs; exact (Option.some.inj hs).symm
   have h' : fitsD xs (.tup (nums q)) = true := h
   rw [fitsD_tup] at h'
   simp only [Bool.and_eq_true, Bool.or_eq_true, decide_eq_true_eq, map_toI] at h'
   have hl : (nums q).length = q.length := by unfold nums; rw [List.length_map]
   have ha : agreeB xs q = true := by
     rcases h'.2 with z | z
     · rw [hl, levI_eq] at z; omega
     · exact z
   have hjl : j < q.length := (List.getElem?_eq_some_iff.mp hj).1
   have h4 := List.all_eq_true.mp (List.all_eq_true.mp ha j (List.mem_range.mpr hjl)) i (List.mem_range.mpr hij)
   unfold agreeAt at h4
   have hjd : q.getD j 0 = f := by rw [List.getD_eq_getElem?_getD, hj]; rfl
   have hid : q.getD i 0 = g := by rw [List.getD_eq_getElem?_getD, hi]; rfl
   rw [hjd, hid, ← er, ← es, decide_eq_true_eq] at h4
   have l1 := hlev f hf
   have l2 := hlev g hg
   rw [← er] at l1
   rw [← es] at l2
   have hr' : r.length = 0 ∨ r.length = 2 ∨ r.length = 3 ∨ r.length = 4 := by rw [er]; exact hc.at f0 f1
   have hs' : s.length = 0 ∨ s.length = 2 ∨ s.length = 3 ∨ s.length = 4 := by rw [es]; exact hc.at g0 g1
   have i1 : i < r.length := by omega
   have j1 : j - 1 < s.length := by omega
   rw [List.getElem?_eq_getElem i1, List.getElem?_eq_getElem j1]
   rw [List.getD_eq_getElem?_getD, List.getD_eq_getElem?_getD, List.getElem?_eq_getElem i1, List.getElem?_eq_getElem j1] at h4
   exact congrArg some h4
noncomputable def fitsE (xs : List (List Int)) : DE → Bool
 | .d d => fitsD xs d
 | .nul => false
theorem fitsE_tup {xs : List (List Int)} {e : DE} (h : fitsE xs e = true) : ∃ q, e = .d (tI q) ∧ fitsD xs (tI q) = true := by
 cases e with
 | nul => cases h
 | d d =>
   have h' : fitsD xs d = true := h
   have e := fits_tup h'
   exact ⟨toTI d, by rw [← e], by rw [← e]; exact h'⟩
structure Grown (p : Int) (xs : List (List Int)) (es ss : List Ms) (bs : Ms) : Prop where
 shp : IsShape xs
 le : es.length = xs.length
 ls : ss.length = xs.length
 n40 : xs.length ≤ 40
 eok : ∀ (i : Nat) m, es[i]? = some m → OkM p m ∧ ∀ x ∈ keysI m, 0 ≤ x ∧ x < (i : Int) ∧ ((xs.getD x.toNat []).length - 1) + 1 = (xs.getD i []).length - 1
 sok : ∀ (i : Nat) m, ss[i]? = some m → OkM p m ∧ ∀ x ∈ keysI m, 0 ≤ x ∧ x ≤ (i : Int)
 bnd : nd bs
 bls : ∀ b e, lookI bs b = some e ↔ ∃ (i : Nat) (m : Ms), e = (i : Int) ∧ es[i]? = some m ∧ Top m b
theorem Grown.nil (p : Int) : Grown p [] [] [] [] := ⟨fun k q h => by simp at h, rfl, rfl, by decide, fun i m h => by simp at h, fun i m h => by simp at h, List.nodup_nil, fun b e => ⟨fun h => by simp [lookI] at h, fun ⟨i, m, _, h, _⟩ => by simp at h⟩⟩
theorem Top.no {b : Int} (h : Top [] b) : False := by have := h.mem; simp [keysI] at this
theorem getD_left {xs : List (List Int)} {q : List Int} {i : Nat} (h : i < xs.length) : (xs ++ [q]).getD i [] = xs.getD i [] := by
 rw [List.getD_eq_getElem?_getD, List.getD_eq_getElem?_getD, List.getElem?_append_left h]
theorem getD_new {xs : List (List Int)} {q : List Int} : (xs ++ [q]).getD xs.length [] = q := by
 rw [List.getD_eq_getElem?_getD, List.getElem?_append_right (Nat.le_refl _)]
 simp
theorem at_snoc {α : Type} {l : List α} {x y : α} {i : Nat} (h : (l ++ [x])[i]? = some y) : (i < l.length ∧ l[i]? = some y) ∨ (i = l.length ∧ y = x) := by
 by_cases hlt : i < l.length
 · rw [List.getElem?_append_left hlt] at h
   exact .inl ⟨hlt, h⟩
 · have hk' : i < (l ++ [x]).length := (List.getElem?_eq_some_iff.mp h).1
   have e : i = l.length := by simp at hk'; omega
   subst e
   simp at h
   exact .inr ⟨rfl, h.symm⟩
structure Fresh (p : Int) (xs : List (List Int)) (bs : Ms) (q : List Int) (ms me : Ms) : Prop where
 h1 : OkM p ms
 k1 : ∀ x ∈ keysI ms, 0 ≤ x ∧ x ≤ (xs.length : Int)
 h2 : OkM p me
 k2 : ∀ x ∈ keysI me, 0 ≤ x ∧ x < (xs.length : Int) ∧ (xs.getD x.toNat []).length - 1 + 1 = q.length - 1
 h3 : ∀ b, Top me b → lookI bs b = none
theorem Grown.grow {p : Int} {xs : List (List Int)} {es ss : List Ms} {bs : Ms} {q : List Int} {ms me bs' : Ms} (h : Grown p xs es ss bs) (hf : Fits xs q) (hn : xs.length < 40) (f : Fresh p xs bs q ms me)
   (hb : (me = [] ∧ bs' = bs) ∨ ∃ b, Top me b ∧ bs' = putI bs b (xs.length : Int)) : Grown p (xs ++ [q]) (es ++ [me]) (ss ++ [ms]) bs' := by
 refine ⟨shape_snoc h.shp hf, by simp [h.le], by simp [h.ls], by simp; omega, fun i m hi => ?_, fun i m hi => ?_, ?_, fun b e => ?_⟩
 · rcases at_snoc hi with ⟨hl, hi⟩ | ⟨rfl, rfl⟩
   · rw [h.le] at hl
     obtain ⟨a1, a2⟩ := h.eok i m hi
     refine ⟨a1, fun x hx => ?_⟩
     obtain ⟨b1, b2, b3⟩ := a2 x hx
     refine ⟨b1, b2, ?_⟩
     rw [getD_left (by omega), getD_left hl]
     exact b3
   · refine ⟨f.h2, fun x hx => ?_⟩
     obtain ⟨b1, b2, b3⟩ := f.k2 x hx
     rw [h.le]
     refine ⟨b1, b2, ?_⟩
     rw [getD_left (by omega), getD_new]
     exact b3
 · rcases at_snoc hi with ⟨hl, hi⟩ | ⟨rfl, rfl⟩
   · exact h.sok i m hi
   · rw [h.ls]
     exact ⟨f.h1, f.k1⟩
 · rcases hb with ⟨_, rfl⟩ | ⟨b, _, rfl⟩
   · exact h.bnd
   · exact nd_put h.bnd _ _
 · rcases hb with ⟨rfl, rfl⟩ | ⟨b0, hb0, rfl⟩
   · rw [h.bls]
     constructor
     · rintro ⟨i, m, e1, e2, e3⟩
       exact ⟨i, m, e1, by rw [List.getElem?_append_left (List.getElem?_eq_some_iff.mp e2).1]; exact e2, e3⟩
     · rintro ⟨i, m, e1, e2, e3⟩
       rcases at_snoc e2 with ⟨_, e2⟩ | ⟨_, rfl⟩
       · exact ⟨i, m, e1, e2, e3⟩
       · exact (Top.no e3).elim
   · rw [lookI_put]
     by_cases hbb : b = b0
     · subst hbb
       rw [if_pos rfl]
       constructor
       · intro z
         cases z
         exact ⟨es.length, me, by rw [h.le], by simp, hb0⟩
       · rintro ⟨i, m, e1, e2, e3⟩
         rcases at_snoc e2 with ⟨_, e2⟩ | ⟨e4, rfl⟩
         · have := (h.bls b (i : Int)).mpr ⟨i, m, rfl, e2, e3⟩
           rw [f.h3 b hb0] at this
           cases this
         · rw [e1, e4, h.le]
     · rw [if_neg hbb, h.bls]
       constructor
       · rintro ⟨i, m, e1, e2, e3⟩
         exact ⟨i, m, e1, by rw [List.getElem?_append_left (List.getElem?_eq_some_iff.mp e2).1]; exact e2, e3⟩
       · rintro ⟨i, m, e1, e2, e3⟩
         rcases at_snoc e2 with ⟨_, e2⟩ | ⟨_, rfl⟩
         · exact ⟨i, m, e1, e2, e3⟩
         · exact absurd (Top.one e3 hb0) hbb
theorem snoc_of {α : Type} {l : List α} {n : Nat} (h : l.length = n + 1) : ∃ l0 x, l = l0 ++ [x] ∧ l0.length = n := by
 rcases List.eq_nil_or_concat l with rfl | ⟨l0, x, e⟩
 · simp at h
 · rw [List.concat_eq_append] at e
   subst e
   exact ⟨l0, x, rfl, by simpa using h⟩
theorem Grown.back {p : Int} {xs : List (List Int)} {q : List Int} {es ss : List Ms} {me ms bs bs' : Ms} (h : Grown p (xs ++ [q]) (es ++ [me]) (ss ++ [ms]) bs) (hb : (me = [] ∧ bs' = bs) ∨ ∃ b, Top me b ∧ bs' = dropI bs b) : Grown p xs es ss bs' := by
 have le := h.le
 have ls := h.ls
 have n40 := h.n40
 simp at le ls n40
 have low : ∀ {i : Nat} {m : Ms}, es[i]? = some m → (es ++ [me])[i]? = some m := fun {i m} e => by rw [List.getElem?_append_left (List.getElem?_eq_some_iff.mp e).1]; exact e
 have lows : ∀ {i : Nat} {m : Ms}, ss[i]? = some m → (ss ++ [ms])[i]? = some m := fun {i m} e => by rw [List.getElem?_append_left (List.getElem?_eq_some_iff.mp e).1]; exact e
 refine ⟨shape_init h.shp, le, ls, by omega, fun i m hi => ?_, fun i m hi => h.sok i m (lows hi), ?_, fun b e => ?_⟩
 · have hl : i < xs.length := by rw [← le]; exact (List.getElem?_eq_some_iff.mp hi).1
   obtain ⟨a1, a2⟩ := h.eok i m (low hi)
   refine ⟨a1, fun x hx => ?_⟩
   obtain ⟨b1, b2, b3⟩ := a2 x hx
   rw [getD_left (by omega), getD_left hl] at b3
   exact ⟨b1, b2, b3⟩
 · rcases hb with ⟨_, rfl⟩ | ⟨b, _, rfl⟩
   · exact h.bnd
   · exact nd_drop h.bnd _
 · rcases hb with ⟨rfl, rfl⟩ | ⟨b0, hb0, rfl⟩
   · rw [h.bls]
     constructor
     · rintro ⟨i, m, e1, e2, e3⟩
       rcases at_snoc e2 with ⟨_, e2⟩ | ⟨_, rfl⟩
       · exact ⟨i, m, e1, e2, e3⟩
       · exact (Top.no e3).elim
     · rintro ⟨i, m, e1, e2, e3⟩
       exact ⟨i, m, e1, low e2, e3⟩
   · have hlast : lookI bs b0 = some (es.length : Int) := (h.bls b0 _).mpr ⟨es.length, me, rfl, by simp, hb0⟩
     rw [lookI_drop]
     by_cases hbb : b = b0
     · subst hbb
       rw [if_pos rfl]
       constructor
       · intro z; cases z
       · rintro ⟨i, m, e1, e2, e3⟩
         have := (h.bls b (i : Int)).mpr ⟨i, m, rfl, low e2, e3⟩
         rw [hlast] at this
         have hl := (List.getElem?_eq_some_iff.mp e2).1
         have : (es.length : Int) = (i : Int) := Option.some.inj this
         omega
     · rw [if_neg hbb, h.bls]
       constructor
       · rintro ⟨i, m, e1, e2, e3⟩
         rcases at_snoc e2 with ⟨_, e2⟩ | ⟨_, rfl⟩
         · exact ⟨i, m, e1, e2, e3⟩
         · exact absurd (Top.one e3 hb0) hbb
       · rintro ⟨i, m, e1, e2, e3⟩
         exact ⟨i, m, e1, low e2, e3⟩
theorem keys_len {ms : Ms} (h : nd ms) (hk : ∀ x ∈ keysI ms, 0 ≤ x ∧ x ≤ 40) : ms.length ≤ 41 := by
 have := len_le (keysI ms) ((List.range 41).map fun (i : Nat) => (i : Int)) h fun x hx => by
   obtain ⟨h1, h2⟩ := hk x hx
   exact List.mem_map.mpr ⟨x.toNat, List.mem_range.mpr (by omega), by omega⟩
 unfold keysI at this
 simpa using this
theorem Grown.blen {p : Int} {xs : List (List Int)} {es ss : List Ms} {bs : Ms} (h : Grown p xs es ss bs) : bs.length ≤ 41 := by
 refine keys_len h.bnd fun x hx => ?_
 obtain ⟨r, hr, rfl⟩ := List.mem_map.mp hx
 obtain ⟨i, m, _, e2, e3⟩ := (h.bls r.1 r.2).mp (lookI_in h.bnd hr)
 have hl : i < xs.length := by rw [← h.le]; exact (List.getElem?_eq_some_iff.mp e2).1
 have := (h.eok i m e2).2 _ e3.mem
 have := h.n40
 omega
theorem comb_keys {p n : Int} {es fs : Ms} (hp : 0 < p) (he : OkM p es) (hf : OkM p fs) : OkM p (modI p (plusI es (timesI n fs))) ∧ ∀ x ∈ keysI (modI p (plusI es (timesI n fs))), x ∈ keysI es ∨ x ∈ keysI fs := by
 have ndt : nd (timesI n fs) := by
   unfold timesI
   split
   · exact List.nodup_nil
   · exact ndup_times hf.nd _
 obtain ⟨n1, n2, n3, n4⟩ := plus_ok (timesI n fs) es he.nd he.nz ndt
 have ok := mod_ok n1 hp
 refine ⟨ok, fun x hx => ?_⟩
 have hx0 := (get_key ok.nz).mpr hx
 rw [mod_get n1, n4, get_times] at hx0
 by_cases h1 : x ∈ keysI es
 · exact .inl h1
 by_cases h2 : x ∈ keysI fs
 · exact .inr h2
 · rw [getI_out h1, getI_out h2] at hx0
   simp at hx0
theorem key_add {ms : Ms} {k n x : Int} (h : x ∈ keysI (addI ms k n)) : x ∈ keysI ms ∨ x = k := by
 unfold addI at h
 split at h
 · obtain ⟨r, hr, rfl⟩ := List.mem_map.mp h
   exact .inl (List.mem_map.mpr ⟨r, (List.mem_filter.mp hr).1, rfl⟩)
 · obtain ⟨r, hr, rfl⟩ := List.mem_map.mp h
   rcases mem_put hr with z | z
   · exact .inl (List.mem_map.mpr ⟨r, z, rfl⟩)
   · rw [z]; exact .inr rfl
theorem key_addFN {fs : List Int} {n x : Int} : ∀ {i : Nat}, i ≤ fs.length → x ∈ keysI (addFN [] fs n i) → x ∈ fs
 | 0, _, h => by simp [addFN, keysI] at h
 | i + 1, hi, h => by
   rcases key_add (show x ∈ keysI (addI (addFN [] fs n i) (fs.getD i 0) (sgn n i)) from h) with z | z
   · exact key_addFN (by omega) z
   · rw [z, List.getD_eq_getElem?_getD, List.getElem?_eq_getElem (by omega)]
     exact List.getElem_mem _
theorem Top.look {p : Int} {ms : Ms} {b : Int} (h : OkM p ms) (t : Top ms b) : lookI ms b = some (getI ms b) ∧ 0 < getI ms b ∧ getI ms b < p := by
 obtain ⟨r, hr, rfl⟩ := List.mem_map.mp t.mem
 have e := lookI_in h.nd hr
 have e2 : getI ms r.1 = r.2 := by unfold getI; rw [e]; rfl
 rw [e2]
 exact ⟨e, h.bd r hr⟩
theorem ndvd {p v : Int} (h0 : 0 < v) (h1 : v < p) : ¬ p ∣ v := fun z => by have := Int.le_of_dvd h0 z; omega
structure ChainsAt (H : Hp) (l en : Addr) (ms : List Ms) : Prop where
 ex : ∃ ds : List Addr, H l = some (.lst (ds.map V.ref)) ∧ ds.length = ms.length ∧ ∀ (i : Nat) d m, ds[i]? = some d → ms[i]? = some m → H d = some (.dK (cK m)) ∧ d ≠ en
structure GrowAt (K : PySem.W.Frag) (CG : Addr) (H : Hp) (g pc sh ed en : Addr) (p : Int) (xs : List (List Int)) (es ss : List Ms) (bs : Ms) : Prop where
 ob : ∃ dx fs, H g = some (.ins CG dx fs) ∧ fs.lookup ("prime" : Str) = some (.int p) ∧ fs.lookup ("pieces" : Str) = some (.ref pc) ∧ fs.lookup ("sheets" : Str) = some (.ref sh) ∧ fs.lookup ("edges" : Str) = some (.ref ed) ∧ fs.lookup ("enders" : Str) = some (.ref en) ∧
   (fs.lookup ("grow" : Str) = none ∧ fs.lookup ("settled" : Str) = none ∧ fs.lookup ("take_back" : Str) = none ∧ fs.lookup ("shape" : Str) = none ∧ fs.lookup ("paper" : Str) = none ∧ fs.lookup ("pairs" : Str) = none ∧ fs.lookup ("alive" : Str) = none)
 pcs : ∃ us, H pc = some (.lst us) ∧ Reps K H us (xs.map tI)
 eds : ChainsAt H ed en es
 shs : ChainsAt H sh en ss
 ens : H en = some (.dK (cK bs))
 ne : pc ≠ sh ∧ pc ≠ ed ∧ sh ≠ ed
 gw : Grown p xs es ss bs
 pr : PrimeI p ∧ p < 98
noncomputable def W4 (pc sh ed en : Addr) : Addr → Prop := fun a => a = pc ∨ a = sh ∨ a = ed ∨ a = en
noncomputable def FrG (pc sh ed en : Addr) (H H' : Hp) : Prop := ∀ c o, ¬ W4 pc sh ed en c → H c = some o → H' c = some o
theorem FrG.of {pc sh ed en : Addr} {H H' : Hp} (s : Same H H') : FrG pc sh ed en H H' := fun c o _ e => s c o e
theorem FrG.trans {pc sh ed en : Addr} {H H1 H2 : Hp} (a : FrG pc sh ed en H H1) (b : FrG pc sh ed en H1 H2) : FrG pc sh ed en H H2 := fun c o n e => b c o n (a c o n e)
theorem FrG.up {pc sh ed en c : Addr} {H : Hp} {o : HO} (h : W4 pc sh ed en c) : FrG pc sh ed en H (upd H c o) := fun d u n e => by
 have hn : d ≠ c := fun z => by subst z; exact n h
 rw [upd_ne hn]
 exact e
noncomputable def Mut (H : Hp) (c : Addr) : Prop := (∃ us, H c = some (.lst us)) ∨ ∃ kvs, H c = some (.dK kvs)
theorem Mut.there {H : Hp} {c : Addr} (h : Mut H c) : H c ≠ none := by
 rcases h with ⟨_, h⟩ | ⟨_, h⟩ <;> (rw [h]; intro z; cases z)
theorem Mut.same {H H' : Hp} {c : Addr} (s : Same H H') (h : Mut H c) : Mut H' c := by
 rcases h with ⟨_, h⟩ | ⟨_, h⟩
 · exact .inl ⟨_, s _ _ h⟩
 · exact .inr ⟨_, s _ _ h⟩
section
variable {K : PySem.W.Frag} {CG : Addr} {H H' : Hp} {g pc sh ed en : Addr} {p : Int} {xs : List (List Int)} {es ss : List Ms} {bs : Ms}
theorem ChainsAt.get {l : Addr} {ms : List Ms} (x : ChainsAt H l en ms) {i : Nat} {m : Ms} (h : ms[i]? = some m) : ∃ (ds : List Addr) (d : Addr), H l = some (.lst (ds.map V.ref)) ∧ ds[i]? = some d ∧ H d = some (.dK (cK m)) ∧ d ≠ en := by
 obtain ⟨ds, h1, h2, h3⟩ := x.ex
 have hi : i < ds.length := by rw [h2]; exact (List.getElem?_eq_some_iff.mp h).1
 obtain ⟨h4, h5⟩ := h3 i ds[i] m (List.getElem?_eq_getElem hi) h
 exact ⟨ds, ds[i], h1, List.getElem?_eq_getElem hi, h4, h5⟩
theorem ChainsAt.same {l : Addr} {ms : List Ms} (x : ChainsAt H l en ms) (s : Same H H') : ChainsAt H' l en ms := by
 obtain ⟨ds, h1, h2, h3⟩ := x.ex
 exact ⟨ds, s _ _ h1, h2, fun i d m e1 e2 => ⟨s _ _ (h3 i d m e1 e2).1, (h3 i d m e1 e2).2⟩⟩
theorem GrowAt.same (x : GrowAt K CG H g pc sh ed en p xs es ss bs) (s : Same H H') : GrowAt K CG H' g pc sh ed en p xs es ss bs := by
 obtain ⟨dx, fs, h1, h2⟩ := x.ob
 obtain ⟨us, h3, h4⟩ := x.pcs
 exact ⟨⟨dx, fs, s _ _ h1, h2⟩, ⟨us, s _ _ h3, Reps.same s h4⟩, x.eds.same s, x.shs.same s, s _ _ x.ens, x.ne, x.gw, x.pr⟩
theorem GrowAt.mut (x : GrowAt K CG H g pc sh ed en p xs es ss bs) : ∀ c, W4 pc sh ed en c → Mut H c := by
 rintro c (rfl | rfl | rfl | rfl)
 · obtain ⟨us, h, _⟩ := x.pcs
   exact .inl ⟨_, h⟩
 · obtain ⟨ds, h, _⟩ := x.shs.ex
   exact .inl ⟨_, h⟩
 · obtain ⟨ds, h, _⟩ := x.eds.ex
   exact .inl ⟨_, h⟩
 · exact .inr ⟨_, x.ens⟩
theorem FrG.t (x : GrowAt K CG H g pc sh ed en p xs es ss bs) (fr : FrG pc sh ed en H H') : TSame H H' := by
 refine ⟨fun b us e => fr b _ (fun w => ?_) e, fun b o u e => fr b _ (fun w => ?_) e⟩
 · rcases x.mut b w with ⟨_, z⟩ | ⟨_, z⟩ <;> (rw [z] at e; cases e)
 · rcases x.mut b w with ⟨_, z⟩ | ⟨_, z⟩ <;> (rw [z] at e; cases e)
theorem GrowAt.other (x : GrowAt K CG H g pc sh ed en p xs es ss bs) {hd : Addr} {us : List V} {o : HO} (h : H hd = some (.lst us)) (n1 : hd ≠ pc) (n2 : hd ≠ sh) (n3 : hd ≠ ed) : GrowAt K CG (upd H hd o) g pc sh ed en p xs es ss bs := by
 obtain ⟨dx, fs, h1, h2⟩ := x.ob
 obtain ⟨vs, h3, h4⟩ := x.pcs
 obtain ⟨ds, a1, a2, a3⟩ := x.eds.ex
 obtain ⟨cs, b1, b2, b3⟩ := x.shs.ex
 have nl : ∀ {c : Addr} {o' : HO}, H c = some o' → (∀ us, o' ≠ .lst us) → c ≠ hd := fun {c o'} e n z => by rw [z, h] at e; cases e; exact n _ rfl
 refine ⟨⟨dx, fs, by rw [upd_ne (nl h1 (fun _ z => by cases z))]; exact h1, h2⟩, ⟨vs, by rw [upd_ne n1.symm]; exact h3, Reps.t (TSame.lst h) (imms_tIs _) h4⟩, ⟨ds, by rw [upd_ne n3.symm]; exact a1, a2, fun i d m e1 e2 => ?_⟩, ⟨cs, by rw [upd_ne n2.symm]; exact b1, b2, fun i d m e1 e2 => ?_⟩, by rw [upd_ne (nl x.ens (fun _ z => by cases z))]; exact x.ens, x.ne, x.gw, x.pr⟩
 · obtain ⟨c1, c2⟩ := a3 i d m e1 e2
   exact ⟨by rw [upd_ne (nl c1 (fun _ z => by cases z))]; exact c1, c2⟩
 · obtain ⟨c1, c2⟩ := b3 i d m e1 e2
   exact ⟨by rw [upd_ne (nl c1 (fun _ z => by cases z))]; exact c1, c2⟩
theorem GrowAt.put (x : GrowAt K CG H g pc sh ed en p xs es ss bs) {us : List V} {ds cs : List Addr} {xs' : List (List Int)} {es' ss' : List Ms} {bs' : Ms} (hr : Reps K H us (xs'.map tI))
   (l1 : ds.length = es'.length) (h1 : ∀ (i : Nat) d m, ds[i]? = some d → es'[i]? = some m → H d = some (.dK (cK m)) ∧ d ≠ en) (l2 : cs.length = ss'.length) (h2 : ∀ (i : Nat) d m, cs[i]? = some d → ss'[i]? = some m → H d = some (.dK (cK m)) ∧ d ≠ en) (gw : Grown p xs' es' ss' bs') :
   GrowAt K CG (upd (upd (upd (upd H pc (.lst us)) sh (.lst (cs.map V.ref))) ed (.lst (ds.map V.ref))) en (.dK (cK bs'))) g pc sh ed en p xs' es' ss' bs' := by
 obtain ⟨dx, fs, a1, a2⟩ := x.ob
 obtain ⟨n1, n2, n3⟩ := x.ne
 have mu := x.mut
 have ins : ∀ {c : Addr} {o : HO}, H c = some o → (∀ us, o ≠ .lst us) → c ≠ en → upd (upd (upd (upd H pc (.lst us)) sh (.lst (cs.map V.ref))) ed (.lst (ds.map V.ref))) en (.dK (cK bs')) c = some o := fun {c o} e n m => by
   obtain ⟨_, q1, _⟩ := x.pcs
   obtain ⟨_, q2, _⟩ := x.shs.ex
   obtain ⟨_, q3, _⟩ := x.eds.ex
   rw [upd_ne m, upd_ne (fun z => by rw [z, q3] at e; cases e; exact n _ rfl), upd_ne (fun z => by rw [z, q2] at e; cases e; exact n _ rfl), upd_ne (fun z => by rw [z, q1] at e; cases e; exact n _ rfl)]
   exact e
 have nen : ∀ {c : Addr} {us : List V}, H c = some (.lst us) → c ≠ en := fun {c us} e z => by rw [z, x.ens] at e; cases e
 obtain ⟨_, q1, _⟩ := x.pcs
 obtain ⟨_, q2, _⟩ := x.shs.ex
 obtain ⟨_, q3, _⟩ := x.eds.ex
 have ts : TSame H (upd (upd (upd (upd H pc (.lst us)) sh (.lst (cs.map V.ref))) ed (.lst (ds.map V.ref))) en (.dK (cK bs'))) :=
   ⟨fun b us e => ins e (fun _ z => by cases z) (fun z => by rw [z, x.ens] at e; cases e), fun b o u e => ins e (fun _ z => by cases z) (fun z => by rw [z, x.ens] at e; cases e)⟩
 refine ⟨⟨dx, fs, ins a1 (fun _ z => by cases z) (fun z => by rw [z, x.ens] at a1; cases a1), a2⟩, ⟨us, ?_, Reps.t ts (imms_tIs _) hr⟩, ⟨ds, ?_, l1, fun i d m e1 e2 => ?_⟩, ⟨cs, ?_, l2, fun i d m e1 e2 => ?_⟩, upd_same, x.ne, gw, x.pr⟩
 · rw [upd_ne (nen q1), upd_ne n2, upd_ne n1, upd_same]
 · rw [upd_ne (nen q3), upd_same]
 · obtain ⟨c1, c2⟩ := h1 i d m e1 e2
   exact ⟨ins c1 (fun _ z => by cases z) c2, c2⟩
 · rw [upd_ne (nen q2), upd_ne n3, upd_same]
 · obtain ⟨c1, c2⟩ := h2 i d m e1 e2
   exact ⟨ins c1 (fun _ z => by cases z) c2, c2⟩
end
noncomputable def hidG (H : Hp) (Z : Addr → Prop) : Hp := fun a => @ite _ (Z a) (Classical.propDecidable _) none (H a)
section
variable {H H' H0 : Hp} {Z W : Addr → Prop}
theorem hidG_no {a : Addr} (h : ¬ Z a) : hidG H Z a = H a := by unfold hidG; rw [if_neg h]
theorem hidG_yes {a : Addr} (h : Z a) : hidG H Z a = none := by unfold hidG; rw [if_pos h]
theorem hidG_same : Same (hidG H Z) H := fun a o e => by
 by_cases h : Z a
 · rw [hidG_yes h] at e; cases e
 · rw [hidG_no h] at e; exact e
theorem hidG_mono (h : ∀ a o, ¬ Z a → H a = some o → H' a = some o) : Same (hidG H Z) (hidG H' Z) := fun a o e => by
 by_cases hz : Z a
 · rw [hidG_yes hz] at e; cases e
 · rw [hidG_no hz] at e ⊢; exact h a o hz e
theorem same_hidG (s : Same H H') : Same (hidG H Z) (hidG H' Z) := hidG_mono fun a o _ e => s a o e
theorem hidG_new {a : Addr} {o : HO} (h : ∀ c, Z c → H0 c ≠ none) (h0 : H0 a = none) (e : H a = some o) : hidG H Z a = some o := by rw [hidG_no (fun w => h a w h0)]; exact e
theorem FrG.hid {pc sh ed en : Addr} (fr : FrG pc sh ed en H H') (hs : ∀ c, W4 pc sh ed en c → Z c) : Same (hidG H Z) (hidG H' Z) := hidG_mono fun a o n e => fr a o (fun w => n (hs a w)) e
end
noncomputable def LH (K : PySem.W.Frag) (H : Hp) (W : Addr → Prop) (p : Addr) (xs : List (List Int)) : Prop := ∃ us, hidG H W p = some (.lst us) ∧ Reps K H us (xs.map tI)
section
variable {K : PySem.W.Frag} {CG : Addr} {H H' : Hp} {g pc sh ed en : Addr} {p : Int} {xs : List (List Int)} {es ss : List Ms} {bs : Ms} {W : Addr → Prop}
theorem LH.lt {a : Addr} (h : LH K H W a xs) : LT K H (.ref a) xs := by
 obtain ⟨us, h1, h2⟩ := h
 exact ⟨a, us, rfl, .of (hidG_same _ _ h1), h2⟩
theorem LH.same {a : Addr} (s : Same H H') (h : LH K H W a xs) : LH K H' W a xs := by
 obtain ⟨us, h1, h2⟩ := h
 exact ⟨us, same_hidG s _ _ h1, Reps.same s h2⟩
theorem LH.new {H0 : Hp} {a : Addr} {us : List V} (h0 : ∀ c, W c → Mut H0 c) (h1 : H0 a = none) (h2 : H a = some (.lst us)) (h3 : Reps K H us (xs.map tI)) : LH K H W a xs := ⟨us, hidG_new (fun c w => (h0 c w).there) h1 h2, h3⟩
theorem LH.fr {a : Addr} (x : GrowAt K CG H g pc sh ed en p xs es ss bs) {ys : List (List Int)} (fr : FrG pc sh ed en H H') (hs : ∀ c, W4 pc sh ed en c → W c) (h : LH K H W a ys) : LH K H' W a ys := by
 obtain ⟨us, h1, h2⟩ := h
 exact ⟨us, fr.hid hs _ _ h1, Reps.t (fr.t x) (imms_tIs _) h2⟩
theorem GrowAt.mutW {xs' : List (List Int)} {es' ss' : List Ms} {bs' : Ms} (x : GrowAt K CG H' g pc sh ed en p xs' es' ss' bs') (fr : FrG pc sh ed en H H') (hm : ∀ c, W c → Mut H c) : ∀ c, W c → Mut H' c := fun c w => by
 by_cases h : W4 pc sh ed en c
 · exact x.mut c h
 · rcases hm c w with ⟨_, e⟩ | ⟨_, e⟩
   · exact .inl ⟨_, fr _ _ h e⟩
   · exact .inr ⟨_, fr _ _ h e⟩
end
noncomputable def Ans (xs : List (List Int)) (q : List Int) (r : V) : Prop := r = .non ∨ ∃ b : Int, r = .int b ∧ 0 ≤ b ∧ b < (xs.length : Int) ∧ (xs.getD b.toNat []).length - 1 + 1 = q.length - 1
noncomputable def meetsB (xs : List (List Int)) (fs : List Int) (f : Int) : Bool := decide ((xs.getD f.toNat []).length = 0) || (List.range fs.length).all fun i => decide ((xs.getD f.toNat []).getD i 0 = (xs.getD (fs.getD i 0).toNat []).getD (fs.length - 1) 0)
section
variable (K : PySem.W.Frag) (CG : Addr)
noncomputable def sp_counted (_K : PySem.W.Frag) : Sp := fun vs H Q _ => ∃ (a : Addr) (ms : Ms) (p : Int), vs = [.ref a, .int p] ∧ H a = some (.dK (cK ms)) ∧ ms.length ≤ 1000 ∧ nd ms ∧ 0 < p ∧ newC H (modI p ms) Q
noncomputable def sp_gPrime (_K : PySem.W.Frag) : Sp := fun vs H Q _ => ∃ (p : Int), vs = [.int p] ∧ PrimeI p ∧ p < 98 ∧ ∀ H', Same H H' → Q (.bl true) H'
noncomputable def sp_gDiv : Sp := fun vs H Q _ => ∃ n p : Int, vs = [.int n, .int p] ∧ PrimeI p ∧ p < 98 ∧ ¬ p ∣ n ∧ ∀ (L : Addr) (x y : Int) (H' : Hp), Same H H' → SqT K H' L [.int 1, .int x, .int y] → p ∣ 1 - x * n → Q (.ref L) H'
noncomputable def sp_gOver (_K : PySem.W.Frag) : Sp := fun vs H Q _ => ∃ n p : Int, vs = [.int n, .int p] ∧ PrimeI p ∧ p < 98 ∧ ¬ p ∣ n ∧ ∀ (f : Int) (H' : Hp), Same H H' → 0 ≤ f → f < p → p ∣ 1 - f * n → Q (.int f) H'
noncomputable def sp_gFits : Sp := fun vs H Q _ => ∃ (a : Addr) (th : V) (e : DE) (xs : List (List Int)), vs = [.ref a, th] ∧ LT K H (.ref a) xs ∧ RepE K H th e ∧ ∀ H', Same H H' → Q (.bl (fitsE xs e)) H'
noncomputable def sp_gLFits : Sp := fun vs H Q _ => ∃ (a : Addr) (th : V) (e : DE) (xs : List (List Int)), vs = [.ref a, th] ∧ LT K H (.ref a) xs ∧ CntOk xs ∧ xs.length ≤ 1000 ∧ RepE K H th e ∧ ∀ H', Same H H' → Q (.bl (fitsE xs e)) H'
noncomputable def sp_gMeets : Sp := fun vs H Q _ => ∃ (a : Addr) (v : V) (xs : List (List Int)) (fs : List Int) (f : Int), vs = [.ref a, v, .int f] ∧ LT K H (.ref a) xs ∧ TI K H v fs ∧ 0 ≤ f ∧ f < (xs.length : Int) ∧ (∀ g ∈ fs, 0 ≤ g ∧ g < (xs.length : Int)) ∧ fs.length ≤ 4 ∧
 ((xs.getD f.toNat []).length = 0 ∨ (fs.length ≤ (xs.getD f.toNat []).length ∧ ∀ g ∈ fs, fs.length ≤ (xs.getD g.toNat []).length)) ∧ Q (.bl (meetsB xs fs f)) H
noncomputable def spG_init : Sp := fun vs H Q _ => ∃ (g dx : Addr) (p : Int), vs = [.ref g, .int p] ∧ H g = some (.ins CG dx []) ∧ PrimeI p ∧ p < 98 ∧
 ∀ (pc sh ed en : Addr) (H' : Hp), H pc = none → H sh = none → H ed = none → H en = none → SameX g H H' → GrowAt K CG H' g pc sh ed en p [] [] [] [] → Q .non H'
noncomputable def spG_shape : Sp := fun vs H Q _ => ∃ (g pc sh ed en : Addr) (p : Int) (xs : List (List Int)) (es ss : List Ms) (bs : Ms), vs = [.ref g] ∧ GrowAt K CG H g pc sh ed en p xs es ss bs ∧
 ∀ (l : Addr) (us : List V) (H' : Hp), H l = none → Same H H' → H' l = some (.lst us) → Reps K H' us (xs.map tI) → Q (.ref l) H'
noncomputable def spG_settled : Sp := fun vs H Q _ => ∃ (g pc sh ed en s e : Addr) (p : Int) (xs : List (List Int)) (es ss : List Ms) (bs ms me : Ms) (l : Nat), vs = [.ref g, .ref s, .ref e] ∧ GrowAt K CG H g pc sh ed en p xs es ss bs ∧ H s = some (.dK (cK ms)) ∧ H e = some (.dK (cK me)) ∧ s ≠ en ∧ e ≠ en ∧ OkM p ms ∧ OkM p me ∧
 (∀ x ∈ keysI ms, 0 ≤ x ∧ x ≤ (xs.length : Int)) ∧ (∀ x ∈ keysI me, 0 ≤ x ∧ x < (xs.length : Int) ∧ (xs.getD x.toNat []).length - 1 + 1 = l) ∧
 ∀ (t s' e' : Addr) (ms' me' : Ms) (H' : Hp), Same H H' → H' t = some (.tup [.ref s', .ref e']) → H' s' = some (.dK (cK ms')) → H' e' = some (.dK (cK me')) → s' ≠ en → e' ≠ en → OkM p ms' → OkM p me' → (∀ x ∈ keysI ms', 0 ≤ x ∧ x ≤ (xs.length : Int)) →
   (∀ x ∈ keysI me', 0 ≤ x ∧ x < (xs.length : Int) ∧ (xs.getD x.toNat []).length - 1 + 1 = l) → (∀ b, Top me' b → lookI bs b = none) → (me = [] → me' = []) → Q (.ref t) H'
noncomputable def spG_grow (CP CS : Addr) : Sp := fun vs H Q E => ∃ (g pc sh ed en : Addr) (v : V) (e : DE) (p : Int) (xs : List (List Int)) (es ss : List Ms) (bs : Ms), vs = [.ref g, v] ∧ GrowAt K CG H g pc sh ed en p xs es ss bs ∧ RepE K H v e ∧
 (¬ fitsE xs e = true → ∀ (d : Addr) (H' : Hp), Same H H' → H' d = some (.xd [("place", .int (xs.length : Int))]) → E (.ref CP) (some d) H') ∧
 (fitsE xs e = true → xs.length = 40 → ∀ H', Same H H' → E (.ref CS) none H') ∧
 (∀ q, e = .d (tI q) → fitsE xs e = true → xs.length < 40 → ∀ (r : V) (es' ss' : List Ms) (bs' : Ms) (H' : Hp), FrG pc sh ed en H H' → GrowAt K CG H' g pc sh ed en p (xs ++ [q]) es' ss' bs' → Ans xs q r → Q r H')
noncomputable def spG_growOk : Sp := fun vs H Q _ => ∃ (g pc sh ed en : Addr) (v : V) (p : Int) (xs : List (List Int)) (q : List Int) (es ss : List Ms) (bs : Ms), vs = [.ref g, v] ∧ GrowAt K CG H g pc sh ed en p xs es ss bs ∧ TI K H v q ∧ fitsD xs (tI q) = true ∧ xs.length < 40 ∧
 ∀ (r : V) (es' ss' : List Ms) (bs' : Ms) (H' : Hp), FrG pc sh ed en H H' → GrowAt K CG H' g pc sh ed en p (xs ++ [q]) es' ss' bs' → Ans xs q r → Q r H'
noncomputable def spG_take_back (CE : Addr) : Sp := fun vs H Q E => ∃ (g pc sh ed en : Addr) (p : Int) (xs : List (List Int)) (es ss : List Ms) (bs : Ms), vs = [.ref g] ∧ GrowAt K CG H g pc sh ed en p xs es ss bs ∧
 (xs = [] → ∀ H', Same H H' → E (.ref CE) none H') ∧
 (∀ xs0 q, xs = xs0 ++ [q] → ∀ (v : V) (es' ss' : List Ms) (bs' : Ms) (H' : Hp), FrG pc sh ed en H H' → GrowAt K CG H' g pc sh ed en p xs0 es' ss' bs' → TI K H' v q → Q v H')
noncomputable def sp_gSame : Sp := fun vs H Q _ => ∃ (a b : Addr) (xs : List (List Int)), vs = [.ref a, .ref b] ∧ LT K H (.ref a) xs ∧ LT K H (.ref b) xs ∧ xs.length ≤ 1000 ∧ (∀ x ∈ xs, x.length ≤ 4) ∧ ∀ H', Same H H' → Q (.bl true) H'
noncomputable def sp_gAnswer : Sp := fun vs H Q _ => ∃ (a : Addr) (v r : V) (xs : List (List Int)) (q : List Int), vs = [.ref a, v, r] ∧ LT K H (.ref a) xs ∧ TI K H v q ∧ Ans xs q r ∧ Q (.bl true) H
noncomputable def sp_gThing : Sp := fun vs H Q _ => ∃ (a : Addr) (c : Int) (xs : List (List Int)), vs = [.ref a, .int c] ∧ LT K H (.ref a) xs ∧ CntOk xs ∧ xs.length ≤ 1000 ∧ ∀ (v : V) (e : DE) (H' : Hp), Same H H' → RepE K H' v e → Q v H'
noncomputable def spG_taken : Sp := fun vs H Q _ => ∃ (g pc sh ed en a : Addr) (W : Addr → Prop) (p : Int) (xs : List (List Int)) (es ss : List Ms) (bs : Ms), vs = [.ref g, .ref a] ∧ GrowAt K CG H g pc sh ed en p xs es ss bs ∧ (∀ c, W4 pc sh ed en c → W c) ∧ (∀ c, W c → Mut H c) ∧ LH K H W a xs ∧
 ∀ (a' : Addr) (xs' : List (List Int)) (es' ss' : List Ms) (bs' : Ms) (H' : Hp), FrG pc sh ed en H H' → GrowAt K CG H' g pc sh ed en p xs' es' ss' bs' → LH K H' W a' xs' → Q (.ref a') H'
noncomputable def spG_deed : Sp := fun vs H Q _ => ∃ (g pc sh ed en a : Addr) (v : V) (e : DE) (W : Addr → Prop) (p : Int) (xs : List (List Int)) (es ss : List Ms) (bs : Ms), vs = [.ref g, .ref a, v] ∧ GrowAt K CG H g pc sh ed en p xs es ss bs ∧ (∀ c, W4 pc sh ed en c → W c) ∧ (∀ c, W c → Mut H c) ∧ LH K H W a xs ∧ RepE K H v e ∧
 ∀ (a' : Addr) (xs' : List (List Int)) (es' ss' : List Ms) (bs' : Ms) (H' : Hp), FrG pc sh ed en H H' → GrowAt K CG H' g pc sh ed en p xs' es' ss' bs' → LH K H' W a' xs' → Q (.ref a') H'
end
theorem mod_take {p : Int} {ms : Ms} {i : Nat} {q : Int × Int} (hq : ms[i]? = some q) : modI p (ms.take (i + 1)) = if q.2 % p = 0 then modI p (ms.take i) else modI p (ms.take i) ++ [(q.1, q.2 % p)] := by
 unfold modI
 rw [List.take_succ, hq, List.filter_append, List.map_append]
 show _ ++ ((List.filter _ [q]).map _) = _
 by_cases h : q.2 % p = 0
 · rw [if_pos h, List.filter_cons_of_neg (by simpa using h)]
   simp
 · rw [if_neg h, List.filter_cons_of_pos (by simpa using h)]
   rfl
theorem meets_agree {xs : List (List Int)} {p : List Int} {j : Nat} (hj : j < p.length) : meetsB xs (p.take j) (p.getD j 0) = (decide ((xs.getD (p.getD j 0).toNat []).length = 0) || (List.range j).all fun i => agreeAt xs p j i) := by
 unfold meetsB
 have hl : (p.take j).length = j := by rw [List.length_take]; omega
 rw [hl]
 congr 1
 rw [Bool.eq_iff_iff, List.all_eq_true, List.all_eq_true]
 have e : ∀ i, i < j → (p.take j).getD i 0 = p.getD i 0 := fun i hi => by rw [List.getD_eq_getElem?_getD, List.getD_eq_getElem?_getD, List.getElem?_take_of_lt hi]
 constructor
 · intro h i hi
   have := h i hi
   rw [e i (List.mem_range.mp hi)] at this
   exact this
 · intro h i hi
   rw [e i (List.mem_range.mp hi)]
   exact h i hi
theorem meets_all {xs : List (List Int)} {p : List Int} (hC : CntOk xs) (hall : ∀ f ∈ p, 0 ≤ f ∧ f < (xs.length : Int) ∧ levI (xs.getD f.toNat []).length + 1 = levI p.length) : (∀ j, j < p.length → meetsB xs (p.take j) (p.getD j 0) = true) ↔ (decide (levI p.length < 2) || agreeB xs p) = true := by
 constructor
 · intro h
   by_cases hl : levI p.length < 2
   · rw [decide_eq_true hl]; rfl
   · rw [decide_eq_false hl, Bool.false_or]
     unfold agreeB
     rw [List.all_eq_true]
     intro j hj
     have hj' := List.mem_range.mp hj
     have h1 := h j hj'
     rw [meets_agree hj'] at h1
     obtain ⟨x0, x1, x2⟩ := hall _ (getD_mem_of (d := 0) hj')
     have hne : ¬ (xs.getD (p.getD j 0).toNat []).length = 0 := fun z => by rw [z, levI_eq] at x2; omega
     rw [decide_eq_false hne, Bool.false_or] at h1
     exact h1
 · intro h j hj
   rw [meets_agree hj]
   obtain ⟨x0, x1, x2⟩ := hall _ (getD_mem_of (d := 0) hj)
   by_cases hl : levI p.length < 2
   · have hc := hC.at x0 x1
     have hz : (xs.getD (p.getD j 0).toNat []).length = 0 := by rw [levI_eq] at x2; omega
     rw [decide_eq_true hz]; rfl
   · rw [decide_eq_false hl, Bool.false_or] at h
     unfold agreeB at h
     rw [List.all_eq_true] at h
     rw [h j (List.mem_range.mpr hj), Bool.or_true]
section
variable {K : PySem.W.Frag} {CG CP CS : Addr}
noncomputable abbrev sp_Growth_growOk (K : PySem.W.Frag) (CG : Addr) : Sp := spG_growOk K CG
theorem grow_down : ∀ vs H Q E, sp_Growth_growOk K CG vs H Q E → spG_grow K CG CP CS vs H Q (fun _ _ _ => False) := by
 rintro vs H Q E ⟨g, pc, sh, ed, en, v, p, xs, q, es, ss, bs, rfl, x, hv, hf, hn, k⟩
 refine ⟨g, pc, sh, ed, en, v, .d (tI q), p, xs, es, ss, bs, rfl, x, hv, fun z => absurd hf z, fun _ z => by omega, fun q' e _ _ => ?_⟩
 have hq : q = q' := by
   have : tI q = tI q' := DE.d.inj e
   have h2 : nums q = nums q' := L2.D.tup.inj this
   rw [← map_toI q, h2, map_toI]
 subst hq
 exact k
end
theorem init_step {H Hk : Hp} {g a C dx : Addr} {fs : List (Str × V)} (fs' : List (Str × V)) {o : HO} (sx : SameX g H Hk) (eg : Hk g = some (.ins C dx fs)) (ha : Hk a = none) :
   SameX g H (upd (upd Hk a o) g (.ins C dx fs')) ∧ upd (upd Hk a o) g (.ins C dx fs') g = some (.ins C dx fs') ∧ upd (upd Hk a o) g (.ins C dx fs') a = some o ∧ (∀ b q, b ≠ g → Hk b = some q → upd (upd Hk a o) g (.ins C dx fs') b = some q) ∧ H a = none ∧ a ≠ g := by
 have hag : a ≠ g := fun z => by rw [z, eg] at ha; cases ha
 have pers : ∀ b q, b ≠ g → Hk b = some q → upd (upd Hk a o) g (.ins C dx fs') b = some q := fun b q n e => by rw [upd_ne n, upd_ne (fun z => by rw [z, ha] at e; cases e)]; exact e
 refine ⟨fun b q n e => pers b q n (sx b q n e), upd_same, by rw [upd_ne hag, upd_same], pers, ?_, hag⟩
 cases e : H a with
 | none => rfl
 | some q => have := sx a q hag e; rw [ha] at this; cases this
theorem keys_cK (ms : Ms) : (cK ms).map (·.1) = (keysI ms).map fun k => (.inl k : Key) := by
 unfold cK keysI
 rw [List.map_map, List.map_map]
 rfl
theorem keys_ne {ms : Ms} (h : ms ≠ []) : keysI ms ≠ [] := fun z => h (by unfold keysI at z; simpa using z)
theorem reps_last {K : PySem.W.Frag} {H : Hp} {us : List V} {xs : List (List Int)} {q : List Int} (r : Reps K H us ((xs ++ [q]).map tI)) : ∃ us0 y, us = us0 ++ [y] ∧ Reps K H us0 (xs.map tI) ∧ TI K H y q := by
 have hl : us.length = xs.length + 1 := by have := r.length; simpa using this
 obtain ⟨us0, y, rfl, hl0⟩ := snoc_of hl
 refine ⟨us0, y, rfl, ?_, ?_⟩
 · have := r.take xs.length
   rw [← List.map_take, List.take_append_of_le_length (Nat.le_of_eq hl0.symm), List.take_append_of_le_length (Nat.le_refl _), List.take_length, ← hl0, List.take_length] at this
   exact this
 · have e : ((xs ++ [q]).map tI)[xs.length]? = some (tI q) := by rw [List.getElem?_map, List.getElem?_append_right (Nat.le_refl _)]; simp
   obtain ⟨v, hv, tv⟩ := r.get e
   rw [List.getElem?_append_right (by omega)] at hv
   have : y = v := by simpa [hl0] using hv
   rw [this]
   exact tv
theorem last_at {α : Type} (l : List α) (x : α) : (l ++ [x])[(l ++ [x]).length - 1]? = some x := by simp
theorem stay_same {H H1 : Hp} {a : Addr} {o : HO} (h : H a = none) (s : StayX a (upd H a o) H1) : Same H H1 := fun c q e => by
 have n : c ≠ a := ne_of_none e h
 exact s c q n (by rw [upd_ne n]; exact e)
theorem map_snoc (l : List Addr) (a : Addr) : l.map V.ref ++ [.ref a] = (l ++ [a]).map V.ref := by rw [List.map_append]; rfl
theorem chains_snoc {H : Hp} {en d : Addr} {ds : List Addr} {ms : List Ms} {m : Ms} (hl : ds.length = ms.length) (h : ∀ (i : Nat) d m, ds[i]? = some d → ms[i]? = some m → H d = some (.dK (cK m)) ∧ d ≠ en) (hd : H d = some (.dK (cK m))) (hn : d ≠ en) :
   (ds ++ [d]).length = (ms ++ [m]).length ∧ ∀ (i : Nat) d' m', (ds ++ [d])[i]? = some d' → (ms ++ [m])[i]? = some m' → H d' = some (.dK (cK m')) ∧ d' ≠ en := by
 refine ⟨by simp [hl], fun i d' m' e1 e2 => ?_⟩
 rcases at_snoc e1 with ⟨h1, e1⟩ | ⟨h1, rfl⟩
 · rcases at_snoc e2 with ⟨_, e2⟩ | ⟨h2, _⟩
   · exact h i d' m' e1 e2
   · omega
 · rcases at_snoc e2 with ⟨h2, _⟩ | ⟨_, rfl⟩
   · omega
   · exact ⟨hd, hn⟩
theorem chains_init {H : Hp} {en : Addr} {ds : List Addr} {ms : List Ms} {m : Ms} (hl : ds.length = (ms ++ [m]).length) (h : ∀ (i : Nat) d m', ds[i]? = some d → (ms ++ [m])[i]? = some m' → H d = some (.dK (cK m')) ∧ d ≠ en) :
   ∃ ds0 d, ds = ds0 ++ [d] ∧ ds0.length = ms.length ∧ (∀ (i : Nat) d m', ds0[i]? = some d → ms[i]? = some m' → H d = some (.dK (cK m')) ∧ d ≠ en) ∧ H d = some (.dK (cK m)) ∧ d ≠ en := by
 obtain ⟨ds0, d, rfl, h0⟩ := snoc_of (show ds.length = ms.length + 1 by simpa using hl)
 refine ⟨ds0, d, rfl, h0, fun i d' m' e1 e2 => h i d' m' (by rw [List.getElem?_append_left (List.getElem?_eq_some_iff.mp e1).1]; exact e1) (by rw [List.getElem?_append_left (List.getElem?_eq_some_iff.mp e2).1]; exact e2), h ds0.length d m (by simp) (by rw [h0]; simp)⟩
theorem FrG.four {pc sh ed en : Addr} {H H7 : Hp} {o1 o2 o3 o4 : HO} (s : Same H H7) : FrG pc sh ed en H (upd (upd (upd (upd H7 pc o1) sh o2) ed o3) en o4) :=
 ((((FrG.of s).trans (FrG.up (.inl rfl))).trans (FrG.up (.inr (.inl rfl)))).trans (FrG.up (.inr (.inr (.inl rfl))))).trans (FrG.up (.inr (.inr (.inr rfl))))
theorem times_len (n : Int) (ms : Ms) : (timesI n ms).length ≤ ms.length := by
 unfold timesI
 split
 · exact Nat.zero_le _
 · rw [List.length_map]; exact Nat.le_refl _
theorem times_nd {n : Int} {ms : Ms} (h : nd ms) : nd (timesI n ms) := by
 unfold timesI
 split
 · exact List.nodup_nil
 · exact ndup_times h _
theorem small_by {a f p : Int} (a0 : 0 < a) (a1 : a < p) (f0 : 0 ≤ f) (f1 : f < p) (hp : p < 98) : -(10000 : Int) < -a * f ∧ -a * f ≤ 0 := by
 have h1 : a * f ≤ 97 * 97 := Int.mul_le_mul (by omega) (by omega) f0 (by omega)
 have h2 : 0 ≤ a * f := Int.mul_nonneg (by omega) f0
 have e : -a * f = -(a * f) := Int.neg_mul a f
 omega
theorem lenF {f : Str} {v : V} {fs : List (Str × V)} {n : Nat} (h : fs.length ≤ n) : (putF f v fs).length ≤ n + 1 := Nat.le_trans (length_putF f v fs) (by omega)
end Hb
namespace L2
open PySem PySem.Spec PyProof.Rows
theorem tSeq_go {t u : TS} {D : Ends} {σ : St} {H : Hp} (σ1 : St) (H1 : Hp) (ht : ∀ D' : Ends, D'.nx σ1 H1 → t D' σ H) (h : u D σ1 H1) : tSeq t u D σ H := ht { D with nx := u D } h
structure PSsw (X : Cx) (ss : List Stmt) (t : TS) : Prop where
 h : PSs X ss t
theorem pssw_setT {X : Cx} {st : Stmt} {t u : TS} {i : Nat} {x : Str} {es : List Expr} {k : Nat} {p pos' pos : Pos} {rest : List Stmt} {ta : TA} (h1 : PS X st t) (hN : X.N.Nodup) (hi : X.N[i]? = some x) (hx : Loc X.env.scope x) (ha : PAw X es ta) (hr : PSs X rest u)
   (hs : swapsWith (.Tuple es k p) (some (.Name x pos')) pos.line X.env = pure false := by kernel_rfl) (hf : X.fn x = true ∨ X.env.scope.names.lookup x = some .local := by first | exact .inl rfl | exact .inr rfl | assumption) :
   PSsw X (st :: .Assign [.Name x pos'] (.Tuple es k p) pos :: rest) (tSeq t (tSeq (tAsg (tTup ta) (gName i)) u)) := ⟨pss_cons h1 (pss_cons (ps_set hN hi hx (pe_tup ha.h) hs hf) hr)⟩
end L2
namespace Hb
open PySem L2
theorem sIx_m1 (n d : Nat) : HT.sIx (n + 1) d (some (-1)) = n := by
 show (if (-1 : Int) < 0 then ((-1 : Int) + ((n + 1 : Nat) : Int)).toNat else min (-1 : Int).toNat (n + 1)) = n
 rw [if_pos (by decide)]
 omega
theorem cut_last (us : List V) (y : V) : cutV (us ++ [y]) (some (-1)) none = [y] := by
 unfold cutV
 rw [List.length_append, show us.length + [y].length = us.length + 1 from rfl, sIx_m1, HT.sIx_none]
 simp
theorem cut_init (us : List V) (y : V) : cutV (us ++ [y]) none (some (-1)) = us := by
 unfold cutV
 rw [List.length_append, show us.length + [y].length = us.length + 1 from rfl, sIx_m1, HT.sIx_none]
 simp
theorem upd_rot {H : Hp} {pc sh ed en : Addr} {o1 o2 o3 o4 : HO} (n1 : pc ≠ sh) (n2 : pc ≠ ed) (n3 : sh ≠ ed) (n4 : en ≠ pc) (n5 : en ≠ sh) (n6 : en ≠ ed) :
   upd (upd (upd (upd H ed o3) en o4) sh o2) pc o1 = upd (upd (upd (upd H pc o1) sh o2) ed o3) en o4 := by
 funext c
 by_cases h1 : c = pc
 · subst h1; rw [upd_same, upd_ne n4.symm, upd_ne n2, upd_ne n1, upd_same]
 by_cases h2 : c = sh
 · subst h2; rw [upd_ne n1.symm, upd_same, upd_ne n5.symm, upd_ne n3, upd_same]
 by_cases h3 : c = en
 · subst h3; rw [upd_ne n4, upd_ne n5, upd_same, upd_same]
 by_cases h4 : c = ed
 · subst h4; rw [upd_ne n2.symm, upd_ne n3.symm, upd_ne n6.symm, upd_same, upd_ne n6.symm, upd_same]
 rw [upd_ne h1, upd_ne h2, upd_ne h3, upd_ne h4, upd_ne h3, upd_ne h4, upd_ne h2, upd_ne h1]
theorem comp_zipT0 {g : TG} {te : TE} {D : Addr} {Q : Hp → Prop} {τ : St} {H : Hp} {K : PySem.W.Frag} {a b : Addr} {xs ys : List V} {n : Nat} (hn : xs.length = n ∧ ys.length = n) (Pv : Nat → List V → St → Hp → Prop) (h0 : Pv 0 [] τ H) (hl : ∀ i zs τ H, i ≤ n → Pv i zs τ H → SqT K H a xs ∧ SqT K H b ys)
   (hs : ∀ i x y zs τ H p, xs[i]? = some x → ys[i]? = some y → Pv i zs τ H → H p = none → g (.ref p) τ (upd H p (.tup [x, y])) fun τ2 H2 => te τ2 H2 fun y H4 => H4 D = some (.lst zs) ∧ zs.length < sizeLine ∧ Pv (i + 1) (zs ++ [y]) τ2 (upd H4 D (.lst (zs ++ [y]))))
   (hd : ∀ zs τ H, Pv n zs τ H → Q H) : RunC (Ityp K a b) g tYes te D Q τ H := comp_zipT hn Pv h0 hl (fun i x y zs τ H p e1 e2 q hp => hs i x y zs τ H p e1 e2 q hp) hd
theorem fits_nil {xs : List (List Int)} : fitsD xs (tI []) = true := by
 show fitsD xs (.tup []) = true
 rw [fitsD_tup]
 rfl
noncomputable def FrW (W : Addr → Prop) (H H' : Hp) : Prop := ∀ c o, ¬ W c → H c = some o → H' c = some o
section
variable {K : PySem.W.Frag} {CG : Addr} {H H' H1 H2 : Hp} {W : Addr → Prop} {g pc sh ed en : Addr} {p : Int} {xs : List (List Int)} {es ss : List Ms} {bs : Ms}
theorem FrW.of (s : Same H H') : FrW W H H' := fun c o _ e => s c o e
theorem FrW.trans (a : FrW W H H1) (b : FrW W H1 H2) : FrW W H H2 := fun c o n e => b c o n (a c o n e)
theorem FrW.ofG (hs : ∀ c, W4 pc sh ed en c → W c) (fr : FrG pc sh ed en H H') : FrW W H H' := fun c o n e => fr c o (fun w => n (hs c w)) e
theorem FrW.up {c : Addr} {o : HO} (h : W c) : FrW W H (upd H c o) := fun d u n e => by
 have hn : d ≠ c := fun z => by subst z; exact n h
 rw [upd_ne hn]
 exact e
theorem FrW.hid (fr : FrW W H H') : Same (hidG H W) (hidG H' W) := hidG_mono fun a o n e => fr a o n e
theorem FrW.t (hM : ∀ c, W c → Mut H c) (fr : FrW W H H') : TSame H H' := by
 refine ⟨fun b us e => fr b _ (fun w => ?_) e, fun b o u e => fr b _ (fun w => ?_) e⟩
 · rcases hM b w with ⟨_, z⟩ | ⟨_, z⟩ <;> (rw [z] at e; cases e)
 · rcases hM b w with ⟨_, z⟩ | ⟨_, z⟩ <;> (rw [z] at e; cases e)
theorem LH.frW {a : Addr} (hM : ∀ c, W c → Mut H c) (fr : FrW W H H') (h : LH K H W a xs) : LH K H' W a xs := by
 obtain ⟨us, h1, h2⟩ := h
 exact ⟨us, fr.hid _ _ h1, Reps.t (fr.t hM) (imms_tIs _) h2⟩
noncomputable def PairAt (K : PySem.W.Frag) (H : Hp) (W : Addr → Prop) (v : V) : Prop := ∃ (t l m : Addr) (ys : List (List Int)), v = .ref t ∧ hidG H W t = some (.tup [.ref l, .ref m]) ∧ LH K H W l ys ∧ LH K H W m ys ∧ ys.length ≤ 1000 ∧ ∀ y ∈ ys, y.length ≤ 4
theorem PairAt.frW {v : V} (hM : ∀ c, W c → Mut H c) (fr : FrW W H H') (h : PairAt K H W v) : PairAt K H' W v := by
 obtain ⟨t, l, m, ys, h1, h2, h3, h4, h5, h6⟩ := h
 exact ⟨t, l, m, ys, h1, fr.hid _ _ h2, LH.frW hM fr h3, LH.frW hM fr h4, h5, h6⟩
noncomputable def HeldAt (K : PySem.W.Frag) (H : Hp) (W : Addr → Prop) (ps : List V) : Prop := ∀ v ∈ ps, PairAt K H W v
theorem HeldAt.frW {ps : List V} (hM : ∀ c, W c → Mut H c) (fr : FrW W H H') (h : HeldAt K H W ps) : HeldAt K H' W ps := fun v hv => (h v hv).frW hM fr
theorem HeldAt.snoc {ps : List V} {v : V} (h : HeldAt K H W ps) (hv : PairAt K H W v) : HeldAt K H W (ps ++ [v]) := fun w hw => by
 rcases List.mem_append.mp hw with z | z
 · exact h w z
 · rw [List.mem_singleton] at z
   rw [z]; exact hv
noncomputable def WH (pc sh ed en hd : Addr) : Addr → Prop := fun c => W4 pc sh ed en c ∨ c = hd
structure LawG (K : PySem.W.Frag) (CG : Addr) (H : Hp) (g pc sh ed en hd l : Addr) (p : Int) (xs : List (List Int)) (es ss : List Ms) (bs : Ms) (ps : List V) : Prop where
 gr : GrowAt K CG H g pc sh ed en p xs es ss bs
 lh : LH K H (WH pc sh ed en hd) l xs
 at_ : H hd = some (.lst ps)
 ha : HeldAt K H (WH pc sh ed en hd) ps
 n : hd ≠ pc ∧ hd ≠ sh ∧ hd ≠ ed
theorem LawG.mut {hd l : Addr} {ps : List V} (x : LawG K CG H g pc sh ed en hd l p xs es ss bs ps) : ∀ c, WH pc sh ed en hd c → Mut H c := by
 rintro c (h | rfl)
 · exact x.gr.mut c h
 · exact .inl ⟨_, x.at_⟩
theorem LawG.same {hd l : Addr} {ps : List V} (x : LawG K CG H g pc sh ed en hd l p xs es ss bs ps) (s : Same H H') : LawG K CG H' g pc sh ed en hd l p xs es ss bs ps :=
 ⟨x.gr.same s, x.lh.same s, s _ _ x.at_, x.ha.frW x.mut (FrW.of s), x.n⟩
theorem LawG.fr {hd l l' : Addr} {ps : List V} {xs' : List (List Int)} {es' ss' : List Ms} {bs' : Ms} (x : LawG K CG H g pc sh ed en hd l p xs es ss bs ps) (fr : FrG pc sh ed en H H') (gr : GrowAt K CG H' g pc sh ed en p xs' es' ss' bs') (lh : LH K H' (WH pc sh ed en hd) l' xs') :
   LawG K CG H' g pc sh ed en hd l' p xs' es' ss' bs' ps := by
 have nen : hd ≠ en := fun z => by have := x.at_; rw [z, x.gr.ens] at this; cases this
 refine ⟨gr, lh, fr _ _ ?_ x.at_, x.ha.frW x.mut (FrW.ofG (fun c w => .inl w) fr), x.n⟩
 rintro (z | z | z | z)
 · exact x.n.1 z
 · exact x.n.2.1 z
 · exact x.n.2.2 z
 · exact nen z
theorem LawG.put {hd l : Addr} {ps : List V} {v : V} (x : LawG K CG H g pc sh ed en hd l p xs es ss bs ps) (hv : PairAt K H (WH pc sh ed en hd) v) : LawG K CG (upd H hd (.lst (ps ++ [v]))) g pc sh ed en hd l p xs es ss bs (ps ++ [v]) := by
 have fr : FrW (WH pc sh ed en hd) H (upd H hd (.lst (ps ++ [v]))) := FrW.up (.inr rfl)
 exact ⟨x.gr.other x.at_ x.n.1 x.n.2.1 x.n.2.2, LH.frW x.mut fr x.lh, upd_same, (x.ha.frW x.mut fr).snoc (hv.frW x.mut fr), x.n⟩
theorem GrowAt.le4 (x : GrowAt K CG H g pc sh ed en p xs es ss bs) : xs.length ≤ 1000 ∧ ∀ y ∈ xs, y.length ≤ 4 := by
 have h1 := x.gw.n40
 refine ⟨by omega, fun y hy => ?_⟩
 have := shape_cnt x.gw.shp y hy
 omega
theorem PairAt.mk {H0 : Hp} {t l m : Addr} {us vs : List V} {ys : List (List Int)} (h0 : ∀ c, W c → Mut H0 c) (nt : H0 t = none) (nl : H0 l = none) (nm : H0 m = none) (ht : H t = some (.tup [.ref l, .ref m])) (hl : H l = some (.lst us)) (hm : H m = some (.lst vs))
   (ru : Reps K H us (ys.map tI)) (rv : Reps K H vs (ys.map tI)) (h4 : ys.length ≤ 1000 ∧ ∀ y ∈ ys, y.length ≤ 4) : PairAt K H W (.ref t) :=
 ⟨t, l, m, ys, rfl, hidG_new (fun c w => (h0 c w).there) nt ht, LH.new h0 nl hl ru, LH.new h0 nm hm rv, h4⟩
theorem rep_nil_snoc {us : List V} {i : Nat} {t : Addr} (r : Reps K H us ((List.replicate i ([] : List Int)).map tI)) (ht : H t = some (.tup [])) : Reps K H (us ++ [.ref t]) ((List.replicate (i + 1) ([] : List Int)).map tI) := by
 rw [List.replicate_succ', List.map_append]
 exact Reps.append r ⟨_, _, rfl, TI.mk (.of ht), rfl⟩
theorem ans_nil {i : Nat} {r : V} (h : Ans (List.replicate i []) [] r) : r = .non := by
 rcases h with h | ⟨b, _, _, _, h⟩
 · exact h
 · simp at h
end
theorem prime2 : PrimeI 2 := ⟨by decide, fun k h1 h2 => by omega⟩
end Hb
namespace Hb
open PySem L2
noncomputable def top (i : Nat) : Stmt := PySem.Challenge.pw_holebook_k54_a_growth_keeps_its_pieces.main.body.getD i (.Pass ⟨0, 0, 0, 0⟩)
structure Txt (K : PySem.W.Frag) (mg : Str → Option Value) (C_HoleError C_NoShape C_NoStage C_NoPiece C_Growth : Addr) : Prop where
 m_HoleError : mg "HoleError" = some (.ref C_HoleError)
 m_NoShape : mg "NoShape" = some (.ref C_NoShape)
 e_NoShape : PySem.W.excIn K C_NoShape bmV "ValueError.__new__" = true
 k_NoShape : PySem.W.ktsIn K C_NoShape "BaseException" = true
 m_NoStage : mg "NoStage" = some (.ref C_NoStage)
 e_NoStage : PySem.W.excIn K C_NoStage bmV "ValueError.__new__" = true
 k_NoStage : PySem.W.ktsIn K C_NoStage "BaseException" = true
 m_NoPiece : mg "NoPiece" = some (.ref C_NoPiece)
 x_NoPiece : ExcC K C_NoPiece
 k_NoPiece : PySem.W.ktsIn K C_NoPiece "BaseException" = true
 s_NoShape_NoShape : PySem.W.subIn K (.ref C_NoShape) (.ref C_NoShape) = some true
 s_NoShape_NoPiece : PySem.W.subIn K (.ref C_NoShape) (.ref C_NoPiece) = some false
 s_NoStage_NoStage : PySem.W.subIn K (.ref C_NoStage) (.ref C_NoStage) = some true
 s_NoPiece_NoPiece : PySem.W.subIn K (.ref C_NoPiece) (.ref C_NoPiece) = some true
 bi_HoleError : BaseInit K C_HoleError
 ec_NoPiece : ∃ f, ErrC K C_NoPiece C_HoleError f
 ea_NoPiece_place : ErrA K C_NoPiece "place"
 m_Growth : mg "Growth" = some (.ref C_Growth)
 cl_Growth : Cls K C_Growth
 na_Growth_prime : NoAttr K C_Growth "prime"
 na_Growth_pieces : NoAttr K C_Growth "pieces"
 na_Growth_sheets : NoAttr K C_Growth "sheets"
 na_Growth_edges : NoAttr K C_Growth "edges"
 na_Growth_enders : NoAttr K C_Growth "enders"
 x_FACE_COUNTS : ∃ a, mg "FACE_COUNTS" = some (.ref a) ∧ ∀ H, SqT K H a (([0, 2, 3, 4] : List Int).map V.int)
 x_MOST_PIECES : ∃ t, mg "MOST_PIECES" = some (.int 40 t)
 x_PRIME_BOUND : ∃ t, mg "PRIME_BOUND" = some (.int 98 t)
 n_isinstance : mg "isinstance" = none
 n_int : mg "int" = none
 n_bool : mg "bool" = none
 n_tuple : mg "tuple" = none
 n_zip : mg "zip" = none
 n_max : mg "max" = none
 n_len : mg "len" = none
 n_all : mg "all" = none
 n_range : mg "range" = none
 n_dict : mg "dict" = none
 n_enumerate : mg "enumerate" = none
 n_list : mg "list" = none
noncomputable def cutS (ns : List Int) (lo hi : Option Int) : List Int := (ns.drop (HT.sIx ns.length 0 lo)).take (HT.sIx ns.length ns.length hi - HT.sIx ns.length 0 lo)
theorem cutV_map (ns : List Int) (lo hi : Option Int) : cutV (ns.map V.int) lo hi = (cutS ns lo hi).map V.int := by
 unfold cutV cutS
 rw [List.length_map, List.map_take, List.map_drop]
theorem cutS_len (ns : List Int) (lo hi : Option Int) : (cutS ns lo hi).length ≤ ns.length := by
 unfold cutS
 rw [List.length_take, List.length_drop]
 omega
theorem ndc_0 : (["number"] : List Str).Nodup := by decide +kernel
theorem ndc_1 : (["old", "new", "quotient"] : List Str).Nodup := by decide +kernel
theorem ndc_2 : (["face", "shape", "level"] : List Str).Nodup := by decide +kernel
theorem ndc_3 : (["place", "old", "number"] : List Str).Nodup := by decide +kernel
theorem ndc_4 : (["number", "thing"] : List Str).Nodup := by decide +kernel
theorem ndc_5 : (["place", "number", "prime"] : List Str).Nodup := by decide +kernel
theorem ndc_6 : (["_law_place", "_law_pieces"] : List Str).Nodup := by decide +kernel
theorem ndc_7 : (["_law_face", "_law_pieces", "_law_j"] : List Str).Nodup := by decide +kernel
theorem ndc_8 : (["_law_face", "_law_pieces", "_law_faces"] : List Str).Nodup := by decide +kernel
theorem ndc_9 : (["_law_face", "_law_pieces", "_law_level_here"] : List Str).Nodup := by decide +kernel
theorem ndc_10 : (["_law_k", "_law_cell", "_law_pieces"] : List Str).Nodup := by decide +kernel
theorem ndc_11 : (["_law_face"] : List Str).Nodup := by decide +kernel
theorem ndc_12 : (["_law_k"] : List Str).Nodup := by decide +kernel
section
variable {P : Program} {w : World} {K : PySem.W.Frag} {mg : Str → Option Value} {base : Heap} {C_HoleError C_NoShape C_NoStage C_NoPiece C_Growth : Addr}
noncomputable abbrev s_is_whole : Stmt := top 2
theorem sc_is_whole : FnScope ["thing"] ["thing"] (defScope s_is_whole) := ⟨rfl, rfl, rfl, by decide +kernel, rfl, by decide +kernel, by decide +kernel⟩
theorem ok_is_whole {f : Addr} {fd : FuncData} (F : Fun K "is_whole" "is_whole" s_is_whole f fd) (T : Txt K mg C_HoleError C_NoShape C_NoStage C_NoPiece C_Growth)  : FnOk P w K mg base CX0 1 f fd ["thing"] (sp_is_whole K) := by
 refine F.ok sc_is_whole (fun vs H Q E h => ?_) (fun cdv A outer s H vs Q E hr h => ?_)
 · obtain ⟨x, d, rfl, hx, k⟩ := h
   rfl
 · obtain ⟨x, d, rfl, hx, k⟩ := h
   refine ⟨_, (pss_one (ps_ret (pe_and (pe_callB (kcall_isinst (K := K)) (by rfl) T.n_isinstance boot_isinstanceB (pa_cons (pv 0) (pa_cons (pe_bltn (v := .ty "int") rfl T.n_int boot_intT rfl) pa_nil))) (pe_one (pe_not (pe_callB (kcall_isinst (K := K)) (by rfl) T.n_isinstance boot_isinstanceB (pa_cons (pv 0) (pa_cons (pe_bltn (v := .ty "bool") rfl T.n_bool boot_boolT rfl) pa_nil)))))))), ?_⟩
   refine ⟨_, rfl, _, _, d, rfl, .inl rfl, hx, _, rfl, ?_⟩
   refine ite2 (fun e => ?_) (fun e => ?_)
   · refine ⟨_, rfl, _, _, d, rfl, .inr (.inl rfl), hx, _, rfl, ?_⟩
     have e2 : wholeD d = !isD "bool" d := by unfold wholeD; rw [e]; rfl
     rw [e2] at k
     exact k
   · have e2 : wholeD d = false := by unfold wholeD; simp [e]
     rw [e2] at k
     exact k
noncomputable abbrev s_shared_divisor : Stmt := top 4
theorem sc_shared_divisor : FnScope ["one", "other", "last", "now", "quotient", "rest"] ["one", "other"] (defScope s_shared_divisor) := ⟨rfl, rfl, rfl, by decide +kernel, rfl, by decide +kernel, by decide +kernel⟩
theorem nd_shared_divisor : (["one", "other", "last", "now", "quotient", "rest"] : List Str).Nodup := by decide +kernel
theorem ok_shared_divisor {f : Addr} {fd : FuncData} (F : Fun K "shared_divisor" "shared_divisor" s_shared_divisor f fd) (T : Txt K mg C_HoleError C_NoShape C_NoStage C_NoPiece C_Growth)  : FnOk P w K mg base CX0 1 f fd ["one", "other"] (sp_gDiv K) := by
 refine F.ok sc_shared_divisor (fun vs H Q E h => ?_) (fun cdv A outer s H vs Q E hr h => ?_)
 · obtain ⟨n, p, rfl, hp, hp98, hn, k⟩ := h
   rfl
 · obtain ⟨n, p, rfl, hp, hp98, hn, k⟩ := h
   refine ⟨_, (pss_cons (ps_set (i := 2) nd_shared_divisor (by rfl) (by first | exact Or.inl rfl | exact Or.inr rfl) (pe_tup (pa_cons (pv 0) (pa_cons pe_int (pa_cons pe_int pa_nil)))))
     (pss_cons (ps_set (i := 3) nd_shared_divisor (by rfl) (by first | exact Or.inl rfl | exact Or.inr rfl) (pe_tup (pa_cons (pv 1) (pa_cons pe_int (pa_cons pe_int pa_nil)))))
     (pss_cons (ps_while PassesOwn.never (pt_cmpR op_ne (pe_ix (kix_tup (K := K)) (pv 3) pe_int (fun _ _ => rfl)) pe_int (nomark _)) (pss_cons (ps_set (i := 4) nd_shared_divisor (by rfl) (by first | exact Or.inl rfl | exact Or.inr rfl) (pe_op op_fdiv (pe_ix (kix_tup (K := K)) (pv 2) pe_int (fun _ _ => rfl)) (pe_ix (kix_tup (K := K)) (pv 3) pe_int (fun _ _ => rfl))))
     (pss_cons (ps_set (i := 5) nd_shared_divisor (by rfl) (by first | exact Or.inl rfl | exact Or.inr rfl) (pe_callTy (kcall_tuple_of (K := K)) (by rfl) T.n_tuple boot_tupleT (pa_cons (pe_comp (N' := ["old", "new", "quotient"]) (cap := [none, none, some 4]) (by rfl) (by kernel_rfl) (pi_zipT (K := K) (by rfl) T.n_zip (pa_cons (pv 2) (pa_cons (pv 3) pa_nil))) (fun _ _ _ _ => (kpg_tup (K := K) (n := 2) (by rfl) (pgs_cons (pg_name (i := 0) ndc_1 (by rfl) (by first | exact Or.inl rfl | exact Or.inr rfl)) (pgs_cons (pg_name (i := 1) ndc_1 (by rfl) (by first | exact Or.inl rfl | exact Or.inr rfl)) pgs_nil)))) (fun _ _ _ _ => pts_nil) (fun _ _ _ _ => (pe_op op_sub (pv 0) (pe_op op_mulX (pv 2) (pv 1))))) pa_nil)))
     (pss_cons (ps_set (i := 2) nd_shared_divisor (by rfl) (by first | exact Or.inl rfl | exact Or.inr rfl) (pv 3))
     (pss_one (ps_set (i := 3) nd_shared_divisor (by rfl) (by first | exact Or.inl rfl | exact Or.inr rfl) (pv 5)))))))
     (pss_cons (ps_if (pt_cmpR op_lt (pe_ix (kix_tup (K := K)) (pv 2) pe_int (fun _ _ => rfl)) pe_int (nomark _)) (pss_one (ps_ret (pe_callTy (kcall_tuple_of (K := K)) (by rfl) T.n_tuple boot_tupleT (pa_cons (pe_comp (N' := ["number"]) (cap := [none]) (by rfl) (by kernel_rfl) (kpi_tup (K := K) (pv 2)) (fun _ _ _ _ => (pg_name (i := 0) ndc_0 (by rfl) (by first | exact Or.inl rfl | exact Or.inr rfl))) (fun _ _ _ _ => pts_nil) (fun _ _ _ _ => (pe_un un_neg (pv 0)))) pa_nil)))) pss_nil)
     (pss_one (ps_ret (pv 2))))))), ?_⟩
   have hp2 := hp.two
   refine ⟨_, rfl, smallE (by simp), fun L0 hL0 => ?_⟩
   have s0 : Same H (upd H L0 (.tup [.int n, .int 1, .int 0])) := Same.new hL0
   refine ⟨_, rfl, smallE (by simp), fun N0 hN0 => ?_⟩
   have s1 : Same (upd H L0 (.tup [.int n, .int 1, .int 0])) (upd (upd H L0 (.tup [.int n, .int 1, .int 0])) N0 (.tup [.int p, .int 0, .int 1])) := Same.new hN0
   refine tSeq_cut (fun σ' H' => σ' = [some (.int n), some (.int p), some (.ref L0), some (.ref N0), none, none] ∧ H' = upd (upd H L0 (.tup [.int n, .int 1, .int 0])) N0 (.tup [.int p, .int 0, .int 1])) ?_ fun key0 => key0 _ _ ⟨rfl, rfl⟩
   rintro _ _ ⟨rfl, rfl⟩
   refine tSeq_cut (fun σ' H' => ∃ (L N : Addr) (x y : Int) (o4 o5 : Option V), σ' = [some (.int n), some (.int p), some (.ref L), some (.ref N), o4, o5] ∧ Same H H' ∧ SqT K H' L [.int 1, .int x, .int y] ∧ p ∣ 1 - x * n) ?_ fun key => ?_
   rotate_left
   · refine ⟨fun m σ G => ∃ (L N : Addr) (a x y b u v : Int) (o4 o5 : Option V), σ = [some (.int n), some (.int p), some (.ref L), some (.ref N), o4, o5] ∧ Same H G ∧ SqT K G L [.int a, .int x, .int y] ∧ SqT K G N [.int b, .int u, .int v] ∧ Eu n p a x b u ∧ ((b = p ∧ u = 0 ∧ v = 1) ∨ (0 ≤ b ∧ b < a ∧ a ≤ p)) ∧ m = b.toNat, ⟨_, L0, N0, n, 1, 0, p, 0, 1, none, none, rfl, s0.trans s1, .of (s1 _ _ upd_same), .of upd_same, Eu.start n p, .inl ⟨rfl, rfl, rfl⟩, rfl⟩, ?_⟩
     rintro m σ G ⟨L, N, a, x, y, b, u, v, o4, o5, rfl, s2, hL, hN, hE, hst, rfl⟩
     refine ⟨_, rfl, N, _, _, _, rfl, rfl, hN, rfl, rfl, _, rfl, ?_⟩
     refine ite2 (fun h1 => ?_) (fun h1 => ?_)
     · have hb0 : ¬ b = 0 := by simpa using h1
       have hbp : 0 < b ∧ b ≤ p := by omega
       have hq : IntMulOk (a / b) u ∧ IntMulOk (a / b) v := by
         rcases hst with ⟨_, e1, e2⟩ | ⟨e0, e1, e2⟩
         · subst e1 e2
           exact ⟨mulokR (by decide) (by decide), mulokR (by decide) (by decide)⟩
         · have q0 : 0 ≤ a / b := Int.ediv_nonneg (by omega) (by omega)
           have q1 : a / b ≤ a := Int.ediv_le_self _ (by omega)
           exact ⟨mulokL (by omega) (by omega), mulokL (by omega) (by omega)⟩
       have hr : a - a / b * b = a % b := by rw [Int.emod_def, Int.mul_comm]
       have hr0 : 0 ≤ a % b := Int.emod_nonneg _ (by omega)
       have hr1 : a % b < b := Int.emod_lt_of_pos _ (by omega)
       refine ⟨fun σ' G' => ∃ (L N : Addr) (a' x y b' u v : Int) (o4 o5 : Option V), σ' = [some (.int n), some (.int p), some (.ref L), some (.ref N), o4, o5] ∧ Same H G' ∧ SqT K G' L [.int a', .int x, .int y] ∧ SqT K G' N [.int b', .int u, .int v] ∧ Eu n p a' x b' u ∧ (0 ≤ b' ∧ b' < a' ∧ a' ≤ p) ∧ b' < b, ?_, ?_⟩
       · rintro σ' G' ⟨L', N', a', x', y', b', u', v', o4', o5', rfl, q1, q2, q3, q4, q5, q6⟩
         exact ⟨b'.toNat, by omega, L', N', a', x', y', b', u', v', o4', o5', rfl, q1, q2, q3, q4, .inr q5, rfl⟩
       refine ⟨_, rfl, L, _, _, _, rfl, rfl, hL, rfl, _, rfl, N, _, _, _, rfl, rfl, hN, rfl, _, _, rfl, rfl, ⟨by omega, by omega⟩, ?_⟩
       refine ⟨_, rfl, _, rfl, L, N, rfl, ⟨_, hL⟩, ⟨_, hN⟩, fun D hD => ?_⟩
       have gv : ∀ (i : Nat) (e f : V), ([.int a, .int x, .int y] : List V)[i]? = some e → ([.int b, .int u, .int v] : List V)[i]? = some f → ∃ e' f' : Int, e = .int e' ∧ f = .int f' ∧ IntMulOk (a / b) f' ∧ i < 3 ∧
           ([.int (a - a / b * b), .int (x - a / b * u), .int (y - a / b * v)] : List V)[i]? = some (.int (e' - a / b * f')) := by
         intro i e f he hf
         match i, he, hf with
         | 0, he, hf => cases he; cases hf; exact ⟨a, b, rfl, rfl, mulokR (by omega) (by omega), by decide, rfl⟩
         | 1, he, hf => cases he; cases hf; exact ⟨x, u, rfl, rfl, hq.1, by decide, rfl⟩
         | 2, he, hf => cases he; cases hf; exact ⟨y, v, rfl, rfl, hq.2, by decide, rfl⟩
         | i + 3, he, hf => simp at he
       refine comp_zipT0 (K := K) (a := L) (b := N) (xs := [.int a, .int x, .int y]) (ys := [.int b, .int u, .int v]) (n := 3) ⟨rfl, rfl⟩ (fun i zs τ G1 => Same G G1 ∧ G1 D = some (.lst zs) ∧ zs = ([.int (a - a / b * b), .int (x - a / b * u), .int (y - a / b * v)] : List V).take i ∧ ∃ o1 o2, τ = [o1, o2, some (.int (a / b))])
         ⟨Same.new hD, upd_same, rfl, none, none, rfl⟩ (fun i zs τ G1 _ ⟨s3, _⟩ => ⟨s3.seqT hL, s3.seqT hN⟩) ?_ ?_
       · rintro i e f zs τ G1 pr he hf ⟨s3, hD3, hzs, o1, o2, rfl⟩ hpr
         obtain ⟨e', f', rfl, rfl, hok, hi3, hnext⟩ := gv i e f he hf
         have sp : Same G1 (upd G1 pr (.tup [.int e', .int f'])) := Same.new hpr
         refine ⟨pr, _, rfl, .of upd_same, rfl, _, _, rfl, _, _, rfl, rfl, ?_⟩
         refine ⟨_, rfl, _, rfl, _, rfl, _, _, rfl, rfl, hok, _, _, rfl, rfl, ?_⟩
         refine ⟨sp _ _ hD3, small (by rw [hzs, List.length_take]; omega), (s3.trans sp).turn hD, upd_same, ?_, _, _, rfl⟩
         rw [List.take_succ, hnext, hzs]
         rfl
       · rintro zs τ G1 ⟨s3, hD3, hzs, _⟩
         refine ⟨D, _, rfl, .inl ⟨.of hD3, fun T1 hT1 => ?_⟩⟩
         have s4 : Same G1 (upd G1 T1 (.tup zs)) := Same.new hT1
         have hzs' : zs = [.int (a - a / b * b), .int (x - a / b * u), .int (y - a / b * v)] := hzs
         have hT2 : SqT K (upd G1 T1 (.tup zs)) T1 [.int (a - a / b * b), .int (x - a / b * u), .int (y - a / b * v)] := by rw [← hzs']; exact .of upd_same
         refine ⟨_, rfl, _, rfl, N, T1, b, u, v, a - a / b * b, x - a / b * u, y - a / b * v, _, _, rfl, (s2.trans s3).trans s4, (s3.trans s4).seqT hN, hT2, hE.step (a / b), ?_, ?_⟩
         · rw [hr]; exact ⟨hr0, hr1, hbp.2⟩
         · rw [hr]; exact hr1
     · have hb0 : b = 0 := by simpa using h1
       subst hb0
       have ha : 0 < a := by omega
       have e1 := hE.last hp hn ha
       subst e1
       exact key _ _ ⟨L, N, x, y, o4, o5, rfl, s2, hL, hE.ha⟩
   rintro _ G ⟨L, N, x, y, o4, o5, rfl, s2, hL, hd⟩
   refine ⟨_, rfl, L, _, _, _, rfl, rfl, hL, rfl, _, _, rfl, rfl, _, rfl, ?_⟩
   refine ifN (by simp) ?_
   exact ⟨_, rfl, k L x y G s2 hL hd⟩
noncomputable abbrev s_level_of : Stmt := top 7
theorem sc_level_of : FnScope ["piece"] ["piece"] (defScope s_level_of) := ⟨rfl, rfl, rfl, by decide +kernel, rfl, by decide +kernel, by decide +kernel⟩
theorem ok_level_of {f : Addr} {fd : FuncData} (F : Fun K "level_of" "level_of" s_level_of f fd) (T : Txt K mg C_HoleError C_NoShape C_NoStage C_NoPiece C_Growth)  : FnOk P w K mg base CX0 1 f fd ["piece"] (sp_level_of K) := by
 refine F.ok sc_level_of (fun vs H Q E h => ?_) (fun cdv A outer s H vs Q E hr h => ?_)
 · obtain ⟨x, ds, rfl, hx, k⟩ := h
   rfl
 · obtain ⟨x, ds, rfl, hx, k⟩ := h
   refine ⟨_, (pss_one (ps_ret (pe_callB (call_max2 (by rfl)) (by rfl) T.n_max boot_maxB (pa_cons (pe_op op_sub (pe_callB (kcall_len_seq (K := K)) (by rfl) T.n_len PySem.boot_len (pa_cons (pv 0) pa_nil)) pe_int) (pa_cons pe_int pa_nil))))), ?_⟩
   obtain ⟨p, us, e, hq, hl⟩ : ∃ (p : Addr) (us : List V), x = .ref p ∧ (SqL K H p us ∨ SqT K H p us) ∧ us.length = ds.length := by
     rcases hx with ⟨p, us, e, hq, r⟩ | ⟨p, us, e, hq, r⟩
     · exact ⟨p, us, e, .inl hq, r.length⟩
     · exact ⟨p, us, e, .inr hq, r.length⟩
   subst e
   refine ⟨_, rfl, p, us, rfl, hq, _, _, rfl, rfl, _, _, rfl, ?_⟩
   rw [hl]
   exact k
noncomputable abbrev s_faces_agree : Stmt := top 10
theorem sc_faces_agree : FnScope ["shape", "faces", "j", "i"] ["shape", "faces"] (defScope s_faces_agree) := ⟨rfl, rfl, rfl, by decide +kernel, rfl, by decide +kernel, by decide +kernel⟩
theorem nd_faces_agree : (["shape", "faces", "j", "i"] : List Str).Nodup := by decide +kernel
theorem ok_faces_agree {f : Addr} {fd : FuncData} (F : Fun K "faces_agree" "faces_agree" s_faces_agree f fd) (T : Txt K mg C_HoleError C_NoShape C_NoStage C_NoPiece C_Growth)  : FnOk P w K mg base CX0 1 f fd ["shape", "faces"] (sp_faces_agree K) := by
 refine F.ok sc_faces_agree (fun vs H Q E h => ?_) (fun cdv A outer s H vs Q E hr h => ?_)
 · obtain ⟨a, v, xs, p, rfl, hL, hv, hp4, hf, k⟩ := h
   rfl
 · obtain ⟨a, v, xs, p, rfl, hL, hv, hp4, hf, k⟩ := h
   refine ⟨_, (pss_cons (ps_for PassesOwn.never rfl (pi_range1 (by rfl) T.n_range (pa_cons (pe_callB (kcall_len_seq (K := K)) (by rfl) T.n_len PySem.boot_len (pa_cons (pv 1) pa_nil)) pa_nil)) (pg_name (i := 2) nd_faces_agree (by rfl) (by first | exact Or.inl rfl | exact Or.inr rfl)) (pss_one (ps_for PassesOwn.never rfl (pi_range1 (by rfl) T.n_range (pa_cons (pv 2) pa_nil)) (pg_name (i := 3) nd_faces_agree (by rfl) (by first | exact Or.inl rfl | exact Or.inr rfl)) (pss_one (ps_if (pt_cmpR op_ne (pe_ix (kix_tup (K := K)) (pe_ix (kix_list (K := K)) (pv 0) (pe_ix (kix_tup (K := K)) (pv 1) (pv 2) (fun _ _ => rfl)) (fun _ _ => rfl)) (pv 3) (fun _ _ => rfl)) (pe_ix (kix_tup (K := K)) (pe_ix (kix_list (K := K)) (pv 0) (pe_ix (kix_tup (K := K)) (pv 1) (pv 3) (fun _ _ => rfl)) (fun _ _ => rfl)) (pe_op op_sub (pv 2) pe_int) (fun _ _ => rfl)) (nomark _)) (pss_one (ps_ret pe_bl)) pss_nil)))))
     (pss_one (ps_ret pe_bl))), ?_⟩
   obtain ⟨pa, rfl, hq⟩ := hv.sq
   have hpl : (p.map V.int).length = p.length := List.length_map ..
   refine ⟨_, rfl, pa, _, rfl, .inr hq, _, rfl, by omega, by omega, ?_⟩
   rw [hpl]
   refine for_range (lo := 0) (n := ((p.length : Nat) : Int).toNat) (fun j σ H2 => H = H2 ∧ (∃ o2 o3, σ = [some (.ref a), some (.ref pa), o2, o3]) ∧ ∀ j' i', j' < j → i' < j' → agreeAt xs p j' i' = true)
     ⟨rfl, ⟨none, none, rfl⟩, fun j' i' h => absurd h (by omega)⟩ ?_ ?_
   · rintro j σ H2 hj ⟨rfl, ⟨o2, o3, rfl⟩, hall⟩
     have hj' : j < p.length := by omega
     refine ⟨_, rfl, _, rfl, by omega, by omega, ?_⟩
     refine for_range (lo := 0) (n := ((0 : Int) + (j : Int)).toNat) (fun i σ H2 => H = H2 ∧ (∃ o3, σ = [some (.ref a), some (.ref pa), some (.int (0 + j)), o3]) ∧ ∀ i', i' < i → agreeAt xs p j i' = true)
       ⟨rfl, ⟨_, rfl⟩, fun i' h => absurd h (by omega)⟩ ?_ ?_
     · rintro i σ H2 hi ⟨rfl, ⟨o3, rfl⟩, hall2⟩
       have hij : i < j := by omega
       have mj : p.getD j 0 ∈ p := by rw [List.getD_eq_getElem?_getD, List.getElem?_eq_getElem hj']; exact List.getElem_mem _
       have mi : p.getD i 0 ∈ p := by rw [List.getD_eq_getElem?_getD, List.getElem?_eq_getElem (by omega)]; exact List.getElem_mem _
       obtain ⟨j0, j1, j2⟩ := hf _ mj
       obtain ⟨i0, i1, i2⟩ := hf _ mi
       obtain ⟨_, z, hq1, at1⟩ := TI.get (i := (0 : Int) + (j : Int)) hv (by omega) (by omega)
       cases z
       rw [show ((0 : Int) + (j : Int)).toNat = j by omega] at at1
       obtain ⟨_, z, hq2, at2⟩ := TI.get (i := (0 : Int) + (i : Int)) hv (by omega) (by omega)
       cases z
       rw [show ((0 : Int) + (i : Int)).toNat = i by omega] at at2
       obtain ⟨us1, v1, hu1, av1, tv1⟩ := LT.get hL j0 j1
       obtain ⟨us2, v2, hu2, av2, tv2⟩ := LT.get hL i0 i1
       obtain ⟨b1, e1, hb1, ab1⟩ := TI.get (i := (0 : Int) + (i : Int)) tv1 (by omega) (by omega)
       obtain ⟨b2, e2, hb2, ab2⟩ := TI.get (i := (0 : Int) + (j : Int) - 1) tv2 (by omega) (by omega)
       subst e1 e2
       rw [show ((0 : Int) + (i : Int)).toNat = i by omega] at ab1
       rw [show ((0 : Int) + (j : Int) - 1).toNat = j - 1 by omega] at ab2
       refine ⟨_, rfl, _, rfl, _, rfl, pa, _, _, _, rfl, rfl, hq1, at1, a, us1, _, _, rfl, rfl, hu1, av1, _, rfl, b1, _, _, _, rfl, rfl, hb1, ab1, ?_⟩
       refine ⟨_, rfl, _, rfl, _, rfl, pa, _, _, _, rfl, rfl, hq2, at2, a, us2, _, _, rfl, rfl, hu2, av2, _, rfl, _, _, rfl, rfl, b2, _, _, _, rfl, rfl, hb2, ab2, ?_⟩
       refine ⟨rfl, _, rfl, ?_⟩
       by_cases hag : (xs.getD (p.getD j 0).toNat []).getD i 0 = (xs.getD (p.getD i 0).toNat []).getD (j - 1) 0
       · refine ifN (eqI hag) ?_
         refine ⟨rfl, ⟨_, rfl⟩, fun i' h => ?_⟩
         by_cases hz : i' = i
         · subst hz; unfold agreeAt; exact decide_eq_true hag
         · exact hall2 i' (by omega)
       · refine ifP (neI hag) ?_
         have e2 : agreeB xs p = false := by
           cases q : agreeB xs p with
           | false => rfl
           | true =>
             unfold agreeB at q
             rw [List.all_eq_true] at q
             have q2 := q j (List.mem_range.mpr hj')
             rw [List.all_eq_true] at q2
             have q3 := q2 i (List.mem_range.mpr hij)
             exact absurd (of_decide_eq_true q3) hag
         rw [e2] at k
         exact k
     · rintro σ H2 ⟨rfl, ⟨o3, rfl⟩, hall2⟩
       refine ⟨rfl, ⟨_, _, rfl⟩, fun j' i' h1 h2 => ?_⟩
       by_cases hz : j' = j
       · subst hz; exact hall2 i' (by omega)
       · exact hall j' i' (by omega) h2
   · rintro σ H2 ⟨rfl, ⟨o2, o3, rfl⟩, hall⟩
     have e2 : agreeB xs p = true := by
       unfold agreeB
       rw [List.all_eq_true]
       intro j hj
       rw [List.all_eq_true]
       intro i hi
       have := List.mem_range.mp hj
       exact hall j i (by omega) (List.mem_range.mp hi)
     rw [e2] at k
     exact k
noncomputable abbrev s_add_at : Stmt := top 13
theorem sc_add_at : FnScope ["chain", "place", "number", "total"] ["chain", "place", "number"] (defScope s_add_at) := ⟨rfl, rfl, rfl, by decide +kernel, rfl, by decide +kernel, by decide +kernel⟩
theorem nd_add_at : (["chain", "place", "number", "total"] : List Str).Nodup := by decide +kernel
theorem ok_add_at {f : Addr} {fd : FuncData} (F : Fun K "add_at" "add_at" s_add_at f fd) (T : Txt K mg C_HoleError C_NoShape C_NoStage C_NoPiece C_Growth)  : FnOk P w K mg base CX0 1 f fd ["chain", "place", "number"] (sp_add_at K) := by
 refine F.ok sc_add_at (fun vs H Q E h => ?_) (fun cdv A outer s H vs Q E hr h => ?_)
 · obtain ⟨a, ms, k, n, rfl, ha, hl, kq⟩ := h
   rfl
 · obtain ⟨a, ms, k, n, rfl, ha, hl, kq⟩ := h
   have hu8 : (A.deeper (PyProof.Rows.envOfC "add_at" (defScope s_add_at) s.heap.objs.size f cdv)).units + 8 < cLine := by have := hr.units; omega
   refine ⟨_, (pss_cons (ps_set (i := 3) nd_add_at (by rfl) (by first | exact Or.inl rfl | exact Or.inr rfl) (pe_op op_add (pe_dget2 (u1 hu8) (pv 0) (pv 1) pe_int ⟨by rfl, by rfl, by rfl, by rfl⟩) (pv 2)))
     (pss_one (ps_if (pt_cmpR op_eq (pv 3) pe_int (nomark _)) (pss_one (ps_expr (pe_dpop2 (pv 0) (pv 1) pe_non ⟨by rfl, by rfl, by rfl, by rfl⟩))) (pss_one (ps_dput (u1 hu8) (pv 0) (pv 1) (pv 3) (by rfl)))))), ?_⟩
   refine ⟨_, rfl, a, rfl, .inl ⟨_, .inl ha⟩, _, rfl, _, dget_ok (.inl ha), _, rfl, getI ms k, n, cK_getD ms k, rfl, ?_⟩
   refine ⟨_, rfl, rfl, _, rfl, ?_⟩
   refine ite2 (fun h1 => ?_) (fun h1 => ?_)
   · have e : getI ms k + n = 0 := by simpa using h1
     unfold addI at kq
     rw [if_pos e] at kq
     refine ⟨_, rfl, a, rfl, .inl ⟨_, .inl ha⟩, _, rfl, cK ms, .inl k, ha, rfl, fun v hv => ?_, fun hn => ?_⟩
     · rw [cK_drop]
       exact kq
     · rw [cK_val] at hn
       have hn' : lookI ms k = none := by simpa using hn
       have e2 : dropI ms k = ms := by
         unfold dropI
         rw [List.filter_eq_self]
         intro p hp
         have : ¬ p.1 = k := fun z => by
           have h3 : (ms.any fun p => decide (p.1 = k)) = true := List.any_eq_true.mpr ⟨p, hp, by simpa using z⟩
           rw [any_key] at h3
           obtain ⟨p', hp', e'⟩ := List.mem_map.mp h3
           rw [← e'] at hn'
           have : ∀ (ns : Ms), p' ∈ ns → lookI ns p'.1 ≠ none := by
             intro ns
             induction ns with
             | nil => intro z; cases z
             | cons q ns ih =>
               intro hq
               rw [lookI_cons]
               split
               · exact fun z => by cases z
               · rename_i hne
                 rcases List.mem_cons.mp hq with rfl | hq
                 · exact absurd rfl hne
                 · exact ih hq
           exact this ms hp' hn'
         simpa using this
       rw [e2, upd_id ha] at kq
       exact kq
   · have e : ¬ getI ms k + n = 0 := by simpa using h1
     unfold addI at kq
     rw [if_neg e] at kq
     exact ⟨_, rfl, _, rfl, _, rfl, a, _, rfl, dput_ok ha hl, kq⟩
noncomputable abbrev s_times : Stmt := top 14
theorem sc_times : FnScope ["number", "chain"] ["number", "chain"] (defScope s_times) := ⟨rfl, rfl, rfl, by decide +kernel, rfl, by decide +kernel, by decide +kernel⟩
theorem ok_times {f : Addr} {fd : FuncData} (F : Fun K "times" "times" s_times f fd) (T : Txt K mg C_HoleError C_NoShape C_NoStage C_NoPiece C_Growth)  : FnOk P w K mg base CX0 1 f fd ["number", "chain"] (sp_times K) := by
 refine F.ok sc_times (fun vs H Q E h => ?_) (fun cdv A outer s H vs Q E hr h => ?_)
 · obtain ⟨n, a, ms, rfl, ha, hm, hok, k⟩ := h
   rfl
 · obtain ⟨n, a, ms, rfl, ha, hm, hok, k⟩ := h
   refine ⟨_, (pss_cons (ps_if (pt_cmpR op_eq (pv 0) pe_int (nomark _)) (pss_one (ps_ret pe_dnewK)) pss_nil)
     (pss_one (ps_ret (pe_callTy (call_dictP (by rfl)) (by rfl) T.n_dict boot_dictT (pa_cons (pe_frz (pe_comp (N' := ["place", "old", "number"]) (cap := [none, none, some 0]) (by rfl) (by kernel_rfl) (pi_items (pv 1)) (fun _ _ _ _ => (kpg_tup (K := K) (n := 2) (by rfl) (pgs_cons (pg_name (i := 0) ndc_3 (by rfl) (by first | exact Or.inl rfl | exact Or.inr rfl)) (pgs_cons (pg_name (i := 1) ndc_3 (by rfl) (by first | exact Or.inl rfl | exact Or.inr rfl)) pgs_nil)))) (fun _ _ _ _ => pts_nil) (fun _ _ _ _ => (pe_tup (pa_cons (pv 0) (pa_cons (pe_op op_mulX (pv 2) (pv 1)) pa_nil)))))) pa_nil))))), ?_⟩
   refine ⟨_, rfl, rfl, _, rfl, ?_⟩
   refine ite2 (fun h1 => ?_) (fun h1 => ?_)
   · have e : n = 0 := by simpa using h1
     intro D hD
     refine k D _ hD (Same.new hD) ?_
     rw [upd_same]
     unfold timesI
     rw [if_pos e]
     rfl
   have e : ¬ n = 0 := by simpa using h1
   refine .inr ⟨a, cK ms, ha, fun hnd o => ?_⟩
   refine ⟨_, rfl, a, o, cK ms, rfl, upd_same, fun D hD => ?_⟩
   obtain ⟨hD0, nDa⟩ := frz_free hD
   refine comp_items (d := a) (o := o) (kvs := cK ms) (fun i zs τ H1 => ∃ ts : List Addr, zs = ts.map V.ref ∧ ts.length = i ∧ (∀ (j : Nat) t, ts[j]? = some t → ∃ p : Int × Int, ms[j]? = some p ∧ H1 t = some (.tup [.int p.1, .int (n * p.2)]) ∧ t ≠ D) ∧ H1 a = some (.frz o (.dK (cK ms))) ∧ H1 D = some (.lst zs) ∧ (∀ c q, c ≠ a → H c = some q → H1 c = some q) ∧ ∃ o1 o2, τ = [o1, o2, some (.int n)])
     ⟨[], rfl, rfl, (fun j t z => by simp at z), ?_, upd_same, ?_, none, none, rfl⟩ (fun i zs τ H1 _ ⟨_, _, _, _, e, _⟩ => e) ?_ ?_
   · rw [upd_ne nDa.symm]; exact upd_same
   · intro c q n1 e2
     rw [upd_ne (ne_of_none e2 hD0), upd_ne n1]
     exact e2
   · rintro i kk x zs τ H1 p hx ⟨ts, rfl, htl, hts, ha1, hD1, hk1, o1, o2, rfl⟩ hp
     obtain ⟨q, hq, rfl, rfl⟩ := cK_get hx
     have hlt : i < ms.length := (List.getElem?_eq_some_iff.mp hq).1
     have sp : Same H1 (upd H1 p (.tup [.int q.1, .int q.2])) := Same.new hp
     refine ⟨p, _, rfl, .of upd_same, rfl, _, _, rfl, _, _, rfl, rfl, ?_⟩
     refine ⟨_, rfl, _, rfl, _, rfl, _, _, rfl, rfl, hok q (List.mem_of_getElem? hq), smallE (by simp), fun t ht => ?_⟩
     have st := sp.trans (Same.new (o := .tup [.int q.1, .int (n * q.2)]) ht)
     have ntD : t ≠ D := (ne_of_none (sp _ _ hD1) ht).symm
     refine ⟨st _ _ hD1, small (by rw [List.length_map]; omega), ts ++ [t], by simp, by simp [htl], fun j t' e2 => ?_, ?_, upd_same, fun c r n1 e2 => ?_, _, _, rfl⟩
     · rw [List.getElem?_append] at e2
       split at e2
       · obtain ⟨p', h1', h2', h3'⟩ := hts j t' e2
         exact ⟨p', h1', by rw [upd_ne h3']; exact st _ _ h2', h3'⟩
       · rename_i hj
         have hj0 : j - ts.length = 0 := by
           cases hz : j - ts.length with
           | zero => rfl
           | succ m => rw [hz] at e2; simp at e2
         rw [hj0] at e2
         have et : t = t' := by simpa using e2
         subst et
         refine ⟨q, by rw [show j = i by omega]; exact hq, ?_, ntD⟩
         rw [upd_ne ntD]
         exact upd_same
     · rw [upd_ne nDa.symm]; exact st _ _ ha1
     · have := hk1 c r n1 e2
       rw [upd_ne (fun z => by rw [z, hD0] at e2; cases e2)]
       exact st _ _ this
   · rintro zs τ H1 ⟨ts, rfl, htl, hts, ha1, hD1, hk1, _⟩
     rw [cK_len] at htl
     refine ⟨ha1, D, ts, cK (ms.map fun p => (p.1, n * p.2)), rfl, (by rw [upd_ne nDa]; exact hD1), (by rw [cK_len, List.length_map]; exact htl), fun i t e2 => ?_, fun E hE => ?_⟩
     · obtain ⟨p, h1', h2', _⟩ := hts i t e2
       refine ⟨(.inl p.1, .int (n * p.2)), ?_, ?_⟩
       · unfold cK
         rw [List.getElem?_map, List.getElem?_map, h1']
         rfl
       · have nta : t ≠ a := ne_of h2' ha1 (fun z => by cases z)
         rw [upd_ne nta]
         exact h2'
     · have s1 : Same H (upd H1 a (.dK (cK ms))) := fun c q e2 => by
         by_cases z : c = a
         · subst z
           rw [ha] at e2
           cases e2
           exact upd_same
         · rw [upd_ne z]; exact hk1 c q z e2
       refine k E _ (s1.free hE) (s1.trans (Same.new hE)) ?_
       rw [upd_same]
       have hnd' : nd ms := nodup_cK.mp hnd
       rw [mergeK_nodup _ [] (by rw [List.nil_append]; exact nodup_cK.mpr (ndup_times hnd' n))]
       unfold timesI
       rw [if_neg e, List.nil_append]
noncomputable abbrev s_NoPiece__init_ : Stmt := inClass (top 20) 0
theorem sc_NoPiece__init_ : FnScope ["self", "place"] ["self", "place"] (defScope s_NoPiece__init_) := ⟨rfl, rfl, rfl, by decide +kernel, rfl, by decide +kernel, by decide +kernel⟩
theorem ok_NoPiece__init_ {f : Addr} {fd : FuncData} (F : Fun K "__init__" "NoPiece.__init__" s_NoPiece__init_ f fd) (T : Txt K mg C_HoleError C_NoShape C_NoStage C_NoPiece C_Growth)  : FnOk P w K mg base CX0 1 f fd ["self", "place"] (sp_NoPiece_init K C_NoPiece) := by
 refine F.ok sc_NoPiece__init_ (fun vs H Q E h => ?_) (fun cdv A outer s H vs Q E hr h => ?_)
 · obtain ⟨e, n, rfl, he, hn, k⟩ := h
   rfl
 · obtain ⟨e, n, rfl, he, hn, k⟩ := h
   refine ⟨_, (pss_cons (ps_expr (pe_base (K := K) (by rfl) T.m_HoleError T.bi_HoleError (pa_cons (pv 0) (pa_cons (pe_fstr (pj_cons pe_str (pj_cons (pe_fmt (pv 1)) (pj_cons pe_str pj_nil)))) pa_nil))))
     (pss_one (ps_err (K := K) (pv 0) (pv 1) (by rfl)))), ?_⟩
   obtain ⟨fi, Z⟩ := T.ec_NoPiece
   refine ⟨_, rfl, ?_⟩
   refine ⟨_, rfl, smallS, ?_⟩
   refine ⟨_, rfl, .inl ⟨n, rfl, hn, fun z hz => ⟨_, rfl, hz, ?_⟩⟩⟩
   refine ⟨_, rfl, smallS, fun x hx => ?_⟩
   refine ⟨e, C_NoPiece, C_HoleError, fi, _, rfl, he, Z, ?_⟩
   refine ⟨_, rfl, _, rfl, e, C_NoPiece, C_HoleError, fi, rfl, he, Z, T.ea_NoPiece_place.no, fun d hd => ?_⟩
   exact k d hd
noncomputable abbrev s_check_size : Stmt := top 23
theorem sc_check_size : FnScope ["pieces"] ["pieces"] (defScope s_check_size) := ⟨rfl, rfl, rfl, by decide +kernel, rfl, by decide +kernel, by decide +kernel⟩
theorem ok_check_size {f : Addr} {fd : FuncData} (F : Fun K "check_size" "check_size" s_check_size f fd) (T : Txt K mg C_HoleError C_NoShape C_NoStage C_NoPiece C_Growth)  : FnOk P w K mg base (CX1 P w) 1 f fd ["pieces"] (sp_check_size K C_NoShape) := by
 refine F.okX sc_check_size (fun vs H Q E h => ?_) (fun cdv A outer s H vs Q E hr h => ?_)
 · obtain ⟨a, us, rfl, hq, k1, k2⟩ := h
   rfl
 · obtain ⟨a, us, rfl, hq, k1, k2⟩ := h
   obtain ⟨t_MOST_PIECES, c_MOST_PIECES⟩ := T.x_MOST_PIECES
   refine ⟨_, (pss_one (ps_if (pt_cmpR op_gt (pe_callB (kcall_len_seq (K := K)) (by rfl) T.n_len PySem.boot_len (pa_cons (pv 0) pa_nil)) (pe_glob (v := .int 40) (by rfl) c_MOST_PIECES ⟨_, rfl⟩) (nomark _)) (pss_one (ps_raise makes_def (by rfl) (by rfl) T.m_NoShape T.e_NoShape (pa_cons (pe_fstr (pj_cons pe_str (pj_cons (pe_fmt (pe_glob (v := .int 40) (by rfl) c_MOST_PIECES ⟨_, rfl⟩)) (pj_cons pe_str pj_nil)))) pa_nil))) pss_nil)), ?_⟩
   refine ⟨_, rfl, a, us, rfl, .inl hq, _, _, rfl, rfl, _, rfl, ?_⟩
   refine ite2 (fun h1 => ?_) (fun h1 => ?_)
   · have h2 : 40 < us.length := by
       have : (40 : Int) < (us.length : Int) := by simpa using h1
       omega
     refine ⟨_, rfl, by decide +kernel, .inl ⟨40, rfl, log40, fun x2 hx2 => ⟨_, rfl, hx2, _, rfl, by decide +kernel, fun x3 hx3 => ?_⟩⟩⟩
     exact ⟨smallE (by simp), k2 h2 H (Same.refl H)⟩
   · have h2 : us.length ≤ 40 := by
       have : ¬ (40 : Int) < (us.length : Int) := by simpa using h1
       omega
     exact k1 h2
noncomputable abbrev s_counted : Stmt := top 30
theorem sc_counted : FnScope ["chain", "prime"] ["chain", "prime"] (defScope s_counted) := ⟨rfl, rfl, rfl, by decide +kernel, rfl, by decide +kernel, by decide +kernel⟩
theorem ok_counted {f : Addr} {fd : FuncData} (F : Fun K "counted" "counted" s_counted f fd) (T : Txt K mg C_HoleError C_NoShape C_NoStage C_NoPiece C_Growth)  : FnOk P w K mg base CX0 1 f fd ["chain", "prime"] (sp_counted K) := by
 refine F.ok sc_counted (fun vs H Q E h => ?_) (fun cdv A outer s H vs Q E hr h => ?_)
 · obtain ⟨a, ms, p, rfl, ha, hm, hnd0, hp, k⟩ := h
   rfl
 · obtain ⟨a, ms, p, rfl, ha, hm, hnd0, hp, k⟩ := h
   refine ⟨_, (pss_one (ps_ret (pe_callTy (call_dictP (by rfl)) (by rfl) T.n_dict boot_dictT (pa_cons (pe_frz (pe_comp (N' := ["place", "number", "prime"]) (cap := [none, none, some 1]) (by rfl) (by kernel_rfl) (pi_items (pv 0)) (fun _ _ _ _ => (kpg_tup (K := K) (n := 2) (by rfl) (pgs_cons (pg_name (i := 0) ndc_5 (by rfl) (by first | exact Or.inl rfl | exact Or.inr rfl)) (pgs_cons (pg_name (i := 1) ndc_5 (by rfl) (by first | exact Or.inl rfl | exact Or.inr rfl)) pgs_nil)))) (fun _ _ _ _ => (pts_one (pt_cmpR op_ne (pe_op op_mod (pv 1) (pv 2)) pe_int (nomark _)))) (fun _ _ _ _ => (pe_tup (pa_cons (pv 0) (pa_cons (pe_op op_mod (pv 1) (pv 2)) pa_nil)))))) pa_nil)))), ?_⟩
   refine .inr ⟨a, cK ms, ha, fun hnd o => ?_⟩
   refine ⟨_, rfl, a, o, cK ms, rfl, upd_same, fun D hD => ?_⟩
   obtain ⟨hD0, nDa⟩ := frz_free hD
   refine comp_items (d := a) (o := o) (kvs := cK ms) (fun i zs τ H1 => ∃ ts : List Addr, zs = ts.map V.ref ∧ ts.length = (modI p (ms.take i)).length ∧ (∀ (j : Nat) t, ts[j]? = some t → ∃ q : Int × Int, (modI p (ms.take i))[j]? = some q ∧ H1 t = some (.tup [.int q.1, .int q.2]) ∧ t ≠ D) ∧ H1 a = some (.frz o (.dK (cK ms))) ∧ H1 D = some (.lst zs) ∧ (∀ c q, c ≠ a → H c = some q → H1 c = some q) ∧ ∃ o1 o2, τ = [o1, o2, some (.int p)])
     ⟨[], rfl, rfl, (fun j t z => by simp at z), ?_, upd_same, ?_, none, none, rfl⟩ (fun i zs τ H1 _ ⟨_, _, _, _, e, _⟩ => e) ?_ ?_
   · rw [upd_ne nDa.symm]; exact upd_same
   · intro c q n1 e2
     rw [upd_ne (ne_of_none e2 hD0), upd_ne n1]
     exact e2
   · rintro i kk x zs τ H1 pr hx ⟨ts, rfl, htl, hts, ha1, hD1, hk1, o1, o2, rfl⟩ hpr
     obtain ⟨q, hq, rfl, rfl⟩ := cK_get hx
     have hlt : i < ms.length := (List.getElem?_eq_some_iff.mp hq).1
     have mt := mod_take (p := p) hq
     have ml : (modI p (ms.take i)).length ≤ 1000 := Nat.le_trans (mod_len ..) (by rw [List.length_take]; omega)
     have sp : Same H1 (upd H1 pr (.tup [.int q.1, .int q.2])) := Same.new hpr
     refine ⟨pr, _, rfl, .of upd_same, rfl, _, _, rfl, _, _, rfl, rfl, ?_⟩
     refine ⟨_, rfl, _, rfl, _, _, rfl, rfl, hp, rfl, _, rfl, ?_⟩
     refine ite2 (fun h1 => ?_) (fun h1 => ?_)
     · have e : ¬ q.2 % p = 0 := by simpa using h1
       rw [if_neg e] at mt
       refine ⟨_, rfl, _, rfl, _, rfl, _, _, rfl, rfl, hp, smallE (by simp), fun t ht => ?_⟩
       have st := sp.trans (Same.new (o := .tup [.int q.1, .int (q.2 % p)]) ht)
       have ntD : t ≠ D := (ne_of_none (sp _ _ hD1) ht).symm
       refine ⟨st _ _ hD1, small (by rw [List.length_map]; omega), ts ++ [t], by simp, by rw [mt]; simp [htl], fun j t' e2 => ?_, ?_, upd_same, fun c r n1 e2 => ?_, _, _, rfl⟩
       · rcases at_snoc e2 with ⟨hj, e2⟩ | ⟨hj, rfl⟩
         · obtain ⟨p', h1', h2', h3'⟩ := hts j t' e2
           exact ⟨p', by rw [mt, List.getElem?_append_left (by omega)]; exact h1', by rw [upd_ne h3']; exact st _ _ h2', h3'⟩
         · refine ⟨(q.1, q.2 % p), by rw [mt, hj, htl]; simp, ?_, ntD⟩
           rw [upd_ne ntD]
           exact upd_same
       · rw [upd_ne nDa.symm]; exact st _ _ ha1
       · have := hk1 c r n1 e2
         rw [upd_ne (fun z => by rw [z, hD0] at e2; cases e2)]
         exact st _ _ this
     · have e : q.2 % p = 0 := by simpa using h1
       rw [if_pos e] at mt
       rw [← mt] at htl hts
       refine ⟨ts, rfl, htl, fun j t e2 => ?_, sp _ _ ha1, sp _ _ hD1, fun c r n1 e2 => sp _ _ (hk1 c r n1 e2), _, _, rfl⟩
       obtain ⟨p', h1', h2', h3'⟩ := hts j t e2
       exact ⟨p', h1', sp _ _ h2', h3'⟩
   · rintro zs τ H1 ⟨ts, rfl, htl, hts, ha1, hD1, hk1, _⟩
     rw [cK_len, List.take_length] at htl hts
     refine ⟨ha1, D, ts, cK (modI p ms), rfl, (by rw [upd_ne nDa]; exact hD1), (by rw [cK_len]; exact htl), fun i t e2 => ?_, fun E hE => ?_⟩
     · obtain ⟨q, h1', h2', _⟩ := hts i t e2
       refine ⟨(.inl q.1, .int q.2), ?_, ?_⟩
       · unfold cK
         rw [List.getElem?_map, h1']
         rfl
       · have nta : t ≠ a := ne_of h2' ha1 (fun z => by cases z)
         rw [upd_ne nta]
         exact h2'
     · have s1 : Same H (upd H1 a (.dK (cK ms))) := fun c q e2 => by
         by_cases z : c = a
         · subst z
           rw [ha] at e2
           cases e2
           exact upd_same
         · rw [upd_ne z]; exact hk1 c q z e2
       refine k E _ (s1.free hE) (s1.trans (Same.new hE)) ?_
       rw [upd_same, mergeK_nodup _ [] (by rw [List.nil_append]; exact nodup_cK.mpr (mod_nd hnd0)), List.nil_append]
noncomputable abbrev s_Growth_take_back : Stmt := inClass (top 32) 3
theorem sc_Growth_take_back : FnScope ["self", "edge"] ["self"] (defScope s_Growth_take_back) := ⟨rfl, rfl, rfl, by decide +kernel, rfl, by decide +kernel, by decide +kernel⟩
theorem nd_Growth_take_back : (["self", "edge"] : List Str).Nodup := by decide +kernel
theorem ok_Growth_take_back {f : Addr} {fd : FuncData} (F : Fun K "take_back" "Growth.take_back" s_Growth_take_back f fd) (T : Txt K mg C_HoleError C_NoShape C_NoStage C_NoPiece C_Growth)  : FnOk P w K mg base (CX1 P w) 1 f fd ["self"] (spG_take_back K C_Growth C_NoStage) := by
 refine F.okX sc_Growth_take_back (fun vs H Q E h => ?_) (fun cdv A outer s H vs Q E hr h => ?_)
 · obtain ⟨g, pc, sh, ed, en, p, xs, es, ss, bs, rfl, x, k1, k2⟩ := h
   rfl
 · obtain ⟨g, pc, sh, ed, en, p, xs, es, ss, bs, rfl, x, k1, k2⟩ := h
   refine ⟨_, (pss_cons (ps_if (pt_cmpR op_eq (pe_callB (kcall_len_seq (K := K)) (by rfl) T.n_len PySem.boot_len (pa_cons (kpe_fld (K := K) (pv 0)) pa_nil)) pe_int (nomark _)) (pss_one (ps_raise makes_def (by rfl) (by rfl) T.m_NoStage T.e_NoStage (pa_cons pe_str pa_nil))) pss_nil)
     (pss_cons (ps_set (i := 1) nd_Growth_take_back (by rfl) (by first | exact Or.inl rfl | exact Or.inr rfl) (kpe_bm0 (K := K) PySem.F.plainAttrs_list PySem.F.slot_list_pop PySem.F.type_list_pop mt_pop (kpe_fld (K := K) (pv 0))))
     (pss_cons (ps_if (pt_cmpR op_gt (pe_callB call_lenD (by rfl) T.n_len PySem.boot_len (pa_cons (pv 1) pa_nil)) pe_int (nomark _)) (pss_one (ps_expr (pe_dpop1 (kpe_fld (K := K) (pv 0)) (pe_callB (call_maxK (by rfl)) (by rfl) T.n_max boot_maxB (pa_cons (pv 1) pa_nil)) ⟨by rfl, by rfl, by rfl, by rfl⟩))) pss_nil)
     (pss_cons (ps_expr (kpe_bm0 (K := K) PySem.F.plainAttrs_list PySem.F.slot_list_pop PySem.F.type_list_pop mt_pop (kpe_fld (K := K) (pv 0))))
     (pss_one (ps_ret (kpe_bm0 (K := K) PySem.F.plainAttrs_list PySem.F.slot_list_pop PySem.F.type_list_pop mt_pop (kpe_fld (K := K) (pv 0))))))))), ?_⟩
   obtain ⟨dx, fs, hg, l1, l2, l3, l4, l5, lm⟩ := x.ob
   obtain ⟨us, hpc, r⟩ := x.pcs
   have hul : us.length = xs.length := by have := r.length; simpa using this
   refine ⟨_, rfl, g, C_Growth, dx, fs, _, rfl, hg, T.cl_Growth, T.na_Growth_pieces, l2, pc, us, rfl, .inl (.of hpc), rfl, _, rfl, ?_⟩
   rw [hul]
   by_cases hz : xs = []
   · refine ifP (by simp [hz]) ?_
     exact ⟨smallE (by simp), k1 hz H (Same.refl H)⟩
   refine ifN (by simpa using hz) ?_
   obtain ⟨xs0, q, ex, hxl⟩ := snoc_of (n := xs.length - 1) (show xs.length = xs.length - 1 + 1 by have := List.length_pos_iff.mpr hz; omega)
   have k3 := k2 xs0 q ex
   clear k1 k2
   subst ex
   obtain ⟨us0, y, rfl, r0, ty⟩ := reps_last r
   obtain ⟨es0, me, ee, hel⟩ := snoc_of (l := es) (n := xs0.length) (by rw [x.gw.le]; simp)
   subst ee
   obtain ⟨ss0, ms, es, hsl⟩ := snoc_of (l := ss) (n := xs0.length) (by rw [x.gw.ls]; simp)
   subst es
   obtain ⟨ds, hed, dl, dg⟩ := x.eds.ex
   obtain ⟨ds0, d, rfl, dl0, dg0, hd, nde⟩ := chains_init dl dg
   obtain ⟨cs, hsh, cl, cg⟩ := x.shs.ex
   obtain ⟨cs0, c, rfl, cl0, cg0, hc, nce⟩ := chains_init cl cg
   obtain ⟨okm, km⟩ := x.gw.eok es0.length me (by simp)
   obtain ⟨n1, n2, n3⟩ := x.ne
   have en8 := x.ens
   have gp : g ≠ pc := ne_of hg hpc (fun z => by cases z)
   have gs : g ≠ sh := ne_of hg hsh (fun z => by cases z)
   have ge : g ≠ ed := ne_of hg hed (fun z => by cases z)
   have gn : g ≠ en := ne_of hg en8 (fun z => by cases z)
   have np : en ≠ pc := ne_of en8 hpc (fun z => by cases z)
   have nsh : en ≠ sh := ne_of en8 hsh (fun z => by cases z)
   have ned : en ≠ ed := ne_of en8 hed (fun z => by cases z)
   have dne : d ≠ ed := ne_of hd hed (fun z => by cases z)
   have put := fun bs' gw => x.put (us := us0) (ds := ds0) (cs := cs0) (xs' := xs0) (es' := es0) (ss' := ss0) (bs' := bs') r0 dl0 dg0 cl0 cg0 gw
   have gwn := fun bs' hb => x.gw.back (bs' := bs') hb
   have frn := fun bs' => FrG.four (pc := pc) (sh := sh) (ed := ed) (en := en) (o1 := .lst us0) (o2 := .lst (cs0.map V.ref)) (o3 := .lst (ds0.map V.ref)) (o4 := .dK (cK bs')) (Same.refl H)
   refine ⟨_, rfl, g, C_Growth, dx, fs, _, rfl, hg, T.cl_Growth, T.na_Growth_edges, l4, .inl ⟨rfl, _, .of hed⟩, ed, _, _, rfl, rfl, hed, (by rw [← map_snoc]; exact last_at _ _), ?_⟩
   rw [← map_snoc, List.dropLast_concat]
   have hed1 : H ed = some (.lst (ds0.map V.ref ++ [.ref d])) := by rw [map_snoc]; exact hed
   refine tSeq_cut (fun σ' H' => σ' = [some (.ref g), some (.ref d)] ∧ upd H ed (.lst (ds0.map V.ref)) = H') ?_ fun key0 => key0 _ _ ⟨rfl, rfl⟩
   rintro _ _ ⟨rfl, rfl⟩
   refine tSeq_cut (t := tIfS _ _ _) (fun σ' H' => σ' = [some (.ref g), some (.ref d)] ∧ ∃ bs', upd (upd H ed (.lst (ds0.map V.ref))) en (.dK (cK bs')) = H' ∧ ((me = [] ∧ bs' = bs) ∨ ∃ b, Top me b ∧ bs' = dropI bs b)) ?_ fun key => ?_
   rotate_left
   · refine ⟨_, rfl, d, cK me, rfl, (by rw [upd_ne dne]; exact hd), _, _, rfl, rfl, _, rfl, ?_⟩
     rw [cK_len]
     by_cases hz : me = []
     · refine ifN (by simp [hz]) ?_
       exact key _ _ ⟨rfl, bs, upd_id (by rw [upd_ne ned]; exact en8), .inl ⟨hz, rfl⟩⟩
     have hpos := List.length_pos_iff.mpr hz
     refine ifP (by simp; omega) ?_
     refine ⟨_, rfl, g, C_Growth, dx, fs, _, rfl, (by rw [upd_ne ge]; exact hg), T.cl_Growth, T.na_Growth_enders, l5, en, rfl, .inl ⟨_, .inl (by rw [upd_ne ned]; exact en8)⟩, _, rfl, d, keysI me, cK me, rfl, (by rw [upd_ne dne]; exact hd), keys_cK me, keys_ne hz, fun b hb1 hb2 => ?_⟩
     have tb : Top me b := ⟨hb1, hb2⟩
     have hlk : lookI bs b = some (es0.length : Int) := (x.gw.bls b _).mpr ⟨es0.length, me, rfl, by simp, tb⟩
     refine ⟨cK bs, .inl b, .int (es0.length : Int), (by rw [upd_ne ned]; exact en8), rfl, by rw [cK_val, hlk]; rfl, ?_⟩
     rw [cK_drop]
     exact key _ _ ⟨rfl, _, rfl, .inr ⟨b, tb, rfl⟩⟩
   rintro _ _ ⟨rfl, bs', rfl, hb⟩
   have w := put bs' (gwn bs' hb)
   have f := frn bs'
   rw [← upd_rot n1 n2 n3 np nsh ned] at w f
   refine ⟨_, rfl, g, C_Growth, dx, fs, _, rfl, (by rw [upd_ne gn, upd_ne ge]; exact hg), T.cl_Growth, T.na_Growth_sheets, l3, .inl ⟨rfl, _, .of (by rw [upd_ne nsh.symm, upd_ne n3]; exact hsh)⟩, sh, _, _, rfl, rfl, (by rw [upd_ne nsh.symm, upd_ne n3]; exact hsh), (by rw [← map_snoc]; exact last_at _ _), ?_⟩
   rw [← map_snoc, List.dropLast_concat]
   refine ⟨_, rfl, g, C_Growth, dx, fs, _, rfl, (by rw [upd_ne gs, upd_ne gn, upd_ne ge]; exact hg), T.cl_Growth, T.na_Growth_pieces, l2, .inl ⟨rfl, _, .of (by rw [upd_ne n1, upd_ne np.symm, upd_ne n2]; exact hpc)⟩, pc, _, _, rfl, rfl, (by rw [upd_ne n1, upd_ne np.symm, upd_ne n2]; exact hpc), last_at _ _, ?_⟩
   rw [List.dropLast_concat]
   exact k3 y _ _ _ _ f w (Rep.t (f.t x) (imm_tI q) ty)
noncomputable abbrev s_Growth_shape : Stmt := inClass (top 32) 4
theorem sc_Growth_shape : FnScope ["self"] ["self"] (defScope s_Growth_shape) := ⟨rfl, rfl, rfl, by decide +kernel, rfl, by decide +kernel, by decide +kernel⟩
theorem ok_Growth_shape {f : Addr} {fd : FuncData} (F : Fun K "shape" "Growth.shape" s_Growth_shape f fd) (T : Txt K mg C_HoleError C_NoShape C_NoStage C_NoPiece C_Growth)  : FnOk P w K mg base CX0 1 f fd ["self"] (spG_shape K C_Growth) := by
 refine F.ok sc_Growth_shape (fun vs H Q E h => ?_) (fun cdv A outer s H vs Q E hr h => ?_)
 · obtain ⟨g, pc, sh, ed, en, p, xs, es, ss, bs, rfl, x, k⟩ := h
   rfl
 · obtain ⟨g, pc, sh, ed, en, p, xs, es, ss, bs, rfl, x, k⟩ := h
   refine ⟨_, (pss_one (ps_ret (pe_callTy (kcall_list_of (K := K)) (by rfl) T.n_list boot_listT (pa_cons (kpe_fld (K := K) (pv 0)) pa_nil)))), ?_⟩
   obtain ⟨dx, fs, hg, l1, l2, l3, l4, l5, lm⟩ := x.ob
   obtain ⟨us, hpc, r⟩ := x.pcs
   exact ⟨_, rfl, g, C_Growth, dx, fs, _, rfl, hg, T.cl_Growth, T.na_Growth_pieces, l2, pc, us, rfl, .inl (.of hpc), fun l hl => k l us _ hl (Same.new hl) upd_same (Reps.same (Same.new hl) r)⟩
noncomputable abbrev s_L_whole : Stmt := top 34
theorem sc_L_whole : FnScope ["_law_found"] ["_law_found"] (defScope s_L_whole) := ⟨rfl, rfl, rfl, by decide +kernel, rfl, by decide +kernel, by decide +kernel⟩
theorem ok_L_whole {f : Addr} {fd : FuncData} (F : Fun K "_law_whole" "_law_whole" s_L_whole f fd) (T : Txt K mg C_HoleError C_NoShape C_NoStage C_NoPiece C_Growth)  : FnOk P w K mg base CX0 1 f fd ["_law_found"] (sp_L_whole K) := by
 refine F.ok sc_L_whole (fun vs H Q E h => ?_) (fun cdv A outer s H vs Q E hr h => ?_)
 · obtain ⟨x, d, rfl, hx, k⟩ := h
   rfl
 · obtain ⟨x, d, rfl, hx, k⟩ := h
   refine ⟨_, (pss_one (ps_ret (pe_and (pe_callB (kcall_isinst (K := K)) (by rfl) T.n_isinstance boot_isinstanceB (pa_cons (pv 0) (pa_cons (pe_bltn (v := .ty "int") rfl T.n_int boot_intT rfl) pa_nil))) (pe_one (pe_not (pe_callB (kcall_isinst (K := K)) (by rfl) T.n_isinstance boot_isinstanceB (pa_cons (pv 0) (pa_cons (pe_bltn (v := .ty "bool") rfl T.n_bool boot_boolT rfl) pa_nil)))))))), ?_⟩
   refine ⟨_, rfl, _, _, d, rfl, .inl rfl, hx, _, rfl, ?_⟩
   refine ite2 (fun e => ?_) (fun e => ?_)
   · refine ⟨_, rfl, _, _, d, rfl, .inr (.inl rfl), hx, _, rfl, ?_⟩
     have e2 : wholeD d = !isD "bool" d := by unfold wholeD; rw [e]; rfl
     rw [e2] at k
     exact k
   · have e2 : wholeD d = false := by unfold wholeD; simp [e]
     rw [e2] at k
     exact k
noncomputable abbrev s_L_cell_at : Stmt := top 35
theorem sc_L_cell_at : FnScope ["_law_script", "_law_k"] ["_law_script", "_law_k"] (defScope s_L_cell_at) := ⟨rfl, rfl, rfl, by decide +kernel, rfl, by decide +kernel, by decide +kernel⟩
theorem ok_L_cell_at {f : Addr} {fd : FuncData} (F : Fun K "_law_cell_at" "_law_cell_at" s_L_cell_at f fd) (T : Txt K mg C_HoleError C_NoShape C_NoStage C_NoPiece C_Growth)  : FnOk P w K mg base CX0 1 f fd ["_law_script", "_law_k"] (sp_L_cell_at K) := by
 refine F.ok sc_L_cell_at (fun vs H Q E h => ?_) (fun cdv A outer s H vs Q E hr h => ?_)
 · obtain ⟨a, ns, k, rfl, hS, h0, hl, kq⟩ := h
   rfl
 · obtain ⟨a, ns, k, rfl, hS, h0, hl, kq⟩ := h
   refine ⟨_, (pss_cons (ps_if (pt_cmpR op_lt (pv 1) (pe_callB (kcall_len_seq (K := K)) (by rfl) T.n_len PySem.boot_len (pa_cons (pv 0) pa_nil)) (nomark _)) (pss_one (ps_ret (pe_ix (kix_list (K := K)) (pv 0) (pv 1) (fun _ _ => rfl)))) pss_nil)
     (pss_one (ps_ret pe_int))), ?_⟩
   refine ⟨_, rfl, _, rfl, a, _, rfl, .inl hS, _, _, rfl, rfl, _, rfl, ?_⟩
   refine ite2 (fun h1 => ?_) (fun h1 => ?_)
   · have h2 : k < (ns.length : Int) := by simpa using h1
     have e : atI (ns.map V.int) k = some (.int (cellAt ns k)) := by
       obtain ⟨j, rfl⟩ := Int.eq_ofNat_of_zero_le h0
       refine atI_nat ?_
       have hj : j < ns.length := by omega
       rw [List.getElem?_map, List.getElem?_eq_getElem hj]
       simp [cellAt, hj]
     exact ⟨_, rfl, _, rfl, a, _, k, _, rfl, rfl, hS, e, kq⟩
   · have h2 : ¬ k < (ns.length : Int) := by simpa using h1
     have e : cellAt ns k = 0 := by
       unfold cellAt
       have : ns.length ≤ k.toNat := by omega
       simp [this]
     rw [e] at kq
     exact kq
noncomputable abbrev s_L_level : Stmt := top 36
theorem sc_L_level : FnScope ["_law_piece"] ["_law_piece"] (defScope s_L_level) := ⟨rfl, rfl, rfl, by decide +kernel, rfl, by decide +kernel, by decide +kernel⟩
theorem ok_L_level {f : Addr} {fd : FuncData} (F : Fun K "_law_level" "_law_level" s_L_level f fd) (T : Txt K mg C_HoleError C_NoShape C_NoStage C_NoPiece C_Growth)  : FnOk P w K mg base CX0 1 f fd ["_law_piece"] (sp_level_of K) := by
 refine F.ok sc_L_level (fun vs H Q E h => ?_) (fun cdv A outer s H vs Q E hr h => ?_)
 · obtain ⟨x, ds, rfl, hx, k⟩ := h
   rfl
 · obtain ⟨x, ds, rfl, hx, k⟩ := h
   refine ⟨_, (pss_one (ps_ret (pe_callB (call_max2 (by rfl)) (by rfl) T.n_max boot_maxB (pa_cons pe_int (pa_cons (pe_op op_sub (pe_callB (kcall_len_seq (K := K)) (by rfl) T.n_len PySem.boot_len (pa_cons (pv 0) pa_nil)) pe_int) pa_nil))))), ?_⟩
   obtain ⟨p, us, e, hq, hl⟩ : ∃ (p : Addr) (us : List V), x = .ref p ∧ (SqL K H p us ∨ SqT K H p us) ∧ us.length = ds.length := by
     rcases hx with ⟨p, us, e, hq, r⟩ | ⟨p, us, e, hq, r⟩
     · exact ⟨p, us, e, .inl hq, r.length⟩
     · exact ⟨p, us, e, .inr hq, r.length⟩
   subst e
   refine ⟨_, rfl, p, us, rfl, hq, _, _, rfl, rfl, _, _, rfl, ?_⟩
   rw [hl]
   rw [show (if ((ds.length : Nat) : Int) - 1 > 0 then ((ds.length : Nat) : Int) - 1 else 0) = levI ds.length by unfold levI; split <;> split <;> omega]
   exact k
noncomputable abbrev s_L_meets : Stmt := top 37
theorem sc_L_meets : FnScope ["_law_pieces", "_law_faces", "_law_face", "_law_i"] ["_law_pieces", "_law_faces", "_law_face"] (defScope s_L_meets) := ⟨rfl, rfl, rfl, by decide +kernel, rfl, by decide +kernel, by decide +kernel⟩
theorem nd_L_meets : (["_law_pieces", "_law_faces", "_law_face", "_law_i"] : List Str).Nodup := by decide +kernel
theorem ok_L_meets {f : Addr} {fd : FuncData} (F : Fun K "_law_meets" "_law_meets" s_L_meets f fd) (T : Txt K mg C_HoleError C_NoShape C_NoStage C_NoPiece C_Growth)  : FnOk P w K mg base CX0 1 f fd ["_law_pieces", "_law_faces", "_law_face"] (sp_gMeets K) := by
 refine F.ok sc_L_meets (fun vs H Q E h => ?_) (fun cdv A outer s H vs Q E hr h => ?_)
 · obtain ⟨a, v, xs, fs, f0, rfl, hL, hv, f1, f2, hg, hf4, hcase, k⟩ := h
   rfl
 · obtain ⟨a, v, xs, fs, f0, rfl, hL, hv, f1, f2, hg, hf4, hcase, k⟩ := h
   refine ⟨_, (pss_cons (ps_if (pt_cmpR op_eq (pe_callB (kcall_len_seq (K := K)) (by rfl) T.n_len PySem.boot_len (pa_cons (pe_ix (kix_list (K := K)) (pv 0) (pv 2) (fun _ _ => rfl)) pa_nil)) pe_int (nomark _)) (pss_one (ps_ret pe_bl)) pss_nil)
     (pss_cons (ps_for PassesOwn.never rfl (pi_range1 (by rfl) T.n_range (pa_cons (pe_callB (kcall_len_seq (K := K)) (by rfl) T.n_len PySem.boot_len (pa_cons (pv 1) pa_nil)) pa_nil)) (pg_name (i := 3) nd_L_meets (by rfl) (by first | exact Or.inl rfl | exact Or.inr rfl)) (pss_one (ps_if (pt_cmpR op_ne (pe_ix (kix_tup (K := K)) (pe_ix (kix_list (K := K)) (pv 0) (pv 2) (fun _ _ => rfl)) (pv 3) (fun _ _ => rfl)) (pe_ix (kix_tup (K := K)) (pe_ix (kix_list (K := K)) (pv 0) (pe_ix (kix_tup (K := K)) (pv 1) (pv 3) (fun _ _ => rfl)) (fun _ _ => rfl)) (pe_op op_sub (pe_callB (kcall_len_seq (K := K)) (by rfl) T.n_len PySem.boot_len (pa_cons (pv 1) pa_nil)) pe_int) (fun _ _ => rfl)) (nomark _)) (pss_one (ps_ret pe_bl)) pss_nil)))
     (pss_one (ps_ret pe_bl)))), ?_⟩
   obtain ⟨xu, vx, hxq, hvx, tvx⟩ := LT.get hL f1 f2
   obtain ⟨ax, rfl, sqx⟩ := TI.sq tvx
   obtain ⟨af, rfl, sqf⟩ := TI.sq hv
   refine ⟨_, rfl, _, rfl, a, xu, _, _, rfl, rfl, hxq, hvx, ax, _, rfl, .inr sqx, rfl, _, rfl, ?_⟩
   rw [List.length_map]
   refine ite2 (fun h1 => ?_) (fun h1 => ?_)
   · have hz : (xs.getD f0.toNat []).length = 0 := by
       have : ((xs.getD f0.toNat []).length : Int) = 0 := by simpa using h1
       omega
     have e : meetsB xs fs f0 = true := by unfold meetsB; rw [decide_eq_true hz]; rfl
     rw [e] at k
     exact k
   have hne : ¬ (xs.getD f0.toNat []).length = 0 := fun z => h1 (by rw [z]; rfl)
   obtain ⟨c1, c2⟩ := hcase.resolve_left hne
   have em : meetsB xs fs f0 = (List.range fs.length).all fun i => decide ((xs.getD f0.toNat []).getD i 0 = (xs.getD (fs.getD i 0).toNat []).getD (fs.length - 1) 0) := by unfold meetsB; rw [decide_eq_false hne]; rfl
   refine ⟨_, rfl, af, _, rfl, .inr sqf, _, rfl, by rw [List.length_map]; omega, by rw [List.length_map]; omega, ?_⟩
   rw [List.length_map]
   refine for_range (lo := 0) (n := fs.length) (fun i σ G => ∃ o3, σ = [some (.ref a), some (.ref af), some (.int f0), o3] ∧ H = G ∧ ∀ i', i' < i → (xs.getD f0.toNat []).getD i' 0 = (xs.getD (fs.getD i' 0).toNat []).getD (fs.length - 1) 0) ⟨_, rfl, rfl, fun i' h => absurd h (by omega)⟩ ?_ ?_
   · rintro i σ G hi ⟨o3, rfl, rfl, hall⟩
     rw [show (0 : Int) + (i : Int) = (i : Int) by omega]
     have hgm := getD_mem_of (d := 0) hi
     obtain ⟨g0, g1⟩ := hg _ hgm
     have c3 := c2 _ hgm
     have hatf : atI (fs.map V.int) (i : Int) = some (.int (fs.getD i 0)) := by
       have := at_int (sp := fs) (x := (i : Int)) (by omega) (by omega)
       rwa [Int.toNat_natCast] at this
     have hatx : atI ((xs.getD f0.toNat []).map V.int) (i : Int) = some (.int ((xs.getD f0.toNat []).getD i 0)) := by
       have := at_int (sp := xs.getD f0.toNat []) (x := (i : Int)) (by omega) (by omega)
       rwa [Int.toNat_natCast] at this
     have hatg : atI ((xs.getD (fs.getD i 0).toNat []).map V.int) ((fs.length : Int) - 1) = some (.int ((xs.getD (fs.getD i 0).toNat []).getD (fs.length - 1) 0)) := by
       have := at_int (sp := xs.getD (fs.getD i 0).toNat []) (x := (fs.length : Int) - 1) (by omega) (by omega)
       rwa [show ((fs.length : Int) - 1).toNat = fs.length - 1 by omega] at this
     obtain ⟨gu, vg, hgq, hvg, tvg⟩ := LT.get hL g0 g1
     obtain ⟨ag, rfl, sqg⟩ := TI.sq tvg
     refine ⟨_, rfl, _, rfl, a, xu, _, _, rfl, rfl, hxq, hvx, _, rfl, ax, _, _, _, rfl, rfl, sqx, hatx, _, rfl, _, rfl, _, rfl, af, _, _, _, rfl, rfl, sqf, hatf, a, gu, _, _, rfl, rfl, hgq, hvg, _, rfl, af, _, rfl, .inr sqf, _, _, rfl, rfl, ag, _, _, _, rfl, rfl, sqg, (by rw [List.length_map]; exact hatg), rfl, _, rfl, ?_⟩
     by_cases he : (xs.getD f0.toNat []).getD i 0 = (xs.getD (fs.getD i 0).toNat []).getD (fs.length - 1) 0
     · refine ifN (eqI he) ?_
       refine ⟨_, rfl, rfl, fun i' hi' => ?_⟩
       by_cases z : i' = i
       · subst z; exact he
       · exact hall i' (by omega)
     · refine ifP (neI he) ?_
       have e : meetsB xs fs f0 = false := by
         rw [em, List.all_eq_false]
         exact ⟨i, List.mem_range.mpr hi, by simpa using he⟩
       rw [e] at k
       exact k
   · rintro σ G ⟨o3, rfl, rfl, hall⟩
     have e : meetsB xs fs f0 = true := by
       rw [em, List.all_eq_true]
       exact fun i hi => decide_eq_true (hall i (List.mem_range.mp hi))
     rw [e] at k
     exact k
noncomputable abbrev s_L_pick : Stmt := top 39
theorem sc_L_pick : FnScope ["_law_cell", "_law_j", "_law_many", "_law_mixed"] ["_law_cell", "_law_j", "_law_many"] (defScope s_L_pick) := ⟨rfl, rfl, rfl, by decide +kernel, rfl, by decide +kernel, by decide +kernel⟩
theorem nd_L_pick : (["_law_cell", "_law_j", "_law_many", "_law_mixed"] : List Str).Nodup := by decide +kernel
theorem ok_L_pick {f : Addr} {fd : FuncData} (F : Fun K "_law_pick" "_law_pick" s_L_pick f fd) (T : Txt K mg C_HoleError C_NoShape C_NoStage C_NoPiece C_Growth)  : FnOk P w K mg base CX0 1 f fd ["_law_cell", "_law_j", "_law_many"] (sp_L_pick K) := by
 refine F.ok sc_L_pick (fun vs H Q E h => ?_) (fun cdv A outer s H vs Q E hr h => ?_)
 · obtain ⟨c, j, m, rfl, hm, k⟩ := h
   rfl
 · obtain ⟨c, j, m, rfl, hm, k⟩ := h
   refine ⟨_, (pss_cons (ps_set (i := 3) nd_L_pick (by rfl) (by first | exact Or.inl rfl | exact Or.inr rfl) (pe_op op_mulX (pe_op op_add (pe_op op_mod (pv 0) pe_int) pe_int) (pe_ix (kix_tup (K := K)) (pe_tup (pa_cons pe_int (pa_cons pe_int (pa_cons pe_int (pa_cons pe_int pa_nil))))) (pe_op op_mod (pv 1) pe_int) (fun _ _ => rfl))))
     (pss_one (ps_ret (pe_op op_mod (pe_op op_mod (pv 3) (pe_ix (kix_tup (K := K)) (pe_tup (pa_cons pe_int (pa_cons pe_int (pa_cons pe_int (pa_cons pe_int pa_nil))))) (pe_op op_mod (pv 1) pe_int) (fun _ _ => rfl))) (pv 2))))), ?_⟩
   have p4 : (0 : Int) < 4 := by decide
   have c0 := Int.emod_nonneg c (show (1000003 : Int) ≠ 0 by decide)
   have c1 := Int.emod_lt_of_pos c (show (0 : Int) < 1000003 by decide)
   have j0 := Int.emod_nonneg j (show (4 : Int) ≠ 0 by decide)
   have j1 := Int.emod_lt_of_pos j p4
   have four : ∀ a b c d : Int, 0 < a → 0 < b → 0 < c → 0 < d → a < 100000 → b < 100000 → c < 100000 → d < 100000 → ∃ x : Int, atI [V.int a, V.int b, V.int c, V.int d] (j % 4) = some (.int x) ∧ 0 < x ∧ x < 100000 := fun a b c d a0 b0 c0 d0 a1 b1 c1 d1 => by
     rcases (show j % 4 = 0 ∨ j % 4 = 1 ∨ j % 4 = 2 ∨ j % 4 = 3 by omega) with e | e | e | e <;> rw [e]
     · exact ⟨a, rfl, a0, a1⟩
     · exact ⟨b, rfl, b0, b1⟩
     · exact ⟨c, rfl, c0, c1⟩
     · exact ⟨d, rfl, d0, d1⟩
   refine tSeq_cut (fun σ' H' => ∃ x : Int, σ' = [some (.int c), some (.int j), some (.int m), some (.int x)] ∧ Same H H') ?_ fun key => ?_
   rotate_left
   · refine ⟨_, rfl, _, _, rfl, rfl, (by show (0 : Int) < 1000003; decide), _, _, rfl, rfl, smallE (by simp), fun T1 hT1 => ?_⟩
     obtain ⟨x, hx, x0, x1⟩ := four 48271 69621 16807 39373 (by decide) (by decide) (by decide) (by decide) (by decide) (by decide) (by decide) (by decide)
     refine ⟨_, rfl, _, _, rfl, rfl, p4, T1, _, _, _, rfl, rfl, .of upd_same, hx, _, _, rfl, rfl, mulokL (by omega) (by omega), ?_⟩
     exact key _ _ ⟨_, rfl, Same.new hT1⟩
   rintro _ H1 ⟨x, rfl, s1⟩
   refine ⟨_, rfl, smallE (by simp), fun T1 hT1 => ?_⟩
   obtain ⟨y, hy, y0, y1⟩ := four 65537 50021 99991 32749 (by decide) (by decide) (by decide) (by decide) (by decide) (by decide) (by decide) (by decide)
   refine ⟨_, rfl, _, _, rfl, rfl, p4, T1, _, _, _, rfl, rfl, .of upd_same, hy, _, _, rfl, rfl, y0, _, rfl, _, _, rfl, rfl, hm, ?_⟩
   exact k _ _ (s1.trans (Same.new hT1)) (Int.emod_nonneg _ (by omega)) (Int.emod_lt_of_pos _ hm)
noncomputable abbrev s_is_whole_below : Stmt := top 3
theorem sc_is_whole_below : FnScope ["thing", "bound"] ["thing", "bound"] (defScope s_is_whole_below) := ⟨rfl, rfl, rfl, by decide +kernel, rfl, by decide +kernel, by decide +kernel⟩
theorem ok_is_whole_below {f : Addr} {fd : FuncData} (F : Fun K "is_whole_below" "is_whole_below" s_is_whole_below f fd) (T : Txt K mg C_HoleError C_NoShape C_NoStage C_NoPiece C_Growth) (h_is_whole : Has P w K mg base "is_whole" ["thing"] 1 (sp_is_whole K)) : FnOk P w K mg base CX0 2 f fd ["thing", "bound"] (sp_is_whole_below K) := by
 refine F.ok sc_is_whole_below (fun vs H Q E h => ?_) (fun cdv A outer s H vs Q E hr h => ?_)
 · obtain ⟨x, d, b, rfl, hx, k⟩ := h
   rfl
 · obtain ⟨x, d, b, rfl, hx, k⟩ := h
   refine ⟨_, (pss_one (ps_ret (pe_and (pe_callH h_is_whole hr (by rfl) (pa_cons (pv 0) pa_nil)) (pe_one (pe_chain op_le op_lt pe_int (pv 0) (pv 1)))))), ?_⟩
   refine ⟨_, rfl, x, d, rfl, hx, _, rfl, ?_⟩
   refine ite2 (fun e => ?_) (fun e => ?_)
   · obtain ⟨i, rfl⟩ := wholeD_int e
     cases (show x = .int i from hx)
     refine ⟨_, rfl, _, _, rfl, rfl, _, rfl, ?_⟩
     refine ite2 (fun e1 => ?_) (fun e1 => ?_)
     · refine ⟨_, rfl, _, _, rfl, rfl, ?_⟩
       have e2 : belowD (.int i) b = decide (i < b) := by show (decide (0 ≤ i) && decide (i < b)) = _; rw [e1]; rfl
       rw [e2] at k
       exact k
     · have e2 : belowD (.int i) b = false := by show (decide (0 ≤ i) && decide (i < b)) = _; simp at e1; simp; omega
       rw [e2] at k
       exact k
   · have e2 : belowD d b = false := by
       cases d <;> first | rfl | (exfalso; exact e rfl)
     rw [e2] at k
     exact k
noncomputable abbrev s_plus : Stmt := top 12
theorem sc_plus : FnScope ["one", "other", "told", "place", "number"] ["one", "other"] (defScope s_plus) := ⟨rfl, rfl, rfl, by decide +kernel, rfl, by decide +kernel, by decide +kernel⟩
theorem nd_plus : (["one", "other", "told", "place", "number"] : List Str).Nodup := by decide +kernel
theorem ok_plus {f : Addr} {fd : FuncData} (F : Fun K "plus" "plus" s_plus f fd) (T : Txt K mg C_HoleError C_NoShape C_NoStage C_NoPiece C_Growth) (h_add_at : Has P w K mg base "add_at" ["chain", "place", "number"] 1 (sp_add_at K)) : FnOk P w K mg base CX0 2 f fd ["one", "other"] (sp_plus K) := by
 refine F.ok sc_plus (fun vs H Q E h => ?_) (fun cdv A outer s H vs Q E hr h => ?_)
 · obtain ⟨a, b, ms, ns, rfl, ha, hb, hm, hn, k⟩ := h
   rfl
 · obtain ⟨a, b, ms, ns, rfl, ha, hb, hm, hn, k⟩ := h
   refine ⟨_, (pss_cons (ps_set (i := 2) nd_plus (by rfl) (by first | exact Or.inl rfl | exact Or.inr rfl) (pe_callTy call_dictC (by rfl) T.n_dict boot_dictT (pa_cons (pv 0) pa_nil)))
     (pss_cons (ps_frz (ps_for PassesOwn.never rfl (pi_items (pv 1)) (kpg_tup (K := K) (n := 2) (by rfl) (pgs_cons (pg_name (i := 3) nd_plus (by rfl) (by first | exact Or.inl rfl | exact Or.inr rfl)) (pgs_cons (pg_name (i := 4) nd_plus (by rfl) (by first | exact Or.inl rfl | exact Or.inr rfl)) pgs_nil))) (pss_one (ps_expr (pe_callH h_add_at hr (by rfl) (pa_cons (pv 2) (pa_cons (pv 3) (pa_cons (pv 4) pa_nil))))))))
     (pss_one (ps_ret (pv 2))))), ?_⟩
   refine ⟨_, rfl, a, cK ms, rfl, ha, fun D hD => ?_⟩
   have nDb : b ≠ D := ne_of_none hb hD
   refine .inr ⟨b, cK ns, (by rw [upd_ne nDb]; exact hb), fun hnd o => ?_⟩
   refine ⟨_, rfl, b, o, cK ns, rfl, upd_same, ?_⟩
   refine for_items (d := b) (o := o) (kvs := cK ns) (fun i σ H1 => ∃ o1 o2, σ = [some (.ref a), some (.ref b), some (.ref D), o1, o2] ∧ H1 b = some (.frz o (.dK (cK ns))) ∧ H1 D = some (.dK (cK (plusI ms (ns.take i)))) ∧ (∀ c q, c ≠ b → c ≠ D → H c = some q → H1 c = some q))
     ⟨none, none, rfl, upd_same, ?_, ?_⟩ (fun i σ H1 _ ⟨_, _, _, e, _⟩ => e) ?_ ?_
   · rw [upd_ne nDb.symm, upd_same]
     rfl
   · intro c q n1 n2 e
     rw [upd_ne n1, upd_ne n2]
     exact e
   · rintro i kk x σ H1 p hx ⟨o1, o2, rfl, hb1, hD1, hk1⟩ hp
     obtain ⟨q, hq, rfl, rfl⟩ := cK_get hx
     have npb : b ≠ p := ne_of_none hb1 hp
     have npD : D ≠ p := ne_of_none hD1 hp
     have hlt : i < ns.length := (List.getElem?_eq_some_iff.mp hq).1
     refine ⟨p, _, rfl, .of upd_same, rfl, _, _, rfl, _, _, rfl, rfl, ?_⟩
     refine ⟨_, rfl, _, rfl, _, rfl, D, plusI ms (ns.take i), q.1, q.2, rfl, (by rw [upd_ne npD]; exact hD1), ?_, ?_⟩
     · have := len_plus (ns.take i) ms
       rw [List.length_take] at this
       omega
     · refine ⟨_, _, rfl, ?_, ?_, fun c r n1 n2 e => ?_⟩
       · rw [upd_ne nDb, upd_ne npb]; exact hb1
       · rw [upd_same, plus_take hq]
       · rw [upd_ne n2, upd_ne (ne_of_none (hk1 c r n1 n2 e) hp)]
         exact hk1 c r n1 n2 e
   · rintro σ H1 ⟨o1, o2, rfl, hb1, hD1, hk1⟩
     rw [cK_len, List.take_length] at hD1
     refine ⟨hb1, _, rfl, k D _ hD (fun c q e => ?_) (by rw [upd_ne nDb.symm]; exact hD1)⟩
     by_cases z : c = b
     · subst z
       rw [hb] at e
       cases e
       exact upd_same
     · rw [upd_ne z]
       exact hk1 c q z (ne_of_none e hD) e
noncomputable abbrev s_add_faces : Stmt := top 25
theorem sc_add_faces : FnScope ["chain", "faces", "number", "i", "face"] ["chain", "faces", "number"] (defScope s_add_faces) := ⟨rfl, rfl, rfl, by decide +kernel, rfl, by decide +kernel, by decide +kernel⟩
theorem nd_add_faces : (["chain", "faces", "number", "i", "face"] : List Str).Nodup := by decide +kernel
theorem ok_add_faces {f : Addr} {fd : FuncData} (F : Fun K "add_faces" "add_faces" s_add_faces f fd) (T : Txt K mg C_HoleError C_NoShape C_NoStage C_NoPiece C_Growth) (h_add_at : Has P w K mg base "add_at" ["chain", "place", "number"] 1 (sp_add_at K)) : FnOk P w K mg base CX0 2 f fd ["chain", "faces", "number"] (sp_add_faces K) := by
 refine F.ok sc_add_faces (fun vs H Q E h => ?_) (fun cdv A outer s H vs Q E hr h => ?_)
 · obtain ⟨a, v, ms, fs, n, rfl, ha, hv, hm, kq⟩ := h
   rfl
 · obtain ⟨a, v, ms, fs, n, rfl, ha, hv, hm, kq⟩ := h
   refine ⟨_, (pss_one (ps_for PassesOwn.never rfl (pi_enumT (K := K) (by rfl) T.n_enumerate (pa_cons (pv 1) pa_nil)) (kpg_tup (K := K) (n := 2) (by rfl) (pgs_cons (pg_name (i := 3) nd_add_faces (by rfl) (by first | exact Or.inl rfl | exact Or.inr rfl)) (pgs_cons (pg_name (i := 4) nd_add_faces (by rfl) (by first | exact Or.inl rfl | exact Or.inr rfl)) pgs_nil))) (pss_one (ps_expr (pe_callH h_add_at hr (by rfl) (pa_cons (pv 0) (pa_cons (pv 4) (pa_cons (pe_ifExp (pt_cmpR op_eq (pe_op op_mod (pv 3) pe_int) pe_int (nomark _)) (pv 2) (pe_un un_neg (pv 2))) pa_nil)))))))), ?_⟩
   obtain ⟨af, rfl, sq⟩ := TI.sq hv
   refine ⟨_, rfl, af, rfl, ⟨_, sq⟩, for_enumT (K := K) (a := af) (xs := fs.map V.int) (fun i σ H1 => ∃ o1 o2, σ = [some (.ref a), some (.ref af), some (.int n), o1, o2] ∧ StayX a H H1 ∧ H1 a = some (.dK (cK (addFN ms fs n i))))
     ⟨none, none, rfl, fun _ _ _ e => e, ha⟩ (fun i σ H1 _ ⟨_, _, _, s1, _⟩ => SqT.x s1 ha sq) ?_ ?_⟩
   · rintro i x σ H1 p hx ⟨o1, o2, rfl, s1, ha1⟩ hp
     have hi : i < fs.length := by have := (List.getElem?_eq_some_iff.mp hx).1; simpa using this
     have hxv : x = .int (fs.getD i 0) := by
       rw [List.getElem?_map, List.getElem?_eq_getElem hi] at hx
       rw [List.getD_eq_getElem?_getD, List.getElem?_eq_getElem hi]
       simpa using hx.symm
     subst hxv
     have sp : Same H1 (upd H1 p (.tup [.int i, .int (fs.getD i 0)])) := Same.new hp
     have ha2 := sp _ _ ha1
     have hl := len_addFN ms fs n i
     refine ⟨p, _, rfl, .of upd_same, rfl, _, _, rfl, _, _, rfl, rfl, ?_⟩
     have fin : ∀ m, m = sgn n i → sp_add_at K [.ref a, .int (fs.getD i 0), .int m] (upd H1 p (.tup [.int i, .int (fs.getD i 0)])) (fun v H' => ∃ o1 o2, ([some (.ref a), some (.ref af), some (.int n), some (.int (i : Int)), some (.int (fs.getD i 0))] : St) = [some (.ref a), some (.ref af), some (.int n), o1, o2] ∧ StayX a H H' ∧ H' a = some (.dK (cK (addFN ms fs n (i + 1))))) E0 := by
       intro m hm2
       subst hm2
       refine ⟨a, addFN ms fs n i, _, _, rfl, ha2, by omega, _, _, rfl, fun c q n1 e => ?_, upd_same⟩
       rw [upd_ne n1]
       exact sp _ _ (s1 c q n1 e)
     refine ⟨_, rfl, _, rfl, _, rfl, _, _, rfl, rfl, (by show (0 : Int) < 2; decide), rfl, _, rfl, ?_⟩
     refine ite2 (fun h1 => ?_) (fun h1 => ?_)
     · have h2 : (i : Int) % 2 = 0 := by simpa using h1
       exact ⟨_, rfl, fin n (by unfold sgn; rw [if_pos h2])⟩
     · have h2 : ¬ (i : Int) % 2 = 0 := by simpa using h1
       exact ⟨_, rfl, _, rfl, fin (-n) (by unfold sgn; rw [if_neg h2])⟩
   · rintro σ H1 ⟨o1, o2, rfl, s1, ha1⟩
     rw [List.length_map] at ha1
     exact kq H1 s1 ha1
noncomputable abbrev s_turned_over : Stmt := top 29
theorem sc_turned_over : FnScope ["number", "prime"] ["number", "prime"] (defScope s_turned_over) := ⟨rfl, rfl, rfl, by decide +kernel, rfl, by decide +kernel, by decide +kernel⟩
theorem ok_turned_over {f : Addr} {fd : FuncData} (F : Fun K "turned_over" "turned_over" s_turned_over f fd) (T : Txt K mg C_HoleError C_NoShape C_NoStage C_NoPiece C_Growth) (h_shared_divisor : Has P w K mg base "shared_divisor" ["one", "other"] 1 (sp_gDiv K)) : FnOk P w K mg base CX0 2 f fd ["number", "prime"] (sp_gOver K) := by
 refine F.ok sc_turned_over (fun vs H Q E h => ?_) (fun cdv A outer s H vs Q E hr h => ?_)
 · obtain ⟨n, p, rfl, hp, hp98, hn, k⟩ := h
   rfl
 · obtain ⟨n, p, rfl, hp, hp98, hn, k⟩ := h
   refine ⟨_, (pss_one (ps_ret (pe_op op_mod (pe_ix (kix_tup (K := K)) (pe_callH h_shared_divisor hr (by rfl) (pa_cons (pv 0) (pa_cons (pv 1) pa_nil))) pe_int (fun _ _ => rfl)) (pv 1)))), ?_⟩
   have hp2 := hp.two
   refine ⟨_, rfl, _, rfl, n, p, rfl, hp, hp98, hn, fun L x y H' s' hL hd => ?_⟩
   refine ⟨L, _, _, _, rfl, rfl, hL, rfl, _, rfl, _, _, rfl, rfl, (by show (0 : Int) < p; omega), ?_⟩
   obtain ⟨q1, q2, q3⟩ := over_mod hp2 hd
   exact k _ H' s' q1 q2 q3
noncomputable abbrev s_L_fits : Stmt := top 38
theorem sc_L_fits : FnScope ["_law_pieces", "_law_thing", "_law_face", "_law_j"] ["_law_pieces", "_law_thing"] (defScope s_L_fits) := ⟨rfl, rfl, rfl, by decide +kernel, rfl, by decide +kernel, by decide +kernel⟩
theorem nd_L_fits : (["_law_pieces", "_law_thing", "_law_face", "_law_j"] : List Str).Nodup := by decide +kernel
theorem ok_L_fits {f : Addr} {fd : FuncData} (F : Fun K "_law_fits" "_law_fits" s_L_fits f fd) (T : Txt K mg C_HoleError C_NoShape C_NoStage C_NoPiece C_Growth) (h_L_level : Has P w K mg base "_law_level" ["_law_piece"] 1 (sp_level_of K)) (h_L_meets : Has P w K mg base "_law_meets" ["_law_pieces", "_law_faces", "_law_face"] 1 (sp_gMeets K)) (h_L_whole : Has P w K mg base "_law_whole" ["_law_found"] 1 (sp_L_whole K)) : FnOk P w K mg base CX0 2 f fd ["_law_pieces", "_law_thing"] (sp_gLFits K) := by
 refine F.ok sc_L_fits (fun vs H Q E h => ?_) (fun cdv A outer s H vs Q E hr h => ?_)
 · obtain ⟨a, th, e, xs, rfl, hL, hCn, hxl, hd, k⟩ := h
   rfl
 · obtain ⟨a, th, e, xs, rfl, hL, hCn, hxl, hd, k⟩ := h
   have hu8 : (A.deeper (PyProof.Rows.envOfC "_law_fits" (defScope s_L_fits) s.heap.objs.size f cdv)).units + 8 < cLine := by have := hr.units; omega
   refine ⟨_, (pss_cons (ps_if (PW.pt (pw_or (pt_not (pt_val (pe_callB (call_isiT (K := K)) (by rfl) T.n_isinstance boot_isinstanceB (pa_cons (pv 1) (pa_cons (pe_bltn (v := .ty "tuple") rfl T.n_tuple boot_tupleT rfl) pa_nil))))) (pw_or1 (pt_cmpR (kop_notInD (K := K) hu8) (pe_callB (kcall_len_seq (K := K)) (by rfl) T.n_len PySem.boot_len (pa_cons (pv 1) pa_nil)) (pe_tup (pa_cons pe_int (pa_cons pe_int (pa_cons pe_int (pa_cons pe_int pa_nil))))) rfl)))) (pss_one (ps_ret pe_bl)) pss_nil)
     (pss_cons (ps_for PassesOwn.never rfl (kpi_tup (K := K) (pv 1)) (pg_name (i := 2) nd_L_fits (by rfl) (by first | exact Or.inl rfl | exact Or.inr rfl)) (pss_cons (ps_if (PW.pt (pw_or (pt_not (pt_val (pe_callH h_L_whole hr (by rfl) (pa_cons (pv 2) pa_nil)))) (pw_or (pt_cmpR op_lt (pv 2) pe_int (nomark _)) (pw_or1 (pt_cmpR op_ge (pv 2) (pe_callB (kcall_len_seq (K := K)) (by rfl) T.n_len PySem.boot_len (pa_cons (pv 0) pa_nil)) (nomark _)))))) (pss_one (ps_ret pe_bl)) pss_nil)
     (pss_one (ps_if (pt_cmpR op_ne (pe_op op_add (pe_callH h_L_level hr (by rfl) (pa_cons (pe_ix (kix_list (K := K)) (pv 0) (pv 2) (fun _ _ => rfl)) pa_nil)) pe_int) (pe_callH h_L_level hr (by rfl) (pa_cons (pv 1) pa_nil)) (nomark _)) (pss_one (ps_ret pe_bl)) pss_nil))))
     (pss_cons (ps_for PassesOwn.never rfl (pi_range1 (by rfl) T.n_range (pa_cons (pe_callB (kcall_len_seq (K := K)) (by rfl) T.n_len PySem.boot_len (pa_cons (pv 1) pa_nil)) pa_nil)) (pg_name (i := 3) nd_L_fits (by rfl) (by first | exact Or.inl rfl | exact Or.inr rfl)) (pss_one (ps_if (pt_not (pt_val (pe_callH h_L_meets hr (by rfl) (pa_cons (pv 0) (pa_cons (pe_slice (ksl_tupW (K := K)) (pv 1) po_none (po_some (pv 3))) (pa_cons (pe_ix (kix_tup (K := K)) (pv 1) (pv 3) (fun _ _ => rfl)) pa_nil)))))) (pss_one (ps_ret pe_bl)) pss_nil)))
     (pss_one (ps_ret pe_bl))))), ?_⟩
   refine ⟨_, rfl, th, "tuple", .one e, rfl, .inr (.inr (.inr (.inl rfl))), hd, _, rfl, ?_⟩
   cases e with
   | nul => exact k H (Same.refl H)
   | d d =>
     have hd : Rep K H th d := hd
     have k : ∀ H', Same H H' → Q (.bl (fitsD xs d)) H' := k
     cases d with
     | non => exact k H (Same.refl H)
     | bl b => exact k H (Same.refl H)
     | int i => exact k H (Same.refl H)
     | str z => exact k H (Same.refl H)
     | lst es => exact k H (Same.refl H)
     | tup ds =>
       obtain ⟨pa, us, rfl, hq0, r0⟩ := id hd
       have ul : us.length = ds.length := r0.length
       refine ifN (by simp [isT, isE, isD]) ?_
       refine ⟨_, rfl, pa, us, rfl, .inr hq0, smallE (by simp), fun C hC => ?_⟩
       have sC : Same H (upd H C (.tup [.int 0, .int 2, .int 3, .int 4])) := Same.new hC
       refine ⟨.int (us.length : Int), nums [0, 2, 3, 4], rfl, .inr ⟨C, _, rfl, .of upd_same, reps_nums.mpr rfl⟩, (by rw [deps_nums]; decide), _, rfl, ?_⟩
       rw [ul]
       have cnt : (!(nums [0, 2, 3, 4]).any fun e => eqD e (.int (ds.length : Int))) = !cntB ds.length := by
         have : (nums [0, 2, 3, 4]).any (fun e => eqD e (.int (ds.length : Int))) = cntB ds.length := by
           simp only [nums, List.map_cons, List.map_nil, List.any_cons, List.any_nil, eqD, cntB]
           rw [Bool.eq_iff_iff]
           simp only [Bool.or_eq_true, beq_iff_eq, Bool.or_false]
           omega
         rw [this]
       have k1 := k _ sC
       by_cases hc : cntB ds.length = true
       rotate_left
       · have hc' : cntB ds.length = false := by simpa using hc
         refine ifP (by rw [if_pos rfl, cnt, hc']; rfl) ?_
         have e2 : fitsD xs (.tup ds) = false := by rw [fitsD_tup]; simp [hc']
         rw [e2] at k1
         exact k1
       refine ifN (by rw [if_pos rfl, cnt, hc]; simp) ?_
       have hn4 : ds.length ≤ 4 := (cntB_le hc).1
       refine ⟨_, rfl, pa, rfl, ⟨_, sC.seqT hq0⟩, for_tup (K := K) (a := pa) (xs := us) (fun i σ H2 => Same H H2 ∧ (∃ o2, σ = [some (.ref a), some (.ref pa), o2, none]) ∧ ((ds.take i).all fun e => placeLev xs e (levI ds.length - 1)) = true)
         ⟨sC, ⟨none, rfl⟩, rfl⟩ (fun i σ H2 _ ⟨s2, _⟩ => s2.seqT hq0) ?_ ?_⟩
       · rintro i x σ H2 hx ⟨s2, ⟨o2, rfl⟩, hall⟩
         have hq : SqT K H2 pa us := s2.seqT hq0
         have r : Reps K H2 us ds := Reps.same s2 r0
         have hL1 : LT K H2 (.ref a) xs := Rep.same s2 hL
         have k1 := k H2 s2
         obtain ⟨xu, hxq, hxl2⟩ := LT.len hL1
         obtain ⟨e, he, re⟩ := r.getV hx
         have hne : 1 ≤ ds.length := by have := (List.getElem?_eq_some_iff.mp he).1; omega
         have hn2 : 2 ≤ ds.length := by have := (cntB_le hc).2; omega
         have bad : placeLev xs e (levI ds.length - 1) = false → fitsD xs (.tup ds) = false := fun z => by
           have : (ds.all fun e => placeLev xs e (levI ds.length - 1)) = false := by
             rw [List.all_eq_false]
             exact ⟨e, List.mem_of_getElem? he, by simp [z]⟩
           rw [fitsD_tup, this]
           simp
         refine ⟨_, rfl, x, e, rfl, re, _, rfl, ?_⟩
         by_cases hw : wholeD e = true
         rotate_left
         · have hw' : wholeD e = false := by simpa using hw
           refine ifP (by rw [hw']; rfl) ?_
           have e2 := bad (by cases e <;> first | rfl | (exfalso; exact hw rfl))
           rw [e2] at k1
           exact k1
         refine ifN (by rw [hw]; simp) ?_
         obtain ⟨f, rfl⟩ := wholeD_int hw
         cases (show x = .int f from re)
         refine ⟨_, rfl, _, _, rfl, rfl, _, rfl, ?_⟩
         by_cases h0 : 0 ≤ f
         rotate_left
         · refine ifP (by simp; omega) ?_
           have e2 := bad (by show (decide (0 ≤ f) && decide (f < (xs.length : Int)) && decide (levI (xs.getD f.toNat []).length = _)) = false; simp [h0])
           rw [e2] at k1
           exact k1
         refine ifN (by simp; omega) ?_
         refine ⟨_, rfl, _, rfl, a, xu, rfl, .inl hxq, _, _, rfl, rfl, _, rfl, ?_⟩
         rw [hxl2]
         by_cases h1 : f < (xs.length : Int)
         rotate_left
         · refine ifP (by simp; omega) ?_
           have e2 := bad (by show (decide (0 ≤ f) && decide (f < (xs.length : Int)) && decide (levI (xs.getD f.toNat []).length = _)) = false; simp [h1])
           rw [e2] at k1
           exact k1
         refine ifN (by simp; omega) ?_
         obtain ⟨xu', v, hq', hv, tv⟩ := LT.get hL1 h0 h1
         refine ⟨_, rfl, _, rfl, a, xu', f, _, rfl, rfl, hq', hv, v, nums (xs.getD f.toNat []), rfl, .inr tv, _, _, rfl, rfl, _, rfl, .ref pa, ds, rfl, .inr (Rep.same s2 hd), rfl, _, rfl, ?_⟩
         rw [show (nums (xs.getD f.toNat [])).length = (xs.getD f.toNat []).length from List.length_map ..]
         have key : placeLev xs (.int f) (levI ds.length - 1) = decide (levI (xs.getD f.toNat []).length + 1 = levI ds.length) := by
           show (decide (0 ≤ f) && decide (f < (xs.length : Int)) && decide (levI (xs.getD f.toNat []).length = levI ds.length - 1)) = _
           rw [decide_eq_true h0, decide_eq_true h1]
           simp only [Bool.and_self, Bool.true_and]
           exact decide_eq_decide.mpr (by omega)
         by_cases hg : levI (xs.getD f.toNat []).length + 1 = levI ds.length
         rotate_left
         · refine ifP (neI hg) ?_
           have e2 := bad (by rw [key]; exact decide_eq_false hg)
           rw [e2] at k1
           exact k1
         refine ifN (eqI hg) ?_
         refine ⟨s2, ⟨_, rfl⟩, ?_⟩
         rw [List.take_succ, he, List.all_append, hall]
         show (true && (placeLev xs (.int f) (levI ds.length - 1) && true)) = true
         rw [key, decide_eq_true hg]
         rfl
       · rintro σ H1 ⟨s1, ⟨o2, rfl⟩, hall⟩
         have hq : SqT K H1 pa us := s1.seqT hq0
         have hL1 : LT K H1 (.ref a) xs := Rep.same s1 hL
         have hd1 : Rep K H1 (.ref pa) (.tup ds) := Rep.same s1 hd
         have k1 := k H1 s1
         rw [ul, List.take_length] at hall
         have hint := all_nums hall
         have tv : TI K H1 (.ref pa) (ds.map toI) := by
           have := hd1
           rw [hint] at this
           exact this
         generalize hp : ds.map toI = p at hint tv
         have hpn : p.length = ds.length := by rw [← hp, List.length_map]
         have e2 : fitsD xs (.tup ds) = (decide (levI ds.length < 2) || agreeB xs p) := by rw [fitsD_tup]; rw [hall, hc, hp]; rfl
         have hfs : ∀ f ∈ p, 0 ≤ f ∧ f < (xs.length : Int) ∧ levI (xs.getD f.toNat []).length + 1 = levI p.length := by
           intro f hf
           rw [List.all_eq_true] at hall
           have hm : L2.D.int f ∈ ds := by
             rw [hint]
             exact List.mem_map.mpr ⟨f, hf, rfl⟩
           have := hall _ hm
           simp only [placeLev, Bool.and_eq_true, decide_eq_true_eq] at this
           obtain ⟨⟨f0, f1⟩, f2⟩ := this
           exact ⟨f0, f1, by rw [hpn]; omega⟩
         have ma := meets_all hCn hfs
         rw [hpn] at ma
         obtain ⟨pa', ez, sqp⟩ := tv.sq
         cases ez
         have no : ∀ j G, j < ds.length → ¬ meetsB xs (p.take j) (p.getD j 0) = true → Same H G → Q (.bl false) G := fun j G hj hm g => by
           have kG := k G g
           have : fitsD xs (.tup ds) = false := by
             rw [e2, Bool.eq_false_iff]
             exact fun z => hm (ma.mpr z j hj)
           rw [this] at kG
           exact kG
         refine ⟨_, rfl, pa, us, rfl, .inr hq, _, rfl, by omega, by omega, ?_⟩
         rw [ul]
         refine for_range (lo := 0) (n := ((ds.length : Nat) : Int).toNat) (fun j σ H2 => Same H1 H2 ∧ (∃ o2 o3, σ = [some (.ref a), some (.ref pa), o2, o3]) ∧ ∀ j', j' < j → meetsB xs (p.take j') (p.getD j' 0) = true)
           ⟨Same.refl _, ⟨_, none, rfl⟩, fun j' h => absurd h (by omega)⟩ ?_ ?_
         · rintro j σ G hj ⟨g, ⟨o2, o3, rfl⟩, hall2⟩
           have hj' : j < p.length := by omega
           rw [show (0 : Int) + (j : Int) = (j : Int) by omega]
           have hatp : atI (p.map V.int) (j : Int) = some (.int (p.getD j 0)) := by
             have := at_int (sp := p) (x := (j : Int)) (by omega) (by omega)
             rwa [Int.toNat_natCast] at this
           refine ⟨_, rfl, _, rfl, _, rfl, _, rfl, pa, _, rfl, g.seqT sqp, ?_, fun T1 G1 g1 q1 => ?_⟩
           · rw [List.length_map]
             rintro ⟨_, z⟩
             rw [HT.sIx_nat] at z
             omega
           rw [cut_take, ← List.map_take] at q1
           have gg := g.trans g1
           obtain ⟨x0, x1, x2⟩ := hfs _ (getD_mem_of hj')
           have hcx := hCn.at x0 x1
           refine ⟨_, rfl, _, rfl, pa, _, _, _, rfl, rfl, gg.seqT sqp, hatp, a, .ref T1, xs, p.take j, p.getD j 0, rfl, Rep.same gg hL1, TI.mk q1, x0, x1, fun y hy => ⟨(hfs y (List.mem_of_mem_take hy)).1, (hfs y (List.mem_of_mem_take hy)).2.1⟩, by rw [List.length_take]; omega, ?_, ?_⟩
           · rw [levI_eq, levI_eq] at x2
             by_cases hz : (xs.getD (p.getD j 0).toNat []).length = 0
             · exact .inl hz
             · refine .inr ⟨by rw [List.length_take]; omega, fun y hy => ?_⟩
               obtain ⟨y0, y1, y2⟩ := hfs y (List.mem_of_mem_take hy)
               have hcy := hCn.at y0 y1
               rw [levI_eq, levI_eq] at y2
               rw [List.length_take]
               omega
           refine ⟨_, rfl, ?_⟩
           by_cases hm : meetsB xs (p.take j) (p.getD j 0) = true
           · rw [hm]
             refine ifN (by simp) ?_
             refine ⟨gg, ⟨_, _, rfl⟩, fun j' hj2 => ?_⟩
             by_cases z : j' = j
             · subst z; exact hm
             · exact hall2 j' (by omega)
           · refine ifP (by simpa using hm) ?_
             exact no j G1 (by omega) hm (s1.trans gg)
         · rintro σ G ⟨g, ⟨o2, o3, rfl⟩, hall2⟩
           have kG := k G (s1.trans g)
           have : fitsD xs (.tup ds) = true := by
             rw [e2]
             exact ma.mp fun j hj => hall2 j (by omega)
           rw [this] at kG
           exact kG
noncomputable abbrev s_L_side : Stmt := top 40
theorem sc_L_side : FnScope ["_law_pieces", "_law_cell", "_law_points"] ["_law_pieces", "_law_cell"] (defScope s_L_side) := ⟨rfl, rfl, rfl, by decide +kernel, rfl, by decide +kernel, by decide +kernel⟩
theorem nd_L_side : (["_law_pieces", "_law_cell", "_law_points"] : List Str).Nodup := by decide +kernel
theorem ok_L_side {f : Addr} {fd : FuncData} (F : Fun K "_law_side" "_law_side" s_L_side f fd) (T : Txt K mg C_HoleError C_NoShape C_NoStage C_NoPiece C_Growth) (h_L_pick : Has P w K mg base "_law_pick" ["_law_cell", "_law_j", "_law_many"] 1 (sp_L_pick K)) : FnOk P w K mg base CX0 2 f fd ["_law_pieces", "_law_cell"] (sp_L_side K) := by
 refine F.ok sc_L_side (fun vs H Q E h => ?_) (fun cdv A outer s H vs Q E hr h => ?_)
 · obtain ⟨a, xs, c, rfl, hL, hxl, k⟩ := h
   rfl
 · obtain ⟨a, xs, c, rfl, hL, hxl, k⟩ := h
   refine ⟨_, (pss_cons (ps_setC (N' := ["_law_place", "_law_pieces"]) (cap := [none, some 0]) (i := 2) nd_L_side (by rfl) (by first | exact Or.inl rfl | exact Or.inr rfl) (by rfl) (by kernel_rfl) (pi_range1 (by rfl) T.n_range (pa_cons (pe_callB (kcall_len_seq (K := K)) (by rfl) T.n_len PySem.boot_len (pa_cons (pv 0) pa_nil)) pa_nil)) (fun _ _ _ _ => (pg_name (i := 0) ndc_6 (by rfl) (by first | exact Or.inl rfl | exact Or.inr rfl))) (fun _ _ _ _ => (pts_one (pt_cmpR op_eq (pe_callB (kcall_len_seq (K := K)) (by rfl) T.n_len PySem.boot_len (pa_cons (pe_ix (kix_list (K := K)) (pv 1) (pv 0) (fun _ _ => rfl)) pa_nil)) pe_int (nomark _)))) (fun _ _ _ _ => (pv 0)))
     (pss_cons (ps_if (pt_cmpR op_eq (pe_callB (kcall_len_seq (K := K)) (by rfl) T.n_len PySem.boot_len (pa_cons (pv 2) pa_nil)) pe_int (nomark _)) (pss_one (ps_ret (pe_tup pa_nil))) pss_nil)
     (pss_one (ps_ret (pe_tup (pa_cons (pe_ix (kix_list (K := K)) (pv 2) (pe_callH h_L_pick hr (by rfl) (pa_cons (pv 1) (pa_cons pe_int (pa_cons (pe_callB (kcall_len_seq (K := K)) (by rfl) T.n_len PySem.boot_len (pa_cons (pv 2) pa_nil)) pa_nil)))) (fun _ _ => rfl)) (pa_cons (pe_ix (kix_list (K := K)) (pv 2) (pe_callH h_L_pick hr (by rfl) (pa_cons (pv 1) (pa_cons pe_int (pa_cons (pe_callB (kcall_len_seq (K := K)) (by rfl) T.n_len PySem.boot_len (pa_cons (pv 2) pa_nil)) pa_nil)))) (fun _ _ => rfl)) pa_nil))))))), ?_⟩
   obtain ⟨us, hq, ul⟩ := LT.len hL
   refine tSeq_cut (fun σ' H' => ∃ (P : Addr) (ps : List Int), σ' = [some (.ref a), some (.int c), some (.ref P)] ∧ Same H H' ∧ H' P = some (.lst (ps.map V.int))) ?_ fun key => ?_
   rotate_left
   · refine ⟨_, rfl, a, us, rfl, .inl hq, _, rfl, by omega, by omega, fun D hD => ?_⟩
     refine comp_range (fun i ys τ G => Same H G ∧ G D = some (.lst ys) ∧ (∃ ps : List Int, ys = ps.map V.int ∧ ps.length ≤ i) ∧ ∃ o, τ = [o, some (.ref a)])
       ⟨Same.new hD, upd_same, ⟨[], rfl, Nat.le_refl _⟩, none, rfl⟩ ?_ ?_
     · rintro i ys τ G hi ⟨g, hDG, ⟨ps, rfl, hpl⟩, o, rfl⟩
       have hi2 : i < xs.length := by omega
       obtain ⟨u1, v1, hu1, av1, tv1⟩ := LT.get (i := (0 : Int) + (i : Int)) (Rep.same g hL) (by omega) (by omega)
       obtain ⟨b1, rfl, hb1⟩ := tv1.sq
       refine ⟨_, rfl, _, rfl, a, u1, _, _, rfl, rfl, hu1, av1, b1, _, rfl, .inr hb1, rfl, _, rfl, ?_⟩
       refine ite2 (fun h1 => ?_) (fun h1 => ?_)
       · exact ⟨_, rfl, hDG, small (by rw [List.length_map]; omega), g.turn hD, upd_same, ⟨ps ++ [(0 : Int) + (i : Int)], by simp, by simp; omega⟩, _, rfl⟩
       · exact ⟨g, hDG, ⟨ps, rfl, by omega⟩, _, rfl⟩
     · rintro ys τ G ⟨g, hDG, ⟨ps, rfl, hpl⟩, _⟩
       exact key _ _ ⟨D, ps, rfl, g, hDG⟩
   rintro _ H1 ⟨P, ps, rfl, s1, hP⟩
   have pe : (ps.map V.int).length = ps.length := List.length_map ..
   refine ⟨_, rfl, P, _, rfl, .inl (.of hP), rfl, _, rfl, ?_⟩
   rw [pe]
   refine ite2 (fun h1 => ?_) (fun h1 => ?_)
   · refine ⟨Nat.zero_le _, fun T1 hT1 => ?_⟩
     exact k (.ref T1) [] _ (s1.trans (Same.new hT1)) (TI.mk (.of upd_same))
   · have hp : 0 < (ps.length : Int) := by
       have : ¬ ps.length = 0 := fun z => h1 (by rw [z]; rfl)
       omega
     refine ⟨_, rfl, _, rfl, _, rfl, P, _, rfl, .inl (.of hP), _, _, _, rfl, by rw [pe]; exact hp, fun r1 H2 s2 r10 r11 => ?_⟩
     rw [pe] at r11
     refine ⟨P, _, _, _, rfl, rfl, .of (s2 _ _ hP), at_int r10 r11, _, rfl, _, rfl, _, rfl, P, _, rfl, .inl (.of (s2 _ _ hP)), _, _, _, rfl, by rw [pe]; exact hp, fun r2 H3 s3 r20 r21 => ?_⟩
     rw [pe] at r21
     refine ⟨P, _, _, _, rfl, rfl, .of ((s2.trans s3) _ _ hP), at_int r20 r21, smallE (by simp), fun T1 hT1 => ?_⟩
     exact k (.ref T1) [_, _] _ (((s1.trans s2).trans s3).trans (Same.new hT1)) (TI.mk (.of upd_same))
noncomputable abbrev s_L_same : Stmt := top 43
theorem sc_L_same : FnScope ["_law_found", "_law_pieces", "_law_one", "_law_other"] ["_law_found", "_law_pieces"] (defScope s_L_same) := ⟨rfl, rfl, rfl, by decide +kernel, rfl, by decide +kernel, by decide +kernel⟩
theorem nd_L_same : (["_law_found", "_law_pieces", "_law_one", "_law_other"] : List Str).Nodup := by decide +kernel
theorem ok_L_same {f : Addr} {fd : FuncData} (F : Fun K "_law_same" "_law_same" s_L_same f fd) (T : Txt K mg C_HoleError C_NoShape C_NoStage C_NoPiece C_Growth) (h_L_whole : Has P w K mg base "_law_whole" ["_law_found"] 1 (sp_L_whole K)) : FnOk P w K mg base CX0 2 f fd ["_law_found", "_law_pieces"] (sp_gSame K) := by
 refine F.ok sc_L_same (fun vs H Q E h => ?_) (fun cdv A outer s H vs Q E hr h => ?_)
 · obtain ⟨a, b, xs, rfl, hA, hB, hxl, hx4, k⟩ := h
   rfl
 · obtain ⟨a, b, xs, rfl, hA, hB, hxl, hx4, k⟩ := h
   have hu8 : (A.deeper (PyProof.Rows.envOfC "_law_same" (defScope s_L_same) s.heap.objs.size f cdv)).units + 8 < cLine := by have := hr.units; omega
   refine ⟨_, (pss_cons (ps_if (PW.pt (pw_or (pt_not (pt_val (pe_callB (kcall_isinst (K := K)) (by rfl) T.n_isinstance boot_isinstanceB (pa_cons (pv 0) (pa_cons (pe_bltn (v := .ty "list") rfl T.n_list boot_listT rfl) pa_nil))))) (pw_or1 (pt_cmpR op_ne (pe_callB (kcall_len_seq (K := K)) (by rfl) T.n_len PySem.boot_len (pa_cons (pv 0) pa_nil)) (pe_callB (kcall_len_seq (K := K)) (by rfl) T.n_len PySem.boot_len (pa_cons (pv 1) pa_nil)) (nomark _))))) (pss_one (ps_ret pe_bl)) pss_nil)
     (pss_cons (ps_for PassesOwn.never rfl (pi_zip (K := K) (by rfl) T.n_zip (pa_cons (pv 0) (pa_cons (pv 1) pa_nil))) (kpg_tup (K := K) (n := 2) (by rfl) (pgs_cons (pg_name (i := 2) nd_L_same (by rfl) (by first | exact Or.inl rfl | exact Or.inr rfl)) (pgs_cons (pg_name (i := 3) nd_L_same (by rfl) (by first | exact Or.inl rfl | exact Or.inr rfl)) pgs_nil))) (pss_cons (ps_if (PW.pt (pw_or (pt_not (pt_val (pe_callB (kcall_isinst (K := K)) (by rfl) T.n_isinstance boot_isinstanceB (pa_cons (pv 2) (pa_cons (pe_bltn (v := .ty "tuple") rfl T.n_tuple boot_tupleT rfl) pa_nil))))) (pw_or1 (pt_cmpR (kop_neD (K := K) hu8) (pv 2) (pv 3) (nomark _))))) (pss_one (ps_ret pe_bl)) pss_nil)
     (pss_one (ps_if (pt_cmpR op_gt (pe_callB (kcall_len_seq (K := K)) (by rfl) T.n_len PySem.boot_len (pa_cons (pe_comp (N' := ["_law_face"]) (cap := [none]) (by rfl) (by kernel_rfl) (kpi_tup (K := K) (pv 2)) (fun _ _ _ _ => (pg_name (i := 0) ndc_11 (by rfl) (by first | exact Or.inl rfl | exact Or.inr rfl))) (fun _ _ _ _ => (pts_one (pt_not (pt_val (pe_callH h_L_whole hr (by rfl) (pa_cons (pv 0) pa_nil)))))) (fun _ _ _ _ => (pv 0))) pa_nil)) pe_int (nomark _)) (pss_one (ps_ret pe_bl)) pss_nil))))
     (pss_one (ps_ret pe_bl)))), ?_⟩
   obtain ⟨_, us, z, hqa, ra⟩ := id hA
   cases z
   obtain ⟨_, ws, z, hqb, rb⟩ := id hB
   cases z
   have usl : us.length = xs.length := by have := ra.length; simpa using this
   have wsl : ws.length = xs.length := by have := rb.length; simpa using this
   refine ⟨_, rfl, _, _, _, rfl, .inr (.inr (.inr (.inr (.inl rfl)))), hA, _, rfl, ?_⟩
   refine ifN (by simp [isD]) ?_
   refine ⟨_, rfl, a, us, rfl, .inl hqa, _, rfl, b, ws, rfl, .inl hqb, rfl, _, rfl, ?_⟩
   refine ifN (by simp [usl, wsl]) ?_
   refine tSeq_cut (fun σ' H' => σ' = [some (.ref a), some (.ref b), none, none] ∧ H = H') ?_ fun key0 => key0 _ _ ⟨rfl, rfl⟩
   rintro _ _ ⟨rfl, rfl⟩
   refine ⟨_, rfl, _, rfl, a, b, rfl, ⟨_, hqa⟩, ⟨_, hqb⟩, ?_⟩
   refine for_zip (K := K) (a := a) (b := b) (xs := us) (ys := ws) (n := xs.length) (by rw [usl, wsl, Nat.min_self]) (fun i σ G => ∃ o2 o3, σ = [some (.ref a), some (.ref b), o2, o3] ∧ Same H G)
     ⟨none, none, rfl, Same.refl H⟩ (fun i σ G _ ⟨_, _, _, s1⟩ => ⟨s1.seq hqa, s1.seq hqb⟩) ?_ ?_
   · rintro i u w σ G pr hu hw ⟨o2, o3, rfl, s1⟩ hp
     obtain ⟨d, hd, ru⟩ := ra.getV hu
     obtain ⟨d', hd', rw'⟩ := rb.getV hw
     obtain ⟨q, hq, rfl⟩ : ∃ q, xs[i]? = some q ∧ d = tI q := by
       rw [List.getElem?_map] at hd
       cases e : xs[i]? with
       | none => rw [e] at hd; cases hd
       | some q => rw [e] at hd; exact ⟨q, rfl, (Option.some.inj hd).symm⟩
     obtain rfl : tI q = d' := by rw [hd] at hd'; exact Option.some.inj hd'
     have hq4 := hx4 _ (List.mem_of_getElem? hq)
     obtain ⟨au, rfl, squ⟩ := TI.sq ru
     have s2 := s1.trans (Same.new (o := .tup [.ref au, w]) hp)
     refine ⟨pr, _, rfl, .of upd_same, rfl, _, _, rfl, _, _, rfl, rfl, ?_⟩
     generalize upd G pr (.tup [.ref au, w]) = G1 at s2
     refine ⟨_, rfl, _, _, tI q, rfl, .inr (.inr (.inr (.inl rfl))), Rep.same s2 ru, _, rfl, ?_⟩
     refine ifN (by simp [isD, tI]) ?_
     refine ⟨_, rfl, _, rfl, tI q, tI q, Rep.same s2 ru, Rep.same s2 rw', ?_, _, rfl, ?_⟩
     · have := deps_tIs [q]
       simp only [List.map_cons, List.map_nil, deps] at this
       omega
     refine ifN (by rw [eqD_refl]; decide) ?_
     have sqG := s2.seqT squ
     refine ⟨_, rfl, au, rfl, ⟨_, sqG⟩, fun D hD => ?_⟩
     refine comp_tup (K := K) (a := au) (xs := q.map V.int) (fun m zs τ G2 => Same G1 G2 ∧ G2 D = some (.lst zs) ∧ zs = [] ∧ ∃ o, τ = [o])
       ⟨Same.new hD, upd_same, rfl, none, rfl⟩ (fun m zs τ G2 _ ⟨g2, _⟩ => g2.seqT sqG) ?_ ?_
     · rintro m y zs τ G2 hy ⟨g2, hDG, rfl, o, rfl⟩
       have hyv : ∃ n, y = .int n := by
         rw [List.getElem?_map] at hy
         cases e : q[m]? with
         | none => rw [e] at hy; cases hy
         | some n => rw [e] at hy; exact ⟨n, (Option.some.inj hy).symm⟩
       obtain ⟨n, rfl⟩ := hyv
       refine ⟨_, rfl, _, .int n, rfl, rfl, _, rfl, ?_⟩
       refine ifN (by simp [wholeD, isD]) ?_
       exact ⟨g2, hDG, rfl, _, rfl⟩
     · rintro zs τ G2 ⟨g2, hDG, rfl, o, rfl⟩
       refine ⟨D, _, rfl, .inl (.of hDG), _, _, rfl, rfl, _, rfl, ?_⟩
       refine ifN (by simp) ?_
       exact ⟨_, _, rfl, s2.trans g2⟩
   · rintro σ G ⟨o2, o3, rfl, s1⟩
     exact k G s1
noncomputable abbrev s_L_answer : Stmt := top 45
theorem sc_L_answer : FnScope ["_law_pieces", "_law_thing", "_law_found"] ["_law_pieces", "_law_thing", "_law_found"] (defScope s_L_answer) := ⟨rfl, rfl, rfl, by decide +kernel, rfl, by decide +kernel, by decide +kernel⟩
theorem ok_L_answer {f : Addr} {fd : FuncData} (F : Fun K "_law_answer" "_law_answer" s_L_answer f fd) (T : Txt K mg C_HoleError C_NoShape C_NoStage C_NoPiece C_Growth) (h_L_whole : Has P w K mg base "_law_whole" ["_law_found"] 1 (sp_L_whole K)) (h_L_level : Has P w K mg base "_law_level" ["_law_piece"] 1 (sp_level_of K)) : FnOk P w K mg base CX0 2 f fd ["_law_pieces", "_law_thing", "_law_found"] (sp_gAnswer K) := by
 refine F.ok sc_L_answer (fun vs H Q E h => ?_) (fun cdv A outer s H vs Q E hr h => ?_)
 · obtain ⟨a, v, r, xs, q, rfl, hL, hv, hA, k⟩ := h
   rfl
 · obtain ⟨a, v, r, xs, q, rfl, hL, hv, hA, k⟩ := h
   refine ⟨_, (pss_cons (ps_if (pt_cmpR op_isN (pv 2) pe_non (nomark _)) (pss_one (ps_ret pe_bl)) pss_nil)
     (pss_cons (ps_if (PW.pt (pw_or (pt_not (pt_val (pe_callH h_L_whole hr (by rfl) (pa_cons (pv 2) pa_nil)))) (pw_or (pt_cmpR op_lt (pv 2) pe_int (nomark _)) (pw_or1 (pt_cmpR op_ge (pv 2) (pe_callB (kcall_len_seq (K := K)) (by rfl) T.n_len PySem.boot_len (pa_cons (pv 0) pa_nil)) (nomark _)))))) (pss_one (ps_ret pe_bl)) pss_nil)
     (pss_one (ps_ret (pe_and (pe_cmpR op_gt (pe_callB (kcall_len_seq (K := K)) (by rfl) T.n_len PySem.boot_len (pa_cons (pv 1) pa_nil)) pe_int (nomark _)) (pe_one (pe_cmpR op_eq (pe_op op_add (pe_callH h_L_level hr (by rfl) (pa_cons (pe_ix (kix_list (K := K)) (pv 0) (pv 2) (fun _ _ => rfl)) pa_nil)) pe_int) (pe_callH h_L_level hr (by rfl) (pa_cons (pv 1) pa_nil)) (nomark _)))))))), ?_⟩
   obtain ⟨_, us, z, hqa, ra⟩ := id hL
   cases z
   have usl : us.length = xs.length := by have := ra.length; simpa using this
   obtain ⟨av, rfl, sqv⟩ := TI.sq hv
   rcases hA with rfl | ⟨b, rfl, b0, b1, b2⟩
   · refine ⟨_, rfl, rfl, _, rfl, ?_⟩
     refine ifP (by simp) ?_
     exact k
   refine ⟨_, rfl, rfl, _, rfl, ?_⟩
   refine ifN (by simp) ?_
   refine ⟨_, rfl, _, .int b, rfl, rfl, _, rfl, ?_⟩
   refine ifN (by simp [wholeD, isD]) ?_
   refine ⟨_, rfl, _, _, rfl, rfl, _, rfl, ?_⟩
   refine ifN (by simp; omega) ?_
   refine ⟨_, rfl, _, rfl, a, us, rfl, .inl hqa, _, _, rfl, rfl, _, rfl, ?_⟩
   refine ifN (by simp; omega) ?_
   obtain ⟨xu, vx, hxq, hvx, tvx⟩ := LT.get hL b0 b1
   refine ⟨_, rfl, av, _, rfl, .inr sqv, _, _, rfl, rfl, _, rfl, ?_⟩
   have hq : 0 < q.length := by omega
   refine ifP (by simp; omega) ?_
   refine ⟨_, rfl, _, rfl, a, xu, _, _, rfl, rfl, hxq, hvx, vx, nums (xs.getD b.toNat []), rfl, .inr tvx, _, _, rfl, rfl, _, rfl, .ref av, nums q, rfl, .inr hv, rfl, ?_⟩
   rw [show (nums (xs.getD b.toNat [])).length = (xs.getD b.toNat []).length from List.length_map .., show (nums q).length = q.length from List.length_map ..]
   have : levI (xs.getD b.toNat []).length + 1 = levI q.length := by rw [levI_eq, levI_eq]; omega
   show Q (.bl (decide (V.int (levI (xs.getD b.toNat []).length + 1) = V.int (levI q.length)))) H
   rw [this]
   simpa using k
noncomputable abbrev s_is_place_of_level : Stmt := top 9
theorem sc_is_place_of_level : FnScope ["shape", "thing", "level"] ["shape", "thing", "level"] (defScope s_is_place_of_level) := ⟨rfl, rfl, rfl, by decide +kernel, rfl, by decide +kernel, by decide +kernel⟩
theorem ok_is_place_of_level {f : Addr} {fd : FuncData} (F : Fun K "is_place_of_level" "is_place_of_level" s_is_place_of_level f fd) (T : Txt K mg C_HoleError C_NoShape C_NoStage C_NoPiece C_Growth) (h_is_whole_below : Has P w K mg base "is_whole_below" ["thing", "bound"] 2 (sp_is_whole_below K)) (h_level_of : Has P w K mg base "level_of" ["piece"] 1 (sp_level_of K)) : FnOk P w K mg base CX0 3 f fd ["shape", "thing", "level"] (sp_is_place_of_level K) := by
 refine F.ok sc_is_place_of_level (fun vs H Q E h => ?_) (fun cdv A outer s H vs Q E hr h => ?_)
 · obtain ⟨a, x, d, l, xs, rfl, hL, hx, k⟩ := h
   rfl
 · obtain ⟨a, x, d, l, xs, rfl, hL, hx, k⟩ := h
   refine ⟨_, (pss_one (ps_ret (pe_and (pe_callH h_is_whole_below hr (by rfl) (pa_cons (pv 1) (pa_cons (pe_callB (kcall_len_seq (K := K)) (by rfl) T.n_len PySem.boot_len (pa_cons (pv 0) pa_nil)) pa_nil))) (pe_one (pe_cmpR op_eq (pe_callH h_level_of hr (by rfl) (pa_cons (pe_ix (kix_list (K := K)) (pv 0) (pv 1) (fun _ _ => rfl)) pa_nil)) (pv 2) (nomark _)))))), ?_⟩
   obtain ⟨us, hq, hul⟩ := LT.len hL
   refine ⟨_, rfl, _, rfl, a, us, rfl, .inl hq, x, d, _, rfl, hx, _, rfl, ?_⟩
   rw [hul]
   refine ite2 (fun e => ?_) (fun e => ?_)
   · obtain ⟨i, rfl⟩ : ∃ i, d = .int i := by cases d <;> first | exact ⟨_, rfl⟩ | (exfalso; simp [belowD] at e)
     cases (show x = .int i from hx)
     have e' : (decide (0 ≤ i) && decide (i < (xs.length : Int))) = true := e
     have h0 : 0 ≤ i ∧ i < (xs.length : Int) := by simpa using e'
     obtain ⟨us', v, hq', hv, tv⟩ := LT.get hL h0.1 h0.2
     refine ⟨_, rfl, _, rfl, a, us', i, v, rfl, rfl, hq', hv, v, _, rfl, .inr tv, _, rfl, rfl, ?_⟩
     have e2 : placeLev xs (.int i) l = decide (levI (nums (xs.getD i.toNat [])).length = l) := by
       show (decide (0 ≤ i) && decide (i < (xs.length : Int)) && decide (levI (xs.getD i.toNat []).length = l)) = _
       rw [e']
       simp [nums]
     rw [e2] at k
     have e3 : decide (V.int (levI (nums (xs.getD i.toNat [])).length) = V.int l) = decide (levI (nums (xs.getD i.toNat [])).length = l) := by
       by_cases z : levI (nums (xs.getD i.toNat [])).length = l
       · simp [z]
       · simp [z]
     rw [e3]
     exact k
   · have e2 : placeLev xs d l = false := by
       cases d with
       | int i =>
         have e' : ¬ (decide (0 ≤ i) && decide (i < (xs.length : Int))) = true := e
         show (decide (0 ≤ i) && decide (i < (xs.length : Int)) && decide (levI (xs.getD i.toNat []).length = l)) = false
         rw [Bool.eq_false_iff.mpr e']
         rfl
       | _ => rfl
     rw [e2] at k
     exact k
noncomputable abbrev s_is_prime : Stmt := top 28
theorem sc_is_prime : FnScope ["thing"] ["thing"] (defScope s_is_prime) := ⟨rfl, rfl, rfl, by decide +kernel, rfl, by decide +kernel, by decide +kernel⟩
theorem ok_is_prime {f : Addr} {fd : FuncData} (F : Fun K "is_prime" "is_prime" s_is_prime f fd) (T : Txt K mg C_HoleError C_NoShape C_NoStage C_NoPiece C_Growth) (h_is_whole_below : Has P w K mg base "is_whole_below" ["thing", "bound"] 2 (sp_is_whole_below K)) : FnOk P w K mg base CX0 3 f fd ["thing"] (sp_gPrime K) := by
 refine F.ok sc_is_prime (fun vs H Q E h => ?_) (fun cdv A outer s H vs Q E hr h => ?_)
 · obtain ⟨p, rfl, hP, h98, k⟩ := h
   rfl
 · obtain ⟨p, rfl, hP, h98, k⟩ := h
   obtain ⟨t_PRIME_BOUND, c_PRIME_BOUND⟩ := T.x_PRIME_BOUND
   refine ⟨_, (pss_cons (ps_if (PW.pt (pw_or (pt_not (pt_val (pe_callH h_is_whole_below hr (by rfl) (pa_cons (pv 0) (pa_cons (pe_glob (v := .int 98) (by rfl) c_PRIME_BOUND ⟨_, rfl⟩) pa_nil))))) (pw_or1 (pt_cmpR op_lt (pv 0) pe_int (nomark _))))) (pss_one (ps_ret pe_bl)) pss_nil)
     (pss_one (ps_ret (pe_callB (kcall_allB (K := K) (by rfl)) (by rfl) T.n_all boot_allB (pa_cons (pe_comp (N' := ["number", "thing"]) (cap := [none, some 0]) (by rfl) (by kernel_rfl) (pi_range2 (by rfl) T.n_range (pa_cons pe_int (pa_cons (pv 0) pa_nil))) (fun _ _ _ _ => (pg_name (i := 0) ndc_4 (by rfl) (by first | exact Or.inl rfl | exact Or.inr rfl))) (fun _ _ _ _ => pts_nil) (fun _ _ _ _ => (pe_cmpR op_ne (pe_op op_mod (pv 1) (pv 0)) pe_int (nomark _)))) pa_nil))))), ?_⟩
   have h2 := hP.two
   refine ⟨_, rfl, .int p, .int p, 98, rfl, rfl, _, rfl, ?_⟩
   have hb : belowD (.int p) 98 = true := by
     show (decide (0 ≤ p) && decide (p < 98)) = true
     rw [decide_eq_true (by omega), decide_eq_true h98]
     rfl
   rw [hb]
   refine ifN (by simp) ?_
   refine ⟨_, rfl, _, _, rfl, rfl, _, rfl, ?_⟩
   refine ifN (by simp; omega) ?_
   refine ⟨_, rfl, _, _, rfl, ⟨by decide, by decide, by omega, by omega⟩, fun D hD => ?_⟩
   refine comp_range0 (fun j ys τ H1 => j ≤ (p - 2).toNat ∧ Same H H1 ∧ H1 D = some (.lst ys) ∧ (∃ bs : List Bool, ys = bs.map V.bl ∧ bs.length = j ∧ bs.all id = true) ∧ ∃ o, τ = [o, some (.int p)])
     ⟨Nat.zero_le _, Same.new hD, upd_same, ⟨[], rfl, rfl, rfl⟩, none, rfl⟩ ?_ ?_
   · rintro j ys τ H1 hj ⟨_, s1, hD1, ⟨bs, rfl, hbl, hba⟩, o, rfl⟩
     have hj2 : j < (p - 2).toNat := by omega
     refine ⟨_, rfl, _, rfl, _, _, rfl, rfl, (by show (0 : Int) < 2 + (j : Int); omega), rfl, ?_⟩
     refine ⟨hD1, small (by rw [List.length_map]; omega), by omega, s1.turn hD, upd_same, ⟨bs ++ [!decide (V.int (p % (2 + (j : Int))) = V.int 0)], ?_, by simp [hbl], ?_⟩, _, rfl⟩
     · rw [List.map_append]
       rfl
     · rw [List.all_append, hba]
       have := hP.free (2 + (j : Int)) (by omega) (by omega)
       simp [this]
   · rintro ys τ H1 ⟨_, s1, hD1, ⟨bs, rfl, hbl, hba⟩, _⟩
     refine ⟨D, bs, rfl, .of hD1, ?_⟩
     rw [hba]
     exact k _ s1
noncomputable abbrev s_Growth_settled : Stmt := inClass (top 32) 2
theorem sc_Growth_settled : FnScope ["self", "sheet", "edge", "birth", "ender", "by"] ["self", "sheet", "edge"] (defScope s_Growth_settled) := ⟨rfl, rfl, rfl, by decide +kernel, rfl, by decide +kernel, by decide +kernel⟩
theorem nd_Growth_settled : (["self", "sheet", "edge", "birth", "ender", "by"] : List Str).Nodup := by decide +kernel
theorem ok_Growth_settled {f : Addr} {fd : FuncData} (F : Fun K "settled" "Growth.settled" s_Growth_settled f fd) (T : Txt K mg C_HoleError C_NoShape C_NoStage C_NoPiece C_Growth) (h_counted : Has P w K mg base "counted" ["chain", "prime"] 1 (sp_counted K)) (h_turned_over : Has P w K mg base "turned_over" ["number", "prime"] 2 (sp_gOver K)) (h_plus : Has P w K mg base "plus" ["one", "other"] 2 (sp_plus K)) (h_times : Has P w K mg base "times" ["number", "chain"] 1 (sp_times K)) : FnOk P w K mg base CX0 3 f fd ["self", "sheet", "edge"] (spG_settled K C_Growth) := by
 refine F.ok sc_Growth_settled (fun vs H Q E h => ?_) (fun cdv A outer s H vs Q E hr h => ?_)
 · obtain ⟨g, pc, sh, ed, en, sa, ea, p, xs, es, ss, bs, ms, me, l, rfl, x, hs, he, nse, nee, oks, oke, ks, ke, k⟩ := h
   rfl
 · obtain ⟨g, pc, sh, ed, en, sa, ea, p, xs, es, ss, bs, ms, me, l, rfl, x, hs, he, nse, nee, oks, oke, ks, ke, k⟩ := h
   have hu8 : (A.deeper (PyProof.Rows.envOfC "Growth.settled" (defScope s_Growth_settled) s.heap.objs.size f cdv)).units + 8 < cLine := by have := hr.units; omega
   refine ⟨_, (pss_cons (ps_while PassesOwn.never (PW.pt (pw_and (pt_cmpR op_gt (pe_callB call_lenD (by rfl) T.n_len PySem.boot_len (pa_cons (pv 2) pa_nil)) pe_int (nomark _)) (pw_and1 (pt_cmpR (op_inK (u1 hu8)) (pe_callB (call_maxK (by rfl)) (by rfl) T.n_max boot_maxB (pa_cons (pv 2) pa_nil)) (kpe_fld (K := K) (pv 0)) rfl)))) (pss_cons (ps_set (i := 3) nd_Growth_settled (by rfl) (by first | exact Or.inl rfl | exact Or.inr rfl) (pe_callB (call_maxK (by rfl)) (by rfl) T.n_max boot_maxB (pa_cons (pv 2) pa_nil)))
     (pss_cons (ps_set (i := 4) nd_Growth_settled (by rfl) (by first | exact Or.inl rfl | exact Or.inr rfl) (pe_dget (u1 hu8) (kpe_fld (K := K) (pv 0)) (pv 3) (fun _ _ => rfl)))
     (pss_cons (ps_set (i := 5) nd_Growth_settled (by rfl) (by first | exact Or.inl rfl | exact Or.inr rfl) (pe_op op_mulX (pe_un un_neg (pe_dget (u1 hu8) (pv 2) (pv 3) (fun _ _ => rfl))) (pe_callH h_turned_over hr (by rfl) (pa_cons (pe_dget (u1 hu8) (pe_ix (kix_list (K := K)) (kpe_fld (K := K) (pv 0)) (pv 4) (fun _ _ => rfl)) (pv 3) (fun _ _ => rfl)) (pa_cons (kpe_fld (K := K) (pv 0)) pa_nil)))))
     (pss_cons (ps_set (i := 1) nd_Growth_settled (by rfl) (by first | exact Or.inl rfl | exact Or.inr rfl) (pe_callH h_counted hr (by rfl) (pa_cons (pe_callH h_plus hr (by rfl) (pa_cons (pv 1) (pa_cons (pe_callH h_times hr (by rfl) (pa_cons (pv 5) (pa_cons (pe_ix (kix_list (K := K)) (kpe_fld (K := K) (pv 0)) (pv 4) (fun _ _ => rfl)) pa_nil))) pa_nil))) (pa_cons (kpe_fld (K := K) (pv 0)) pa_nil))))
     (pss_one (ps_set (i := 2) nd_Growth_settled (by rfl) (by first | exact Or.inl rfl | exact Or.inr rfl) (pe_callH h_counted hr (by rfl) (pa_cons (pe_callH h_plus hr (by rfl) (pa_cons (pv 2) (pa_cons (pe_callH h_times hr (by rfl) (pa_cons (pv 5) (pa_cons (pe_ix (kix_list (K := K)) (kpe_fld (K := K) (pv 0)) (pv 4) (fun _ _ => rfl)) pa_nil))) pa_nil))) (pa_cons (kpe_fld (K := K) (pv 0)) pa_nil))))))))))
     (pss_one (ps_ret (pe_tup (pa_cons (pv 1) (pa_cons (pv 2) pa_nil)))))), ?_⟩
   obtain ⟨dx, fs, hg, l1, l2, l3, l4, l5, lm⟩ := x.ob
   have hp2 := x.pr.1.two
   have hp98 := x.pr.2
   have n40 := x.gw.n40
   refine tSeq_cut (fun σ' H' => ∃ (s' e' : Addr) (ms' me' : Ms) (o3 o4 o5 : Option V), σ' = [some (.ref g), some (.ref s'), some (.ref e'), o3, o4, o5] ∧ Same H H' ∧ H' s' = some (.dK (cK ms')) ∧ H' e' = some (.dK (cK me')) ∧ s' ≠ en ∧ e' ≠ en ∧ OkM p ms' ∧ OkM p me' ∧ (∀ x ∈ keysI ms', 0 ≤ x ∧ x ≤ (xs.length : Int)) ∧ (∀ x ∈ keysI me', 0 ≤ x ∧ x < (xs.length : Int) ∧ (xs.getD x.toNat []).length - 1 + 1 = l) ∧ (me = [] → me' = []) ∧ (∀ b, Top me' b → lookI bs b = none)) ?_ fun key => ?_
   rotate_left
   · refine ⟨fun m σ' H' => ∃ (s' e' : Addr) (ms' me' : Ms) (o3 o4 o5 : Option V), σ' = [some (.ref g), some (.ref s'), some (.ref e'), o3, o4, o5] ∧ Same H H' ∧ H' s' = some (.dK (cK ms')) ∧ H' e' = some (.dK (cK me')) ∧ s' ≠ en ∧ e' ≠ en ∧ OkM p ms' ∧ OkM p me' ∧ (∀ x ∈ keysI ms', 0 ≤ x ∧ x ≤ (xs.length : Int)) ∧ (∀ x ∈ keysI me', 0 ≤ x ∧ x < (xs.length : Int) ∧ (xs.getD x.toNat []).length - 1 + 1 = l) ∧ (me = [] → me' = []) ∧ ∀ x ∈ keysI me', x < (m : Int), ⟨xs.length, sa, ea, ms, me, none, none, none, rfl, Same.refl H, hs, he, nse, nee, oks, oke, ks, ke, id, fun x hx => (ke x hx).2.1⟩, ?_⟩
     rintro m σ G ⟨s', e', ms', me', o3, o4, o5, rfl, g1, hs', he', ns', ne', ok1, ok2, k1, k2, hem, hlt⟩
     have xg := x.same g1
     have hgG := g1 _ _ hg
     refine ⟨_, rfl, e', cK me', rfl, he', _, _, rfl, rfl, _, rfl, ?_⟩
     by_cases hz : me' = []
     · subst hz
       refine ite2 (fun h1 => absurd h1 (by simp [cK])) (fun _ => ?_)
       refine ifN (by simp) ?_
       exact key _ _ ⟨s', e', ms', [], o3, o4, o5, rfl, g1, hs', he', ns', ne', ok1, ok2, k1, k2, hem, fun b hb => (Top.no hb).elim⟩
     have hlen : 0 < me'.length := List.length_pos_iff.mpr hz
     refine ifP (by rw [cK_len]; simpa using hlen) ?_
     refine ⟨_, rfl, e', keysI me', cK me', rfl, he', keys_cK me', keys_ne hz, fun b hb1 hb2 => ?_⟩
     have tb : Top me' b := ⟨hb1, hb2⟩
     refine ⟨_, rfl, g, C_Growth, dx, fs, _, rfl, hgG, T.cl_Growth, T.na_Growth_enders, l5, en, cK bs, .inl b, rfl, xg.ens, rfl, _, rfl, ?_⟩
     cases hlk : lookI bs b with
     | none =>
       refine ifN (by rw [cK_val, hlk]; simp) ?_
       exact key _ _ ⟨s', e', ms', me', o3, o4, o5, rfl, g1, hs', he', ns', ne', ok1, ok2, k1, k2, hem, fun b' hb' => by rw [Top.one hb' tb]; exact hlk⟩
     | some en0 =>
       refine ifP (by rw [cK_val, hlk]; rfl) ?_
       obtain ⟨i, mi, rfl, hi, ti⟩ := (x.gw.bls b en0).mp hlk
       have hil : i < xs.length := by rw [← x.gw.le]; exact (List.getElem?_eq_some_iff.mp hi).1
       obtain ⟨oki, kki⟩ := x.gw.eok i mi hi
       obtain ⟨ds, d, hed, hdi, hd, nde⟩ := xg.eds.get hi
       obtain ⟨si, hsi⟩ : ∃ si, ss[i]? = some si := ⟨_, List.getElem?_eq_getElem (by rw [x.gw.ls]; exact hil)⟩
       obtain ⟨okS, kS⟩ := x.gw.sok i si hsi
       obtain ⟨cs, c, hsh, hci, hc, nc⟩ := xg.shs.get hsi
       obtain ⟨q1, q2, q3⟩ := tb.look ok2
       obtain ⟨r1, r2, r3⟩ := ti.look oki
       have hatd : atI (ds.map V.ref) (i : Int) = some (.ref d) := atI_nat (by rw [List.getElem?_map, hdi]; rfl)
       have hatc : atI (cs.map V.ref) (i : Int) = some (.ref c) := atI_nat (by rw [List.getElem?_map, hci]; rfl)
       have kS40 : ∀ x ∈ keysI si, 0 ≤ x ∧ x ≤ 40 := fun x hx => by have := kS x hx; omega
       have kI40 : ∀ x ∈ keysI mi, 0 ≤ x ∧ x ≤ 40 := fun x hx => by have := kki x hx; omega
       have k140 : ∀ x ∈ keysI ms', 0 ≤ x ∧ x ≤ 40 := fun x hx => by have := k1 x hx; omega
       have k240 : ∀ x ∈ keysI me', 0 ≤ x ∧ x ≤ 40 := fun x hx => by have := k2 x hx; omega
       refine ⟨fun σ' H' => ∃ (s' e' : Addr) (ms' me' : Ms) (o3 o4 o5 : Option V), σ' = [some (.ref g), some (.ref s'), some (.ref e'), o3, o4, o5] ∧ Same H H' ∧ H' s' = some (.dK (cK ms')) ∧ H' e' = some (.dK (cK me')) ∧ s' ≠ en ∧ e' ≠ en ∧ OkM p ms' ∧ OkM p me' ∧ (∀ x ∈ keysI ms', 0 ≤ x ∧ x ≤ (xs.length : Int)) ∧ (∀ x ∈ keysI me', 0 ≤ x ∧ x < (xs.length : Int) ∧ (xs.getD x.toNat []).length - 1 + 1 = l) ∧ (me = [] → me' = []) ∧ ∀ x ∈ keysI me', x < b, ?_, ?_⟩
       · rintro σ' G' ⟨s2, e2, ms2, me2, p3, p4, p5, rfl, t1, t2, t3, t4, t5, t6, t7, t8, t9, t10, t11⟩
         have b1 := hlt b tb.mem
         have b0 := (k2 b tb.mem).1
         exact ⟨b.toNat, by omega, s2, e2, ms2, me2, p3, p4, p5, rfl, t1, t2, t3, t4, t5, t6, t7, t8, t9, t10, fun x hx => by have := t11 x hx; omega⟩
       refine ⟨_, rfl, e', keysI me', cK me', rfl, he', keys_cK me', keys_ne hz, fun b' hb1' hb2' => ?_⟩
       obtain rfl : b' = b := Top.one ⟨hb1', hb2'⟩ tb
       refine ⟨_, rfl, g, C_Growth, dx, fs, _, rfl, hgG, T.cl_Growth, T.na_Growth_enders, l5, _, rfl, en, .int (i : Int), rfl, dget_at (.inl xg.ens) hlk, ?_⟩
       refine ⟨_, rfl, _, rfl, e', .int (getI me' b'), rfl, dget_at (.inl he') q1, _, rfl, ?_⟩
       refine ⟨_, rfl, g, C_Growth, dx, fs, _, rfl, hgG, T.cl_Growth, T.na_Growth_edges, l4, _, rfl, ed, _, _, .ref d, rfl, rfl, .of hed, hatd, _, rfl, d, .int (getI mi b'), rfl, dget_at (.inl hd) r1, _, rfl, g, C_Growth, dx, fs, _, rfl, hgG, T.cl_Growth, T.na_Growth_prime, l1, getI mi b', p, rfl, x.pr.1, x.pr.2, ndvd r2 r3, fun f G1 g2 f0 f1 hdv => ?_⟩
       refine ⟨_, _, rfl, rfl, mulokL (by omega) (by omega), ?_⟩
       have hn : -(10000 : Int) < -(getI me' b') * f ∧ -(getI me' b') * f ≤ 0 := small_by q2 q3 f0 f1 hp98
       have ss1 := settle_step (by omega) ok2 oki tb ti hdv
       have ss2 := comb_keys (p := p) (n := -(getI me' b') * f) (by omega) ok1 okS
       generalize hnn : -(getI me' b') * f = n at hn ss1 ss2
       have hsG := g2 _ _ hs'
       have hcG := g2 _ _ hc
       refine ⟨_, rfl, _, rfl, _, rfl, g, C_Growth, dx, fs, _, rfl, g2 _ _ hgG, T.cl_Growth, T.na_Growth_sheets, l3, _, rfl, sh, _, _, _, rfl, rfl, .of (g2 _ _ hsh), hatc, n, c, si, (by rw [← hnn] <;> rfl), g2 _ _ hc, ?_, fun q hq => mulokL (by omega) (by omega), fun TC1 GTC1 hTC1 gTC1 eTC1 => ?_⟩
       · have := keys_len okS.nd kS40
         omega
       have ltC1 : (timesI n si).length ≤ 41 := Nat.le_trans (times_len ..) (keys_len okS.nd kS40)
       have lbC1 : ms'.length ≤ 41 := keys_len ok1.nd k140
       have lpC1 := len_plus (timesI n si) ms'
       have ntC1 : nd (timesI n si) := times_nd okS.nd
       obtain ⟨npC1, _, _, _⟩ := plus_ok (timesI n si) ms' ok1.nd ok1.nz ntC1
       refine ⟨s', TC1, ms', timesI n si, rfl, .inl (gTC1 _ _ (g2 _ _ hs')), eTC1, by omega, by omega, fun PC1 GPC1 hPC1 gPC1 ePC1 => ?_⟩
       have gC1 := (g2.trans gTC1).trans gPC1
       refine ⟨_, rfl, g, C_Growth, dx, fs, _, rfl, gC1 _ _ hgG, T.cl_Growth, T.na_Growth_prime, l1, PC1, _, p, rfl, ePC1, by omega, npC1, by omega, fun C1 GC1 hC1 ggC1 eC1 => ?_⟩
       have g3 := gC1.trans ggC1
       refine ⟨_, rfl, _, rfl, _, rfl, g, C_Growth, dx, fs, _, rfl, g3 _ _ hgG, T.cl_Growth, T.na_Growth_edges, l4, _, rfl, ed, _, _, _, rfl, rfl, .of (g3 _ _ hed), hatd, n, d, mi, (by rw [← hnn] <;> rfl), g3 _ _ hd, ?_, fun q hq => mulokL (by omega) (by omega), fun TC2 GTC2 hTC2 gTC2 eTC2 => ?_⟩
       · have := keys_len oki.nd kI40
         omega
       have ltC2 : (timesI n mi).length ≤ 41 := Nat.le_trans (times_len ..) (keys_len oki.nd kI40)
       have lbC2 : me'.length ≤ 41 := keys_len ok2.nd k240
       have lpC2 := len_plus (timesI n mi) me'
       have ntC2 : nd (timesI n mi) := times_nd oki.nd
       obtain ⟨npC2, _, _, _⟩ := plus_ok (timesI n mi) me' ok2.nd ok2.nz ntC2
       refine ⟨e', TC2, me', timesI n mi, rfl, .inl (gTC2 _ _ (g3 _ _ he')), eTC2, by omega, by omega, fun PC2 GPC2 hPC2 gPC2 ePC2 => ?_⟩
       have gC2 := (g3.trans gTC2).trans gPC2
       refine ⟨_, rfl, g, C_Growth, dx, fs, _, rfl, gC2 _ _ hgG, T.cl_Growth, T.na_Growth_prime, l1, PC2, _, p, rfl, ePC2, by omega, npC2, by omega, fun C2 GC2 hC2 ggC2 eC2 => ?_⟩
       have g4 := gC2.trans ggC2
       have en1 := gC1 _ _ xg.ens
       have en2 := gC2 _ _ xg.ens
       have gg1 := ((gTC2.trans gPC2).trans ggC2)
       refine ⟨C1, C2, _, _, _, _, _, rfl, g1.trans g4, gg1 _ _ eC1, eC2, (ne_of_none en1 hC1).symm, (ne_of_none en2 hC2).symm, ss2.1, ss1.1, fun y hy => ?_, fun y hy => ?_, fun z => absurd (hem z) hz, fun y hy => (ss1.2 y hy).1⟩
       · rcases ss2.2 y hy with z | z
         · exact k1 y z
         · have := kS y z
           omega
       · rcases (ss1.2 y hy).2 with z | z
         · exact k2 y z
         · obtain ⟨u1, u2, u3⟩ := kki y z
           obtain ⟨v1, v2, v3⟩ := kki b' ti.mem
           obtain ⟨w1, w2, w3⟩ := k2 b' tb.mem
           exact ⟨u1, by omega, by omega⟩
   rintro _ G ⟨s', e', ms', me', o3, o4, o5, rfl, g1, hs', he', ns', ne', ok1, ok2, k1, k2, hem, hno⟩
   refine ⟨_, rfl, _, rfl, smallE (by simp), fun t ht => ?_⟩
   have st : Same G (upd G t (.tup [.ref s', .ref e'])) := Same.new ht
   exact k t s' e' ms' me' _ (g1.trans st) upd_same (st _ _ hs') (st _ _ he') ns' ne' ok1 ok2 k1 k2 hno hem
noncomputable abbrev s_L_next : Stmt := top 41
theorem sc_L_next : FnScope ["_law_pieces", "_law_cell", "_law_level_here", "_law_faces", "_law_j", "_law_meet"] ["_law_pieces", "_law_cell"] (defScope s_L_next) := ⟨rfl, rfl, rfl, by decide +kernel, rfl, by decide +kernel, by decide +kernel⟩
theorem nd_L_next : (["_law_pieces", "_law_cell", "_law_level_here", "_law_faces", "_law_j", "_law_meet"] : List Str).Nodup := by decide +kernel
theorem ok_L_next {f : Addr} {fd : FuncData} (F : Fun K "_law_next" "_law_next" s_L_next f fd) (T : Txt K mg C_HoleError C_NoShape C_NoStage C_NoPiece C_Growth) (h_L_side : Has P w K mg base "_law_side" ["_law_pieces", "_law_cell"] 2 (sp_L_side K)) (h_L_meets : Has P w K mg base "_law_meets" ["_law_pieces", "_law_faces", "_law_face"] 1 (sp_gMeets K)) (h_L_pick : Has P w K mg base "_law_pick" ["_law_cell", "_law_j", "_law_many"] 1 (sp_L_pick K)) (h_L_level : Has P w K mg base "_law_level" ["_law_piece"] 1 (sp_level_of K)) : FnOk P w K mg base CX0 3 f fd ["_law_pieces", "_law_cell"] (sp_L_next K) := by
 refine F.ok sc_L_next (fun vs H Q E h => ?_) (fun cdv A outer s H vs Q E hr h => ?_)
 · obtain ⟨a, xs, c, rfl, hL, hC, hxl, k⟩ := h
   rfl
 · obtain ⟨a, xs, c, rfl, hL, hC, hxl, k⟩ := h
   refine ⟨_, (pss_cons (ps_set (i := 2) nd_L_next (by rfl) (by first | exact Or.inl rfl | exact Or.inr rfl) (PEw.h (pe_ixTw (K := K) (paw_ints (ns := [0, 1, 1, 2, 1, 2, 3, 2]) (by kernel_rfl)) (pe_op op_mod (pv 1) pe_int) (fun _ _ => rfl))))
     (pss_cons (ps_set (i := 3) nd_L_next (by rfl) (by first | exact Or.inl rfl | exact Or.inr rfl) (pe_tup pa_nil))
     (pss_cons (ps_if (pt_cmpR op_eq (pv 2) pe_int (nomark _)) (pss_one (ps_ret (pe_tup pa_nil))) pss_nil)
     (pss_cons (ps_for PassesOwn.never rfl (pi_range1 (by rfl) T.n_range (pa_cons (pe_op op_add (pv 2) pe_int) pa_nil)) (pg_name (i := 4) nd_L_next (by rfl) (by first | exact Or.inl rfl | exact Or.inr rfl)) (pss_cons (ps_setC (N' := ["_law_face", "_law_pieces", "_law_level_here"]) (cap := [none, some 0, some 2]) (i := 5) nd_L_next (by rfl) (by first | exact Or.inl rfl | exact Or.inr rfl) (by rfl) (by kernel_rfl) (pi_range1 (by rfl) T.n_range (pa_cons (pe_callB (kcall_len_seq (K := K)) (by rfl) T.n_len PySem.boot_len (pa_cons (pv 0) pa_nil)) pa_nil)) (fun _ _ _ _ => (pg_name (i := 0) ndc_9 (by rfl) (by first | exact Or.inl rfl | exact Or.inr rfl))) (fun _ _ _ _ => (pts_one (pt_cmpR op_eq (pe_op op_add (pe_callH h_L_level hr (by rfl) (pa_cons (pe_ix (kix_list (K := K)) (pv 1) (pv 0) (fun _ _ => rfl)) pa_nil)) pe_int) (pv 2) (nomark _)))) (fun _ _ _ _ => (pv 0)))
     (pss_cons (ps_setC (N' := ["_law_face", "_law_pieces", "_law_faces"]) (cap := [none, some 0, some 3]) (i := 5) nd_L_next (by rfl) (by first | exact Or.inl rfl | exact Or.inr rfl) (by rfl) (by kernel_rfl) (kpi_list (K := K) (pv 5)) (fun _ _ _ _ => (pg_name (i := 0) ndc_8 (by rfl) (by first | exact Or.inl rfl | exact Or.inr rfl))) (fun _ _ _ _ => (pts_one (pt_val (pe_callH h_L_meets hr (by rfl) (pa_cons (pv 1) (pa_cons (pv 2) (pa_cons (pv 0) pa_nil))))))) (fun _ _ _ _ => (pv 0)))
     (pss_cons (ps_if (pt_cmpR op_eq (pe_callB (kcall_len_seq (K := K)) (by rfl) T.n_len PySem.boot_len (pa_cons (pv 5) pa_nil)) pe_int (nomark _)) (pss_cons (ps_if (PW.pt (pw_and (pt_cmpR op_gt (pv 2) pe_int (nomark _)) (pw_and1 (pt_cmpR op_eq (pv 4) (pv 2) (nomark _))))) (pss_one (ps_ret (pe_callTy (kcall_tuple_of (K := K)) (by rfl) T.n_tuple boot_tupleT (pa_cons (pe_comp (N' := ["_law_face", "_law_pieces", "_law_j"]) (cap := [none, some 0, some 4]) (by rfl) (by kernel_rfl) (kpi_tup (K := K) (pv 3)) (fun _ _ _ _ => (pg_name (i := 0) ndc_7 (by rfl) (by first | exact Or.inl rfl | exact Or.inr rfl))) (fun _ _ _ _ => pts_nil) (fun _ _ _ _ => (pe_ix (kix_tup (K := K)) (pe_ix (kix_list (K := K)) (pv 1) (pv 0) (fun _ _ => rfl)) (pe_op op_sub (pv 2) pe_int) (fun _ _ => rfl)))) pa_nil)))) pss_nil)
     (pss_one (ps_ret (pe_callH h_L_side hr (by rfl) (pa_cons (pv 0) (pa_cons (pv 1) pa_nil)))))) pss_nil)
     (pss_one (ps_set (i := 3) nd_L_next (by rfl) (by first | exact Or.inl rfl | exact Or.inr rfl) (pe_op (kop_catW (K := K)) (pv 3) (pe_tup (pa_cons (pe_ix (kix_list (K := K)) (pv 5) (pe_callH h_L_pick hr (by rfl) (pa_cons (pv 1) (pa_cons (pv 4) (pa_cons (pe_callB (kcall_len_seq (K := K)) (by rfl) T.n_len PySem.boot_len (pa_cons (pv 5) pa_nil)) pa_nil)))) (fun _ _ => rfl)) pa_nil)))))))))
     (pss_one (ps_ret (pv 3))))))), ?_⟩
   obtain ⟨us, hq, ul⟩ := LT.len hL
   have p8 : (0 : Int) < 8 := by decide
   have c0 := Int.emod_nonneg c (show (8 : Int) ≠ 0 by decide)
   have c1 := Int.emod_lt_of_pos c p8
   refine tSeq_cut (fun σ' H' => ∃ lh : Int, σ' = [some (.ref a), some (.int c), some (.int lh), none, none, none] ∧ Same H H' ∧ 0 ≤ lh ∧ lh ≤ 3) ?_ fun key => ?_
   rotate_left
   · refine ⟨smallE (by simp), fun T1 hT1 => ?_⟩
     obtain ⟨x, hx, x0, x1⟩ : ∃ x, atI (([0, 1, 1, 2, 1, 2, 3, 2] : List Int).map V.int) (c % 8) = some (.int x) ∧ 0 ≤ x ∧ x ≤ 3 := by
       rcases (show c % 8 = 0 ∨ c % 8 = 1 ∨ c % 8 = 2 ∨ c % 8 = 3 ∨ c % 8 = 4 ∨ c % 8 = 5 ∨ c % 8 = 6 ∨ c % 8 = 7 by omega) with e | e | e | e | e | e | e | e <;> rw [e] <;> exact ⟨_, rfl, by decide, by decide⟩
     refine ⟨_, rfl, _, _, rfl, rfl, p8, T1, _, _, _, rfl, rfl, .of upd_same, hx, ?_⟩
     exact key _ _ ⟨x, rfl, Same.new hT1, x0, x1⟩
   rintro _ H1 ⟨lh, rfl, s1, l0, l3⟩
   refine tSeq_cut (fun σ' H' => ∃ F0 : Addr, σ' = [some (.ref a), some (.int c), some (.int lh), some (.ref F0), none, none] ∧ Same H H' ∧ H' F0 = some (.tup [])) ?_ fun key => ?_
   rotate_left
   · refine ⟨Nat.zero_le _, fun F0 hF0 => ?_⟩
     exact key _ _ ⟨F0, rfl, s1.trans (Same.new hF0), upd_same⟩
   rintro _ H2 ⟨F0, rfl, s2, hF0⟩
   refine tSeq_cut (fun σ' H' => σ' = [some (.ref a), some (.int c), some (.int lh), some (.ref F0), none, none] ∧ H2 = H' ∧ ¬ lh = 0) ?_ fun key => ?_
   rotate_left
   · refine ⟨_, rfl, rfl, _, rfl, ?_⟩
     refine ite2 (fun _ => ?_) (fun h => key _ _ ⟨rfl, rfl, by simpa using h⟩)
     refine ⟨Nat.zero_le _, fun T1 hT1 => ?_⟩
     exact k (.ref T1) [] _ (s2.trans (Same.new hT1)) (TI.mk (.of upd_same))
   rintro _ _ ⟨rfl, rfl, hl0⟩
   refine ⟨_, rfl, _, _, rfl, rfl, _, rfl, by omega, by omega, ?_⟩
   refine for_range (lo := 0) (n := (lh + 1).toNat) (fun j σ G => ∃ (v : V) (fs : List Int) (o4 o5 : Option V), σ = [some (.ref a), some (.int c), some (.int lh), some v, o4, o5] ∧ Same H G ∧ TI K G v fs ∧ fs.length = j ∧ (∀ x ∈ fs, 0 ≤ x ∧ x < (xs.length : Int) ∧ levI (xs.getD x.toNat []).length + 1 = lh))
     ⟨.ref F0, [], none, none, rfl, s2, TI.mk (.of hF0), rfl, fun x hx => by cases hx⟩ ?_ ?_
   · rintro j σ G hj ⟨v, fs, o4, o5, rfl, g, tv, hfl, hfs⟩
     rw [show (0 : Int) + (j : Int) = (j : Int) by omega]
     have hjl : (j : Int) ≤ lh := by omega
     refine tSeq_cut (fun σ' H' => ∃ (M : Addr) (ms : List Int), σ' = [some (.ref a), some (.int c), some (.int lh), some v, some (.int (j : Int)), some (.ref M)] ∧ Same G H' ∧ H' M = some (.lst (ms.map V.int)) ∧ ms.length ≤ 1000 ∧ ∀ x ∈ ms, 0 ≤ x ∧ x < (xs.length : Int) ∧ levI (xs.getD x.toNat []).length + 1 = lh) ?_ fun key => ?_
     rotate_left
     · refine ⟨_, rfl, a, us, rfl, .inl (g.seq hq), _, rfl, by omega, by omega, fun D hD => ?_⟩
       refine comp_range (fun i ys τ G1 => Same G G1 ∧ G1 D = some (.lst ys) ∧ (∃ ms : List Int, ys = ms.map V.int ∧ ms.length ≤ i ∧ ∀ x ∈ ms, 0 ≤ x ∧ x < (xs.length : Int) ∧ levI (xs.getD x.toNat []).length + 1 = lh) ∧ ∃ o, τ = [o, some (.ref a), some (.int lh)])
         ⟨Same.new hD, upd_same, ⟨[], rfl, Nat.le_refl _, fun x hx => (by cases hx)⟩, none, rfl⟩ ?_ ?_
       · rintro i ys τ G1 hi ⟨g1, hDG, ⟨ms, rfl, hml, hms⟩, o, rfl⟩
         rw [show (0 : Int) + (i : Int) = (i : Int) by omega]
         have hi2 : i < xs.length := by omega
         obtain ⟨u1, v1, hu1, av1, tv1⟩ := LT.get (i := (i : Int)) (Rep.same (g.trans g1) hL) (by omega) (by omega)
         refine ⟨_, rfl, _, rfl, a, u1, _, v1, rfl, rfl, hu1, av1, v1, nums _, rfl, .inr tv1, _, _, rfl, rfl, _, rfl, rfl, _, rfl, ?_⟩
         rw [show (nums (xs.getD ((i : Int)).toNat [])).length = (xs.getD ((i : Int)).toNat []).length from List.length_map ..]
         refine ite2 (fun h1 => ?_) (fun h1 => ?_)
         · have e : levI (xs.getD ((i : Int)).toNat []).length + 1 = lh := by
             by_cases z : levI (xs.getD ((i : Int)).toNat []).length + 1 = lh
             · exact z
             · exact absurd h1 (noI z)
           refine ⟨_, rfl, hDG, small (by rw [List.length_map]; omega), g1.turn hD, upd_same, ⟨ms ++ [(i : Int)], by simp, by simp; omega, fun x hx => ?_⟩, _, rfl⟩
           rcases List.mem_append.mp hx with z | z
           · exact hms x z
           · rw [List.mem_singleton] at z
             subst z
             exact ⟨by omega, by omega, e⟩
         · exact ⟨g1, hDG, ⟨ms, rfl, by omega, hms⟩, _, rfl⟩
       · rintro ys τ G1 ⟨g1, hDG, ⟨ms, rfl, hml, hms⟩, _⟩
         exact key _ _ ⟨D, ms, rfl, g1, hDG, by omega, hms⟩
     rintro _ G1 ⟨M1, ms1, rfl, g1, hM1, hml1, hms1⟩
     have tv1 := TI.same g1 tv
     have gg1 := g.trans g1
     refine tSeq_cut (fun σ' H' => ∃ (M : Addr) (ms : List Int), σ' = [some (.ref a), some (.int c), some (.int lh), some v, some (.int (j : Int)), some (.ref M)] ∧ Same G1 H' ∧ H' M = some (.lst (ms.map V.int)) ∧ ms.length ≤ 1000 ∧ ∀ x ∈ ms, 0 ≤ x ∧ x < (xs.length : Int) ∧ levI (xs.getD x.toNat []).length + 1 = lh) ?_ fun key => ?_
     rotate_left
     · refine ⟨_, rfl, M1, rfl, ⟨_, .of hM1⟩, fun D hD => ?_⟩
       refine comp_list (K := K) (a := M1) (xs := ms1.map V.int) (fun i ys τ G2 => Same G1 G2 ∧ G2 D = some (.lst ys) ∧ (∃ ms : List Int, ys = ms.map V.int ∧ ms.length ≤ i ∧ ∀ x ∈ ms, 0 ≤ x ∧ x < (xs.length : Int) ∧ levI (xs.getD x.toNat []).length + 1 = lh) ∧ ∃ o, τ = [o, some (.ref a), some v])
         ⟨Same.new hD, upd_same, ⟨[], rfl, Nat.le_refl _, fun x hx => (by cases hx)⟩, none, rfl⟩ (fun i ys τ G2 _ ⟨g2, _⟩ => .of (g2 _ _ hM1)) ?_ ?_
       · rintro i y ys τ G2 hy ⟨g2, hDG, ⟨ms, rfl, hml, hms⟩, o, rfl⟩
         have hi : i < ms1.length := by have := (List.getElem?_eq_some_iff.mp hy).1; simpa using this
         have hyv : y = .int ms1[i] := by
           rw [List.getElem?_map, List.getElem?_eq_getElem hi] at hy
           simpa using hy.symm
         subst hyv
         obtain ⟨x0, x1, x2⟩ := hms1 _ (List.getElem_mem hi)
         generalize ms1[i] = x at x0 x1 x2
         refine ⟨_, rfl, _, rfl, _, rfl, a, v, xs, fs, x, rfl, Rep.same (gg1.trans g2) hL, TI.same g2 tv1, x0, x1, fun y hy => ⟨(hfs y hy).1, (hfs y hy).2.1⟩, by omega, (by
         have hcx := hC.at x0 x1
         rw [levI_eq] at x2
         by_cases hz : (xs.getD x.toNat []).length = 0
         · exact .inl hz
         · refine .inr ⟨by omega, fun y hy => ?_⟩
           obtain ⟨y0, y1, y2⟩ := hfs y hy
           have hcy := hC.at y0 y1
           rw [levI_eq] at y2
           omega), ?_⟩
         refine ⟨_, rfl, ?_⟩
         refine ite2 (fun h1 => ?_) (fun h1 => ?_)
         · refine ⟨_, rfl, hDG, small (by rw [List.length_map]; omega), g2.turn hD, upd_same, ⟨ms ++ [x], by simp, by simp; omega, fun y hy => ?_⟩, _, rfl⟩
           rcases List.mem_append.mp hy with z | z
           · exact hms y z
           · rw [List.mem_singleton] at z
             subst z
             exact ⟨x0, x1, x2⟩
         · exact ⟨g2, hDG, ⟨ms, rfl, by omega, hms⟩, _, rfl⟩
       · rintro ys τ G2 ⟨g2, hDG, ⟨ms, rfl, hml, hms⟩, _⟩
         rw [List.length_map] at hml
         exact key _ _ ⟨D, ms, rfl, g2, hDG, by omega, hms⟩
     rintro _ G2 ⟨M, ms, rfl, g2, hM, hml, hms⟩
     have gg := gg1.trans g2
     have tv2 := TI.same g2 tv1
     have me : (ms.map V.int).length = ms.length := List.length_map ..
     obtain ⟨af, rfl, sqf⟩ := TI.sq tv2
     refine tSeq_cut (fun σ' H' => σ' = [some (.ref a), some (.int c), some (.int lh), some (.ref af), some (.int (j : Int)), some (.ref M)] ∧ G2 = H' ∧ 0 < (ms.length : Int)) ?_ fun key => ?_
     rotate_left
     · refine ⟨_, rfl, M, _, rfl, .inl (.of hM), rfl, _, rfl, ?_⟩
       rw [me]
       refine ite2 (fun h1 => ?_) (fun h1 => ?_)
       rotate_left
       · have : ¬ ms.length = 0 := fun z => h1 (by rw [z]; rfl)
         exact key _ _ ⟨rfl, rfl, by omega⟩
       refine ⟨_, rfl, _, _, rfl, rfl, _, rfl, ?_⟩
       refine ite2 (fun h2 => ?_) (fun h2 => ?_)
       rotate_left
       · refine ifN (by simp) ?_
         exact ⟨_, rfl, _, rfl, a, xs, c, rfl, Rep.same gg hL, hxl, fun w p H' s' tw => k w p H' (gg.trans s') tw⟩
       refine ⟨_, rfl, _, rfl, rfl, _, rfl, ?_⟩
       refine ite2 (fun h3 => ?_) (fun h3 => ?_)
       rotate_left
       · exact ⟨_, rfl, _, rfl, a, xs, c, rfl, Rep.same gg hL, hxl, fun w p H' s' tw => k w p H' (gg.trans s') tw⟩
       have hlh : 1 < lh := by simpa using h2
       have hje : (j : Int) = lh := by simpa using h3
       refine ⟨_, rfl, af, rfl, ⟨_, sqf⟩, fun D hD => ?_⟩
       refine comp_tup0 (K := K) (a := af) (xs := fs.map V.int) (fun i ys τ G3 => Same G2 G3 ∧ G3 D = some (.lst ys) ∧ (∃ ps : List Int, ys = ps.map V.int ∧ ps.length ≤ i) ∧ ∃ o, τ = [o, some (.ref a), some (.int (j : Int))])
         ⟨Same.new hD, upd_same, ⟨[], rfl, Nat.le_refl _⟩, none, rfl⟩ (fun i ys τ G3 _ ⟨g3, _⟩ => g3.seqT sqf) ?_ ?_
       · rintro i y ys τ G3 hy ⟨g3, hDG, ⟨ps, rfl, hpl⟩, o, rfl⟩
         have hi : i < fs.length := by have := (List.getElem?_eq_some_iff.mp hy).1; simpa using this
         have hyv : y = .int fs[i] := by
           rw [List.getElem?_map, List.getElem?_eq_getElem hi] at hy
           simpa using hy.symm
         subst hyv
         obtain ⟨x0, x1, x2⟩ := hfs _ (List.getElem_mem hi)
         generalize fs[i] = x at x0 x1 x2
         have hcx := hC.at x0 x1
         rw [levI_eq] at x2
         obtain ⟨u1, v1, hu1, av1, tv1'⟩ := LT.get (Rep.same (gg.trans g3) hL) x0 x1
         obtain ⟨b1, rfl, hb1⟩ := tv1'.sq
         refine ⟨_, rfl, _, rfl, a, u1, _, _, rfl, rfl, hu1, av1, _, rfl, _, _, rfl, rfl, b1, _, _, _, rfl, rfl, hb1, at_int (by omega) (by omega), hDG, small (by rw [List.length_map]; omega), g3.turn hD, upd_same, ⟨ps ++ [_], by rw [List.map_append]; rfl, by simp; omega⟩, _, rfl⟩
       · rintro ys τ G3 ⟨g3, hDG, ⟨ps, rfl, hpl⟩, _⟩
         refine ⟨D, _, rfl, .inl ⟨.of hDG, fun T1 hT1 => ?_⟩⟩
         exact k (.ref T1) ps _ ((gg.trans g3).trans (Same.new hT1)) (TI.mk (.of upd_same))
     rintro _ _ ⟨rfl, rfl, hpos⟩
     refine ⟨_, rfl, _, rfl, _, rfl, _, rfl, _, rfl, M, _, rfl, .inl (.of hM), _, _, _, rfl, by rw [me]; exact hpos, fun r G4 g4 r0 r1 => ?_⟩
     rw [me] at r1
     have hmm : ms.getD r.toNat 0 ∈ ms := getD_mem_of (by omega)
     have hmr := hms _ hmm
     refine ⟨M, _, _, _, rfl, rfl, .of (g4 _ _ hM), at_int r0 r1, smallE (by simp), fun pt hpt => ?_⟩
     generalize ms.getD r.toNat 0 = q at hmr
     have s3 : Same G4 (upd G4 pt (.tup [.int q])) := Same.new hpt
     refine ⟨af, pt, _, _, rfl, rfl, (g4.trans s3).seqT sqf, .of upd_same, smallE (by simp; omega), fun p3 H3 s4 q3 => ?_⟩
     refine ⟨.ref p3, fs ++ [q], _, _, rfl, ((gg.trans g4).trans s3).trans s4, TI.mk ?_, by simp [hfl], fun x hx => ?_⟩
     · rw [List.map_append]
       exact q3
     · rcases List.mem_append.mp hx with z | z
       · exact hfs x z
       · rw [List.mem_singleton] at z
         subst z
         exact hmr
   · rintro σ G ⟨v, fs, o4, o5, rfl, g, tv, hfl, hfs⟩
     exact ⟨_, rfl, k v fs G g tv⟩
noncomputable abbrev s_L_taken : Stmt := top 44
theorem sc_L_taken : FnScope ["_law_growth", "_law_pieces", "_law_refused", "_law_found"] ["_law_growth", "_law_pieces"] (defScope s_L_taken) := ⟨rfl, rfl, rfl, by decide +kernel, rfl, by decide +kernel, by decide +kernel⟩
theorem nd_L_taken : (["_law_growth", "_law_pieces", "_law_refused", "_law_found"] : List Str).Nodup := by decide +kernel
theorem ok_L_taken {f : Addr} {fd : FuncData} (F : Fun K "_law_taken" "_law_taken" s_L_taken f fd) (T : Txt K mg C_HoleError C_NoShape C_NoStage C_NoPiece C_Growth) (hmx_Growth_take_back : HasMX P w K mg base C_Growth "take_back" ["self"] 1 (spG_take_back K C_Growth C_NoStage)) (h_L_same : Has P w K mg base "_law_same" ["_law_found", "_law_pieces"] 2 (sp_gSame K)) : FnOk P w K mg base CX0 3 f fd ["_law_growth", "_law_pieces"] (spG_taken K C_Growth) := by
 refine F.ok sc_L_taken (fun vs H Q E h => ?_) (fun cdv A outer s H vs Q E hr h => ?_)
 · obtain ⟨g, pc, sh, ed, en, a, W, p, xs, es, ss, bs, rfl, x, hW, hM, hA, k⟩ := h
   rfl
 · obtain ⟨g, pc, sh, ed, en, a, W, p, xs, es, ss, bs, rfl, x, hW, hM, hA, k⟩ := h
   refine ⟨_, (pss_cons (ps_set (i := 2) nd_L_taken (by rfl) (by first | exact Or.inl rfl | exact Or.inr rfl) pe_bl)
     (pss_cons (ps_set (i := 3) nd_L_taken (by rfl) (by first | exact Or.inl rfl | exact Or.inr rfl) pe_non)
     (pss_cons (ps_try (fun _ _ => (pss_one (ps_set (i := 3) nd_L_taken (by rfl) (by first | exact Or.inl rfl | exact Or.inr rfl) (pe_methX0 flies_tried (pv 0) T.cl_Growth hmx_Growth_take_back hr))))
     (ph_bare (by rfl) T.m_NoStage T.k_NoStage (fun _ => (pss_one (ps_set (i := 2) nd_L_taken (by rfl) (by first | exact Or.inl rfl | exact Or.inr rfl) pe_bl)))
     ph_none))
     (pss_cons (ps_if (PW.pt (pw_and (pt_cmpR op_eq (pe_callB (kcall_len_seq (K := K)) (by rfl) T.n_len PySem.boot_len (pa_cons (pv 1) pa_nil)) pe_int (nomark _)) (pw_and1 (pt_val (pv 2))))) (pss_one (ps_ret (pv 1))) pss_nil)
     (pss_cons (ps_if (PW.pt (pw_or (pt_cmpR op_eq (pe_callB (kcall_len_seq (K := K)) (by rfl) T.n_len PySem.boot_len (pa_cons (pv 1) pa_nil)) pe_int (nomark _)) (pw_or (pt_val (pv 2)) (pw_or1 (pt_not (pt_val (pe_callH h_L_same hr (by rfl) (pa_cons (pe_lst (pa_cons (pv 3) pa_nil)) (pa_cons (pe_slice (ksl_list (K := K)) (pv 1) (po_some (pe_un un_neg pe_int)) po_none) pa_nil))))))))) (pss_one (ps_ret pe_non)) pss_nil)
     (pss_one (ps_ret (pe_slice (ksl_list (K := K)) (pv 1) po_none (po_some (pe_un un_neg pe_int)))))))))), ?_⟩
   obtain ⟨dx, fs, hg, l1, l2, l3, l4, l5, lm⟩ := x.ob
   refine tSeq_go [some (.ref g), some (.ref a), some (.bl false), none] H (fun _ h => h) ?_
   refine tSeq_go [some (.ref g), some (.ref a), some (.bl false), some .non] H (fun _ h => h) ?_
   refine tSeq_cut (fun σ' H' => (σ' = [some (.ref g), some (.ref a), some (.bl true), some .non] ∧ xs = [] ∧ Same H H') ∨ ∃ (v : V) (es' ss' : List Ms) (bs' : Ms) (xs0 : List (List Int)) (q : List Int), σ' = [some (.ref g), some (.ref a), some (.bl false), some v] ∧ xs = xs0 ++ [q] ∧ FrG pc sh ed en H H' ∧ GrowAt K C_Growth H' g pc sh ed en p xs0 es' ss' bs' ∧ TI K H' v q) ?_ fun key => ?_
   rotate_left
   · refine ⟨_, rfl, g, dx, fs, rfl, hg, lm.2.2.1, g, pc, sh, ed, en, p, xs, es, ss, bs, rfl, x, fun hz H1 s1 => ?_, fun xs0 q e v es' ss' bs' H1 fr x1 tv => key _ _ (.inr ⟨v, es', ss', bs', xs0, q, rfl, e, fr, x1, tv⟩)⟩
     refine ⟨C_NoStage, true, rfl, T.s_NoStage_NoStage, ?_⟩
     refine ifP rfl ?_
     exact key _ _ (.inl ⟨rfl, hz, s1⟩)
   rintro σ1 H1 alt
   rcases alt with ⟨rfl, hz, s1⟩ | ⟨v, es', ss', bs', xs0, q, rfl, ex, fr, x1, tv⟩
   · obtain ⟨us, h1, h2⟩ := id hA
     have hul : us.length = 0 := by have := h2.length; rw [hz] at this; simpa using this
     refine ⟨_, rfl, a, us, rfl, .inl (.of (s1 _ _ (hidG_same _ _ h1))), rfl, _, rfl, ?_⟩
     refine ifP (by simp [hul]) ?_
     refine ⟨_, rfl, _, rfl, ?_⟩
     refine ifP rfl ?_
     exact ⟨_, rfl, k a xs es ss bs H1 (FrG.of s1) (x.same s1) (LH.same s1 hA)⟩
   have hq4 : q.length ≤ 4 := by
     have := shape_cnt x.gw.shp q (by rw [ex]; simp)
     omega
   have hA1 := LH.fr x fr hW hA
   have hM1 := x1.mutW fr hM
   subst ex
   obtain ⟨us, h1, h2⟩ := id hA1
   obtain ⟨us0, y, rfl, r0, ty⟩ := reps_last h2
   have hq1 := hidG_same _ _ h1
   have hnz : ¬ (((us0 ++ [y]).length : Nat) : Int) = 0 := by rw [List.length_append]; simp; omega
   refine ⟨_, rfl, a, _, rfl, .inl (.of hq1), rfl, _, rfl, ?_⟩
   refine ifN (by simpa using hnz) ?_
   refine ifN (by decide) ?_
   refine tSeq_cut (fun σ' H' => σ' = [some (.ref g), some (.ref a), some (.bl false), some v] ∧ H1 = H') ?_ fun key0 => key0 _ _ ⟨rfl, rfl⟩
   rintro _ _ ⟨rfl, rfl⟩
   refine ⟨_, rfl, a, _, rfl, .inl (.of hq1), rfl, _, rfl, ?_⟩
   refine ifN (by simpa using hnz) ?_
   refine ⟨_, rfl, _, rfl, ?_⟩
   refine ifN (by decide) ?_
   refine ⟨_, rfl, smallE (by simp), fun m1 hm1 => ?_⟩
   have s1 := Same.new (o := .lst [v]) hm1
   have em1 : upd H1 m1 (.lst [v]) m1 = some (.lst [v]) := upd_same
   generalize upd H1 m1 (.lst [v]) = H2 at s1 em1 ⊢
   refine ⟨_, rfl, _, rfl, _, rfl, a, _, rfl, .of (s1 _ _ hq1), fun m2 hm2 => ?_⟩
   rw [cut_last]
   have s2 := Same.new (o := .lst [y]) hm2
   have em2 : upd H2 m2 (.lst [y]) m2 = some (.lst [y]) := upd_same
   generalize upd H2 m2 (.lst [y]) = H3 at s2 em2 ⊢
   have s3 := s1.trans s2
   refine ⟨m1, m2, [q], rfl, ⟨m1, _, rfl, .of (s2 _ _ em1), ⟨_, _, rfl, Rep.same s3 tv, rfl⟩⟩, ⟨m2, _, rfl, .of em2, ⟨_, _, rfl, Rep.same s3 ty, rfl⟩⟩, by simp, fun z hz => ?_, fun H4 s4' => ⟨_, rfl, ?_⟩⟩
   · have : z = q := by simpa using hz
     rw [this]; exact hq4
   refine ifN (by decide) ?_
   have s4 := s3.trans s4'
   refine ⟨_, rfl, _, rfl, _, rfl, a, _, rfl, .of (s4 _ _ hq1), fun m3 hm3 => ?_⟩
   rw [cut_init]
   have s5 := s4.trans (Same.new (o := .lst us0) hm3)
   exact k m3 xs0 es' ss' bs' _ (fr.trans (FrG.of s5)) (x1.same s5) (LH.new (fun c w => Mut.same s4 (hM1 c w)) hm3 upd_same (Reps.same s5 r0))
noncomputable abbrev s_fits : Stmt := top 8
theorem sc_fits : FnScope ["shape", "thing", "level"] ["shape", "thing"] (defScope s_fits) := ⟨rfl, rfl, rfl, by decide +kernel, rfl, by decide +kernel, by decide +kernel⟩
theorem nd_fits : (["shape", "thing", "level"] : List Str).Nodup := by decide +kernel
theorem ok_fits {f : Addr} {fd : FuncData} (F : Fun K "fits" "fits" s_fits f fd) (T : Txt K mg C_HoleError C_NoShape C_NoStage C_NoPiece C_Growth) (h_level_of : Has P w K mg base "level_of" ["piece"] 1 (sp_level_of K)) (h_faces_agree : Has P w K mg base "faces_agree" ["shape", "faces"] 1 (sp_faces_agree K)) (h_is_place_of_level : Has P w K mg base "is_place_of_level" ["shape", "thing", "level"] 3 (sp_is_place_of_level K)) : FnOk P w K mg base CX0 4 f fd ["shape", "thing"] (sp_gFits K) := by
 refine F.ok sc_fits (fun vs H Q E h => ?_) (fun cdv A outer s H vs Q E hr h => ?_)
 · obtain ⟨a, th, e, xs, rfl, hL, hd, k⟩ := h
   rfl
 · obtain ⟨a, th, e, xs, rfl, hL, hd, k⟩ := h
   obtain ⟨a_FACE_COUNTS, c_FACE_COUNTS, q_FACE_COUNTS⟩ := T.x_FACE_COUNTS
   have hu8 : (A.deeper (PyProof.Rows.envOfC "fits" (defScope s_fits) s.heap.objs.size f cdv)).units + 8 < cLine := by have := hr.units; omega
   refine ⟨_, (pss_cons (ps_if (PW.pt (pw_or (pt_not (pt_val (pe_callB (call_isiT (K := K)) (by rfl) T.n_isinstance boot_isinstanceB (pa_cons (pv 1) (pa_cons (pe_bltn (v := .ty "tuple") rfl T.n_tuple boot_tupleT rfl) pa_nil))))) (pw_or1 (pt_cmpR (kop_notInD (K := K) hu8) (pe_callB (kcall_len_seq (K := K)) (by rfl) T.n_len PySem.boot_len (pa_cons (pv 1) pa_nil)) (pe_glob (v := .ref a_FACE_COUNTS) (by rfl) c_FACE_COUNTS rfl) rfl)))) (pss_one (ps_ret pe_bl)) pss_nil)
     (pss_cons (ps_set (i := 2) nd_fits (by rfl) (by first | exact Or.inl rfl | exact Or.inr rfl) (pe_callH h_level_of hr (by rfl) (pa_cons (pv 1) pa_nil)))
     (pss_cons (ps_if (pt_not (pt_val (pe_callB (kcall_allB (K := K) (by rfl)) (by rfl) T.n_all boot_allB (pa_cons (pe_comp (N' := ["face", "shape", "level"]) (cap := [none, some 0, some 2]) (by rfl) (by kernel_rfl) (kpi_tup (K := K) (pv 1)) (fun _ _ _ _ => (pg_name (i := 0) ndc_2 (by rfl) (by first | exact Or.inl rfl | exact Or.inr rfl))) (fun _ _ _ _ => pts_nil) (fun _ _ _ _ => (pe_callH h_is_place_of_level hr (by rfl) (pa_cons (pv 1) (pa_cons (pv 0) (pa_cons (pe_op op_sub (pv 2) pe_int) pa_nil)))))) pa_nil)))) (pss_one (ps_ret pe_bl)) pss_nil)
     (pss_one (ps_ret (pe_or (pe_cmpR op_lt (pv 2) pe_int (nomark _)) (pe_one (pe_callH h_faces_agree hr (by rfl) (pa_cons (pv 0) (pa_cons (pv 1) pa_nil)))))))))), ?_⟩
   refine ⟨_, rfl, th, "tuple", .one e, rfl, .inr (.inr (.inr (.inl rfl))), hd, _, rfl, ?_⟩
   cases e with
   | nul => exact k H (Same.refl H)
   | d d =>
     have hd : Rep K H th d := hd
     have k : ∀ H', Same H H' → Q (.bl (fitsD xs d)) H' := k
     cases d with
     | non => exact k H (Same.refl H)
     | bl b => exact k H (Same.refl H)
     | int i => exact k H (Same.refl H)
     | str z => exact k H (Same.refl H)
     | lst es => exact k H (Same.refl H)
     | tup ds =>
       obtain ⟨pa, us, rfl, hq, r⟩ := id hd
       have ul : us.length = ds.length := r.length
       refine ifN (by simp [isT, isE, isD]) ?_
       refine ⟨_, rfl, pa, us, rfl, .inr hq, .int (us.length : Int), nums [0, 2, 3, 4], rfl, .inr ⟨_, _, rfl, q_FACE_COUNTS H, reps_nums.mpr rfl⟩, (by rw [deps_nums]; decide), _, rfl, ?_⟩
       rw [ul]
       have cnt : (!(nums [0, 2, 3, 4]).any fun e => eqD e (.int (ds.length : Int))) = !cntB ds.length := by
         have : (nums [0, 2, 3, 4]).any (fun e => eqD e (.int (ds.length : Int))) = cntB ds.length := by
           simp only [nums, List.map_cons, List.map_nil, List.any_cons, List.any_nil, eqD, cntB]
           rw [Bool.eq_iff_iff]
           simp only [Bool.or_eq_true, beq_iff_eq, Bool.or_false]
           omega
         rw [this]
       by_cases hc : cntB ds.length = true
       rotate_left
       · have hc' : cntB ds.length = false := by simpa using hc
         refine ifP (by rw [if_pos rfl, cnt, hc']; rfl) ?_
         have e2 : fitsD xs (.tup ds) = false := by rw [fitsD_tup]; simp [hc']
         rw [e2] at k
         exact k H (Same.refl H)
       refine ifN (by rw [if_pos rfl, cnt, hc]; simp) ?_
       have hn4 : ds.length ≤ 4 := (cntB_le hc).1
       refine ⟨_, rfl, _, ds, rfl, .inr hd, ?_⟩
       refine ⟨_, rfl, pa, rfl, ⟨_, hq⟩, fun D hD => ?_⟩
       refine comp_tup0 (K := K) (a := pa) (xs := us) (fun i ys τ H1 => Same H H1 ∧ H1 D = some (.lst ys) ∧ ys = ((ds.take i).map fun e => V.bl (placeLev xs e (levI ds.length - 1))) ∧ ∃ o, τ = [o, some (.ref a), some (.int (levI ds.length))])
         ⟨Same.new hD, upd_same, rfl, none, rfl⟩ (fun i ys τ H1 _ ⟨s1, _⟩ => s1.seqT hq) ?_ ?_
       · rintro i x ys τ H1 hx ⟨s1, hD1, hys, o, rfl⟩
         have hi : i < us.length := (List.getElem?_eq_some_iff.mp hx).1
         obtain ⟨e, he, re⟩ := r.getV hx
         refine ⟨_, rfl, _, rfl, _, rfl, _, _, rfl, rfl, a, x, e, _, xs, rfl, Rep.same s1 hL, Rep.same s1 re, ?_⟩
         refine ⟨hD1, small (by rw [hys, List.length_map, List.length_take]; omega), s1.turn hD, upd_same, ?_, _, rfl⟩
         rw [List.take_succ, he, List.map_append, hys]
         rfl
       · rintro ys τ H1 ⟨s1, hD1, hys, _⟩
         rw [ul, List.take_length] at hys
         have hys2 : ys = (ds.map fun e => placeLev xs e (levI ds.length - 1)).map V.bl := by rw [hys, List.map_map]; rfl
         rw [hys2] at hD1
         refine ⟨D, _, rfl, .of hD1, _, rfl, ?_⟩
         have eall : (ds.map fun e => placeLev xs e (levI ds.length - 1)).all id = ds.all fun e => placeLev xs e (levI ds.length - 1) := by rw [List.all_map]; rfl
         by_cases ha : (ds.all fun e => placeLev xs e (levI ds.length - 1)) = true
         rotate_left
         · have ha' : (ds.all fun e => placeLev xs e (levI ds.length - 1)) = false := by simpa using ha
           refine ifP (by rw [eall, ha']; rfl) ?_
           have e2 : fitsD xs (.tup ds) = false := by rw [fitsD_tup]; rw [ha', hc]; rfl
           rw [e2] at k
           exact k H1 s1
         refine ifN (by rw [eall, ha]; simp) ?_
         have e2 : fitsD xs (.tup ds) = (decide (levI ds.length < 2) || agreeB xs (ds.map toI)) := by rw [fitsD_tup]; rw [ha, hc]; rfl
         rw [e2] at k
         refine ⟨_, rfl, _, _, rfl, rfl, _, rfl, ?_⟩
         refine ite2 (fun h1 => ?_) (fun h1 => ?_)
         · have h2 : (decide (levI ds.length < 2)) = true := h1
           rw [h2] at k
           exact k H1 s1
         · have h2 : (decide (levI ds.length < 2)) = false := by simpa using h1
           rw [h2] at k
           have hint := all_nums ha
           have tv : TI K H1 (.ref pa) (ds.map toI) := by
             have := Rep.same s1 hd
             rw [hint] at this
             exact this
           refine ⟨_, rfl, _, rfl, a, _, xs, ds.map toI, rfl, Rep.same s1 hL, tv, by simpa using hn4, ?_, k H1 s1⟩
           intro f hf
           rw [List.all_eq_true] at ha
           have hm : L2.D.int f ∈ ds := by
             rw [hint]
             exact List.mem_map.mpr ⟨f, hf, rfl⟩
           have := ha _ hm
           simp only [placeLev, Bool.and_eq_true, decide_eq_true_eq] at this
           obtain ⟨⟨f0, f1⟩, f2⟩ := this
           refine ⟨f0, f1, ?_⟩
           rw [List.length_map]
           rw [levI_eq, levI_eq] at f2
           have h3 : ¬ levI ds.length < 2 := by simpa using h2
           rw [levI_eq] at h3
           omega
noncomputable abbrev s_Growth__init_ : Stmt := inClass (top 32) 0
theorem sc_Growth__init_ : FnScope ["self", "prime"] ["self", "prime"] (defScope s_Growth__init_) := ⟨rfl, rfl, rfl, by decide +kernel, rfl, by decide +kernel, by decide +kernel⟩
theorem ok_Growth__init_ {f : Addr} {fd : FuncData} {ds0 : List Value} (F : FunD K "__init__" "Growth.__init__" s_Growth__init_ f fd ds0) (T : Txt K mg C_HoleError C_NoShape C_NoStage C_NoPiece C_Growth) (h_is_prime : Has P w K mg base "is_prime" ["thing"] 3 (sp_gPrime K)) : FnOk P w K mg base CX0 4 f fd ["self", "prime"] (spG_init K C_Growth) := by
 refine F.ok sc_Growth__init_ (fun vs H Q E h => ?_) (fun cdv A outer s H vs Q E hr h => ?_)
 · obtain ⟨g, dx, p, rfl, hg, hP, h98, k⟩ := h
   rfl
 · obtain ⟨g, dx, p, rfl, hg, hP, h98, k⟩ := h
   refine ⟨_, (pss_cons (ps_if (pt_not (pt_val (pe_callH h_is_prime hr (by rfl) (pa_cons (pv 1) pa_nil)))) (pss_one ps_never) pss_nil)
     (pss_cons (kps_fld (K := K) (pv 0) (pv 1))
     (pss_cons (kps_fld (K := K) (pv 0) (pe_lst pa_nil))
     (pss_cons (kps_fld (K := K) (pv 0) (pe_lst pa_nil))
     (pss_cons (kps_fld (K := K) (pv 0) (pe_lst pa_nil))
     (pss_one (kps_fld (K := K) (pv 0) pe_dnewK))))))), ?_⟩
   refine ⟨_, rfl, p, rfl, hP, h98, fun H0 s0 => ⟨_, rfl, ?_⟩⟩
   refine ifN (by decide) ?_
   refine ⟨_, rfl, _, rfl, g, C_Growth, dx, [], rfl, s0 _ _ hg, T.cl_Growth, T.na_Growth_prime, by decide, ?_⟩
   have sx0 : SameX g H (upd H0 g (.ins C_Growth dx (putF "prime" (.int p) []))) := SameX.upd (SameX.of s0)
   have eg0 : upd H0 g (.ins C_Growth dx (putF "prime" (.int p) [])) g = some (.ins C_Growth dx (putF "prime" (.int p) [])) := upd_same
   generalize upd H0 g (.ins C_Growth dx (putF "prime" (.int p) [])) = H1 at sx0 eg0
   refine ⟨smallE (by simp), fun pc hpc => ?_⟩
   have npc : pc ≠ g := fun z => by rw [z, eg0] at hpc; cases hpc
   obtain ⟨sx1, eg1, epc, pe0, fpc, _⟩ := init_step (o := .lst []) (putF "pieces" (.ref pc) (putF "prime" (.int p) [])) sx0 eg0 hpc
   refine ⟨_, rfl, g, C_Growth, dx, _, rfl, (by rw [upd_ne npc.symm]; exact eg0), T.cl_Growth, T.na_Growth_pieces, Nat.lt_of_le_of_lt (lenF (Nat.le_refl 0)) (by decide), ?_⟩
   generalize upd (upd H1 pc (.lst [])) g (.ins C_Growth dx (putF "pieces" (.ref pc) (putF "prime" (.int p) []))) = H2 at sx1 eg1 epc
   refine ⟨smallE (by simp), fun sh hsh => ?_⟩
   have nsh : sh ≠ g := fun z => by rw [z, eg1] at hsh; cases hsh
   obtain ⟨sx2, eg2, esh, pe1, fsh, _⟩ := init_step (o := .lst []) (putF "sheets" (.ref sh) (putF "pieces" (.ref pc) (putF "prime" (.int p) []))) sx1 eg1 hsh
   refine ⟨_, rfl, g, C_Growth, dx, _, rfl, (by rw [upd_ne nsh.symm]; exact eg1), T.cl_Growth, T.na_Growth_sheets, Nat.lt_of_le_of_lt (lenF (lenF (Nat.le_refl 0))) (by decide), ?_⟩
   have dpcsh : pc ≠ sh := fun z => by rw [← z, epc] at hsh; cases hsh
   replace epc := pe1 _ _ npc epc
   generalize upd (upd H2 sh (.lst [])) g (.ins C_Growth dx (putF "sheets" (.ref sh) (putF "pieces" (.ref pc) (putF "prime" (.int p) [])))) = H3 at sx2 eg2 esh epc
   refine ⟨smallE (by simp), fun ed hed => ?_⟩
   have ned : ed ≠ g := fun z => by rw [z, eg2] at hed; cases hed
   obtain ⟨sx3, eg3, eed, pe2, fed, _⟩ := init_step (o := .lst []) (putF "edges" (.ref ed) (putF "sheets" (.ref sh) (putF "pieces" (.ref pc) (putF "prime" (.int p) [])))) sx2 eg2 hed
   refine ⟨_, rfl, g, C_Growth, dx, _, rfl, (by rw [upd_ne ned.symm]; exact eg2), T.cl_Growth, T.na_Growth_edges, Nat.lt_of_le_of_lt (lenF (lenF (lenF (Nat.le_refl 0)))) (by decide), ?_⟩
   have dpced : pc ≠ ed := fun z => by rw [← z, epc] at hed; cases hed
   have dshed : sh ≠ ed := fun z => by rw [← z, esh] at hed; cases hed
   replace epc := pe2 _ _ npc epc
   replace esh := pe2 _ _ nsh esh
   generalize upd (upd H3 ed (.lst [])) g (.ins C_Growth dx (putF "edges" (.ref ed) (putF "sheets" (.ref sh) (putF "pieces" (.ref pc) (putF "prime" (.int p) []))))) = H4 at sx3 eg3 eed epc esh
   refine fun en hen => ?_
   have nen : en ≠ g := fun z => by rw [z, eg3] at hen; cases hen
   obtain ⟨sx4, eg4, een, pe3, fen, _⟩ := init_step (o := .dK []) (putF "enders" (.ref en) (putF "edges" (.ref ed) (putF "sheets" (.ref sh) (putF "pieces" (.ref pc) (putF "prime" (.int p) []))))) sx3 eg3 hen
   refine ⟨_, rfl, g, C_Growth, dx, _, rfl, (by rw [upd_ne nen.symm]; exact eg3), T.cl_Growth, T.na_Growth_enders, Nat.lt_of_le_of_lt (lenF (lenF (lenF (lenF (Nat.le_refl 0))))) (by decide), ?_⟩
   have dpcen : pc ≠ en := fun z => by rw [← z, epc] at hen; cases hen
   have dshen : sh ≠ en := fun z => by rw [← z, esh] at hen; cases hen
   have deden : ed ≠ en := fun z => by rw [← z, eed] at hen; cases hen
   replace epc := pe3 _ _ npc epc
   replace esh := pe3 _ _ nsh esh
   replace eed := pe3 _ _ ned eed
   generalize upd (upd H4 en (.dK [])) g (.ins C_Growth dx (putF "enders" (.ref en) (putF "edges" (.ref ed) (putF "sheets" (.ref sh) (putF "pieces" (.ref pc) (putF "prime" (.int p) [])))))) = H5 at sx4 eg4 een epc esh eed
   refine k pc sh ed en H5 fpc fsh fed fen sx4 ⟨⟨dx, _, eg4, by refine ⟨?_, ?_, ?_, ?_, ?_, ?_, ?_, ?_, ?_, ?_, ?_, ?_⟩ <;> ((repeat (first | rw [lookup_putF, if_pos rfl] | rw [lookup_putF, if_neg (by decide +kernel)])) <;> first | rfl | assumption)⟩, ⟨[], epc, rfl⟩, ⟨[], eed, rfl, fun i d m e => by simp at e⟩, ⟨[], esh, rfl, fun i d m e => by simp at e⟩, een, ⟨dpcsh, dpced, dshed⟩, Grown.nil p, hP, h98⟩
noncomputable abbrev s_L_thing_by : Stmt := top 42
theorem sc_L_thing_by : FnScope ["_law_pieces", "_law_cell", "_law_size", "_law_odd"] ["_law_pieces", "_law_cell"] (defScope s_L_thing_by) := ⟨rfl, rfl, rfl, by decide +kernel, rfl, by decide +kernel, by decide +kernel⟩
theorem nd_L_thing_by : (["_law_pieces", "_law_cell", "_law_size", "_law_odd"] : List Str).Nodup := by decide +kernel
theorem ok_L_thing_by {f : Addr} {fd : FuncData} (F : Fun K "_law_thing_by" "_law_thing_by" s_L_thing_by f fd) (T : Txt K mg C_HoleError C_NoShape C_NoStage C_NoPiece C_Growth) (h_L_next : Has P w K mg base "_law_next" ["_law_pieces", "_law_cell"] 3 (sp_L_next K)) (h_L_pick : Has P w K mg base "_law_pick" ["_law_cell", "_law_j", "_law_many"] 1 (sp_L_pick K)) : FnOk P w K mg base CX0 4 f fd ["_law_pieces", "_law_cell"] (sp_gThing K) := by
 refine F.ok sc_L_thing_by (fun vs H Q E h => ?_) (fun cdv A outer s H vs Q E hr h => ?_)
 · obtain ⟨a, c, xs, rfl, hL, hC, hxl, k⟩ := h
   rfl
 · obtain ⟨a, c, xs, rfl, hL, hC, hxl, k⟩ := h
   refine ⟨_, (pss_cons (ps_if (pt_cmpR op_lt (pe_op op_mod (pv 1) pe_int) pe_int (nomark _)) (pss_one (ps_ret (pe_callH h_L_next hr (by rfl) (pa_cons (pv 0) (pa_cons (pe_op op_add (pe_op op_fdiv (pv 1) pe_int) (pe_op op_mulX pe_int (pe_callB (kcall_len_seq (K := K)) (by rfl) T.n_len PySem.boot_len (pa_cons (pv 0) pa_nil)))) pa_nil))))) pss_nil)
     (PSsw.h (pssw_setT (i := 3) (ps_if (pt_cmpR op_lt (pe_op op_mod (pv 1) pe_int) pe_int (nomark _)) (pss_cons (ps_set (i := 2) nd_L_thing_by (by rfl) (by first | exact Or.inl rfl | exact Or.inr rfl) (PEw.h (pe_ixTw (K := K) (paw_ints (ns := [0, 1, 2, 2, 3, 3, 4, 5]) (by kernel_rfl)) (pe_op op_mod (pe_op op_fdiv (pv 1) pe_int) pe_int) (fun _ _ => rfl))))
     (pss_one (ps_ret (pe_callTy (kcall_tuple_of (K := K)) (by rfl) T.n_tuple boot_tupleT (pa_cons (pe_comp (N' := ["_law_k", "_law_cell", "_law_pieces"]) (cap := [none, some 1, some 0]) (by rfl) (by kernel_rfl) (pi_range1 (by rfl) T.n_range (pa_cons (pv 2) pa_nil)) (fun _ _ _ _ => (pg_name (i := 0) ndc_10 (by rfl) (by first | exact Or.inl rfl | exact Or.inr rfl))) (fun _ _ _ _ => pts_nil) (fun _ _ _ _ => (pe_op op_sub (pe_callH h_L_pick hr (by rfl) (pa_cons (pe_op op_add (pv 1) (pe_op op_fdiv (pv 0) pe_int)) (pa_cons (pv 0) (pa_cons (pe_op op_add (pe_callB (kcall_len_seq (K := K)) (by rfl) T.n_len PySem.boot_len (pa_cons (pv 2) pa_nil)) pe_int) pa_nil)))) pe_int))) pa_nil))))) pss_nil) nd_L_thing_by (by rfl) (by first | exact Or.inl rfl | exact Or.inr rfl) (paw_cons (pe_lst pa_nil) (paw_cons pe_non (paw_cons pe_str (paw_cons pe_int (paw_cons (pe_tup (pa_cons pe_bl (pa_cons pe_bl pa_nil))) (paw_cons (pe_tup (pa_cons pe_int (pa_cons pe_non pa_nil))) (paw_cons (pe_tup (pa_cons pe_str (pa_cons pe_str pa_nil))) (paw_cons pe_dnewK (paw_cons (pe_lst (pa_cons pe_int (pa_cons pe_int pa_nil))) (paw_cons (pe_tup (pa_cons pe_int pa_nil)) (paw_cons (pe_tup (pa_cons (pe_un un_neg pe_int) (pa_cons pe_int pa_nil))) (paw_cons (pe_tup (pa_cons pe_int (pa_cons (pe_callB (kcall_len_seq (K := K)) (by rfl) T.n_len PySem.boot_len (pa_cons (pv 0) pa_nil)) pa_nil))) paw_nil))))))))))))
     (pss_one (ps_ret (pe_ix (kix_tup (K := K)) (pv 3) (pe_op op_mod (pe_op op_fdiv (pv 1) pe_int) pe_int) (fun _ _ => rfl))))))), ?_⟩
   obtain ⟨us, hq, ul⟩ := LT.len hL
   have p8 : (0 : Int) < 8 := by decide
   refine ⟨_, rfl, _, _, rfl, rfl, p8, _, _, rfl, rfl, _, rfl, ?_⟩
   refine ite2 (fun _ => ?_) (fun _ => ?_)
   · exact ⟨_, rfl, _, rfl, _, _, rfl, rfl, ⟨by decide, by decide⟩, _, rfl, a, us, rfl, .inl hq, _, _, rfl, rfl, mulokL (by decide) (by decide), _, _, rfl, rfl, a, xs, _, rfl, hL, hC, hxl, fun w q H' s' tw => k w (.d (tI q)) H' s' tw⟩
   refine tSeq_cut (fun σ' H' => σ' = [some (.ref a), some (.int c), none, none] ∧ H = H') ?_ fun key0 => key0 _ _ ⟨rfl, rfl⟩
   rintro _ _ ⟨rfl, rfl⟩
   refine ⟨_, rfl, _, _, rfl, rfl, p8, _, _, rfl, rfl, _, rfl, ?_⟩
   refine ite2 (fun _ => ?_) (fun _ => ?_)
   · refine ⟨smallE (by simp), fun T1 hT1 => ?_⟩
     have d0 := Int.emod_nonneg (c / 8) (show (8 : Int) ≠ 0 by decide)
     have d1 := Int.emod_lt_of_pos (c / 8) p8
     obtain ⟨x, hx, x0, x1⟩ : ∃ x, atI (([0, 1, 2, 2, 3, 3, 4, 5] : List Int).map V.int) (c / 8 % 8) = some (.int x) ∧ 0 ≤ x ∧ x ≤ 5 := by
       rcases (show c / 8 % 8 = 0 ∨ c / 8 % 8 = 1 ∨ c / 8 % 8 = 2 ∨ c / 8 % 8 = 3 ∨ c / 8 % 8 = 4 ∨ c / 8 % 8 = 5 ∨ c / 8 % 8 = 6 ∨ c / 8 % 8 = 7 by omega) with e | e | e | e | e | e | e | e <;> rw [e] <;> exact ⟨_, rfl, by decide, by decide⟩
     refine ⟨_, rfl, _, _, rfl, rfl, ⟨by decide, by decide⟩, _, _, rfl, rfl, p8, T1, _, _, _, rfl, rfl, .of upd_same, hx, ?_⟩
     have s1 := Same.new (o := .tup (([0, 1, 2, 2, 3, 3, 4, 5] : List Int).map V.int)) hT1
     generalize upd H T1 _ = H1 at s1 ⊢
     refine ⟨_, rfl, _, rfl, by omega, by omega, fun D hD => ?_⟩
     refine comp_range0 (fun i ys τ G => Same H1 G ∧ G D = some (.lst ys) ∧ (∃ ps : List Int, ys = ps.map V.int ∧ ps.length ≤ i) ∧ i ≤ x.toNat ∧ ∃ o, τ = [o, some (.int c), some (.ref a)])
       ⟨Same.new hD, upd_same, ⟨[], rfl, Nat.le_refl _⟩, Nat.zero_le _, none, rfl⟩ ?_ ?_
     · rintro i ys τ G hi ⟨g, hDG, ⟨ps, rfl, hpl⟩, hix, o, rfl⟩
       refine ⟨_, rfl, _, rfl, _, _, rfl, rfl, ⟨by decide, by decide⟩, _, _, rfl, rfl, _, rfl, _, rfl, a, us, rfl, .inl ((s1.trans g).seq hq), _, _, rfl, rfl, _, _, _, rfl, (by show (0 : Int) < (us.length : Int) + 2; omega), fun r G2 g2 r0 r1 => ?_⟩
       exact ⟨_, _, rfl, rfl, g2 _ _ hDG, small (by rw [List.length_map]; omega), (g.trans g2).turn hD, upd_same, ⟨ps ++ [_], by rw [List.map_append]; rfl, by simp; omega⟩, by omega, _, rfl⟩
     · rintro ys τ G ⟨g, hDG, ⟨ps, rfl, hpl⟩, _⟩
       refine ⟨D, _, rfl, .inl ⟨.of hDG, fun T2 hT2 => ?_⟩⟩
       exact k (.ref T2) (.d (tI ps)) _ ((s1.trans g).trans (Same.new hT2)) (TI.mk (.of upd_same))
   obtain ⟨G0, e0⟩ : ∃ G0, G0 = H := ⟨_, rfl⟩
   rw [← e0] at hq k ⊢
   refine ⟨smallE (by simp), fun a1 h1 => ?_⟩
   have z1 := Same.new (o := .lst []) h1
   have e1 : upd G0 a1 (.lst []) a1 = some (.lst []) := upd_same
   generalize upd G0 a1 (.lst []) = G1 at z1 e1 ⊢
   refine ⟨smallE (by simp), fun a2 h2 => ?_⟩
   have z2 := Same.new (o := .tup [.bl true, .bl false]) h2
   have e2 : upd G1 a2 (.tup [.bl true, .bl false]) a2 = some (.tup [.bl true, .bl false]) := upd_same
   generalize upd G1 a2 (.tup [.bl true, .bl false]) = G2 at z2 e2 ⊢
   refine ⟨smallE (by simp), fun a3 h3 => ?_⟩
   have z3 := Same.new (o := .tup [.int 0, .non]) h3
   have e3 : upd G2 a3 (.tup [.int 0, .non]) a3 = some (.tup [.int 0, .non]) := upd_same
   generalize upd G2 a3 (.tup [.int 0, .non]) = G3 at z3 e3 ⊢
   refine ⟨smallE (by simp), fun a4 h4 => ?_⟩
   have z4 := Same.new (o := .tup [.str "0", .str "0"]) h4
   have e4 : upd G3 a4 (.tup [.str "0", .str "0"]) a4 = some (.tup [.str "0", .str "0"]) := upd_same
   generalize upd G3 a4 (.tup [.str "0", .str "0"]) = G4 at z4 e4 ⊢
   refine fun a5 h5 => ?_
   have z5 := Same.new (o := .dK []) h5
   have e5 : upd G4 a5 (.dK []) a5 = some (.dK []) := upd_same
   generalize upd G4 a5 (.dK []) = G5 at z5 e5 ⊢
   refine ⟨smallE (by simp), fun a6 h6 => ?_⟩
   have z6 := Same.new (o := .lst [.int 0, .int 0]) h6
   have e6 : upd G5 a6 (.lst [.int 0, .int 0]) a6 = some (.lst [.int 0, .int 0]) := upd_same
   generalize upd G5 a6 (.lst [.int 0, .int 0]) = G6 at z6 e6 ⊢
   refine ⟨smallE (by simp), fun a7 h7 => ?_⟩
   have z7 := Same.new (o := .tup [.int 0]) h7
   have e7 : upd G6 a7 (.tup [.int 0]) a7 = some (.tup [.int 0]) := upd_same
   generalize upd G6 a7 (.tup [.int 0]) = G7 at z7 e7 ⊢
   refine ⟨_, rfl, ?_⟩
   refine ⟨smallE (by simp), fun a8 h8 => ?_⟩
   have z8 := Same.new (o := .tup [.int (-1), .int 0]) h8
   have e8 : upd G7 a8 (.tup [.int (-1), .int 0]) a8 = some (.tup [.int (-1), .int 0]) := upd_same
   generalize upd G7 a8 (.tup [.int (-1), .int 0]) = G8 at z8 e8 ⊢
   have w8 := ((((((z1.trans z2).trans z3).trans z4).trans z5).trans z6).trans z7).trans z8
   refine ⟨_, rfl, a, us, rfl, .inl (w8.seq hq), ?_⟩
   refine ⟨smallE (by simp), fun a9 h9 => ?_⟩
   have z9 := Same.new (o := .tup [.int 0, .int (us.length : Int)]) h9
   have e9 : upd G8 a9 (.tup [.int 0, .int (us.length : Int)]) a9 = some (.tup [.int 0, .int (us.length : Int)]) := upd_same
   generalize upd G8 a9 (.tup [.int 0, .int (us.length : Int)]) = G9 at z9 e9 ⊢
   refine ⟨smallE (by simp), fun a10 h10 => ?_⟩
   have z10 := Same.new (o := .tup [.ref a1, .non, .str "p", .int 0, .ref a2, .ref a3, .ref a4, .ref a5, .ref a6, .ref a7, .ref a8, .ref a9]) h10
   have e10 : upd G9 a10 (.tup [.ref a1, .non, .str "p", .int 0, .ref a2, .ref a3, .ref a4, .ref a5, .ref a6, .ref a7, .ref a8, .ref a9]) a10 = some (.tup [.ref a1, .non, .str "p", .int 0, .ref a2, .ref a3, .ref a4, .ref a5, .ref a6, .ref a7, .ref a8, .ref a9]) := upd_same
   generalize upd G9 a10 (.tup [.ref a1, .non, .str "p", .int 0, .ref a2, .ref a3, .ref a4, .ref a5, .ref a6, .ref a7, .ref a8, .ref a9]) = G10 at z10 e10 ⊢
   have w10 := (w8.trans z9).trans z10
   have v9 := z10
   have v8 := z9.trans v9
   have v7 := z8.trans v8
   have v6 := z7.trans v7
   have v5 := z6.trans v6
   have v4 := z5.trans v5
   have v3 := z4.trans v4
   have v2 := z3.trans v3
   have v1 := z2.trans v2
   have d0 := Int.emod_nonneg (c / 8) (show (12 : Int) ≠ 0 by decide)
   have d1 := Int.emod_lt_of_pos (c / 8) (show (0 : Int) < 12 by decide)
   obtain ⟨v, e, hat, hv⟩ : ∃ v e, atI [V.ref a1, .non, .str "p", .int 0, .ref a2, .ref a3, .ref a4, .ref a5, .ref a6, .ref a7, .ref a8, .ref a9] (c / 8 % 12) = some v ∧ RepE K G10 v e := by
     rcases (show c / 8 % 12 = 0 ∨ c / 8 % 12 = 1 ∨ c / 8 % 12 = 2 ∨ c / 8 % 12 = 3 ∨ c / 8 % 12 = 4 ∨ c / 8 % 12 = 5 ∨ c / 8 % 12 = 6 ∨ c / 8 % 12 = 7 ∨ c / 8 % 12 = 8 ∨ c / 8 % 12 = 9 ∨ c / 8 % 12 = 10 ∨ c / 8 % 12 = 11 by omega) with e | e | e | e | e | e | e | e | e | e | e | e <;> rw [e]
     · exact ⟨_, .d (.lst []), rfl, _, _, rfl, .of (v1 _ _ e1), rfl⟩
     · exact ⟨_, .d .non, rfl, rfl⟩
     · exact ⟨_, .d (.str "p"), rfl, rfl⟩
     · exact ⟨_, .d (.int 0), rfl, rfl⟩
     · exact ⟨_, .d (.tup [.bl true, .bl false]), rfl, ⟨_, _, rfl, .of (v2 _ _ e2), ⟨_, _, rfl, rfl, ⟨_, _, rfl, rfl, rfl⟩⟩⟩⟩
     · exact ⟨_, .d (.tup [.int 0, .non]), rfl, ⟨_, _, rfl, .of (v3 _ _ e3), ⟨_, _, rfl, rfl, ⟨_, _, rfl, rfl, rfl⟩⟩⟩⟩
     · exact ⟨_, .d (.tup [.str "0", .str "0"]), rfl, ⟨_, _, rfl, .of (v4 _ _ e4), ⟨_, _, rfl, rfl, ⟨_, _, rfl, rfl, rfl⟩⟩⟩⟩
     · exact ⟨_, .nul, rfl, _, rfl, .inl (v5 _ _ e5)⟩
     · exact ⟨_, .d (.lst [.int 0, .int 0]), rfl, ⟨_, _, rfl, .of (v6 _ _ e6), ⟨_, _, rfl, rfl, ⟨_, _, rfl, rfl, rfl⟩⟩⟩⟩
     · exact ⟨_, .d (.tup [.int 0]), rfl, ⟨_, _, rfl, .of (v7 _ _ e7), ⟨_, _, rfl, rfl, rfl⟩⟩⟩
     · exact ⟨_, .d (.tup [.int (-1), .int 0]), rfl, ⟨_, _, rfl, .of (v8 _ _ e8), ⟨_, _, rfl, rfl, ⟨_, _, rfl, rfl, rfl⟩⟩⟩⟩
     · exact ⟨_, .d (.tup [.int 0, .int (us.length : Int)]), rfl, ⟨_, _, rfl, .of (v9 _ _ e9), ⟨_, _, rfl, rfl, ⟨_, _, rfl, rfl, rfl⟩⟩⟩⟩
   refine ⟨_, rfl, _, rfl, _, _, rfl, rfl, ⟨by decide, by decide⟩, _, _, rfl, rfl, (by show (0 : Int) < 12; decide), a10, _, _, v, rfl, rfl, .of e10, hat, ?_⟩
   exact k v e _ w10 hv
noncomputable abbrev s_Growth_grow : Stmt := inClass (top 32) 1
theorem sc_Growth_grow : FnScope ["self", "thing", "place", "faces", "papers", "birth"] ["self", "thing"] (defScope s_Growth_grow) := ⟨rfl, rfl, rfl, by decide +kernel, rfl, by decide +kernel, by decide +kernel⟩
theorem nd_Growth_grow : (["self", "thing", "place", "faces", "papers", "birth"] : List Str).Nodup := by decide +kernel
theorem ok_Growth_grow {f : Addr} {fd : FuncData} (F : Fun K "grow" "Growth.grow" s_Growth_grow f fd) (T : Txt K mg C_HoleError C_NoShape C_NoStage C_NoPiece C_Growth) (hx_check_size : HasX P w K mg base "check_size" ["pieces"] 1 (sp_check_size K C_NoShape)) (h_add_faces : Has P w K mg base "add_faces" ["chain", "faces", "number"] 2 (sp_add_faces K)) (hm_Growth_settled : HasM P w K mg base C_Growth "settled" ["self", "sheet", "edge"] 3 (spG_settled K C_Growth)) (h_fits : Has P w K mg base "fits" ["shape", "thing"] 4 (sp_gFits K)) (he_NoPiece : HasE P w K mg base C_NoPiece C_HoleError ["self", "place"] 1 (sp_NoPiece_init K C_NoPiece)) (h_counted : Has P w K mg base "counted" ["chain", "prime"] 1 (sp_counted K)) : FnOk P w K mg base (CX1 P w) 5 f fd ["self", "thing"] (spG_grow K C_Growth C_NoPiece C_NoShape) := by
 refine F.okX sc_Growth_grow (fun vs H Q E h => ?_) (fun cdv A outer s H vs Q E hr h => ?_)
 · obtain ⟨g, pc, sh, ed, en, v, e, p, xs, es, ss, bs, rfl, x, hv, k1, k2, k3⟩ := h
   rfl
 · obtain ⟨g, pc, sh, ed, en, v, e, p, xs, es, ss, bs, rfl, x, hv, k1, k2, k3⟩ := h
   have hu8 : (A.deeper (PyProof.Rows.envOfC "Growth.grow" (defScope s_Growth_grow) s.heap.objs.size f cdv)).units + 8 < cLine := by have := hr.units; omega
   refine ⟨_, (pss_cons (ps_set (i := 2) nd_Growth_grow (by rfl) (by first | exact Or.inl rfl | exact Or.inr rfl) (pe_callB (kcall_len_seq (K := K)) (by rfl) T.n_len PySem.boot_len (pa_cons (kpe_fld (K := K) (pv 0)) pa_nil)))
     (pss_cons (ps_if (pt_not (pt_val (pe_callH h_fits hr (by rfl) (pa_cons (kpe_fld (K := K) (pv 0)) (pa_cons (pv 1) pa_nil))))) (pss_one (ps_raiseH makesD_def (by rfl) he_NoPiece hr (by rfl) T.m_NoPiece (pa_cons (pv 2) pa_nil))) pss_nil)
     (pss_cons (ps_expr (pe_callX flies_def hx_check_size hr (by rfl) (pa_cons (pe_op (kop_catLW (K := K)) (kpe_fld (K := K) (pv 0)) (pe_lst (pa_cons (pv 1) pa_nil))) pa_nil)))
     (pss_cons (ps_set (i := 3) nd_Growth_grow (by rfl) (by first | exact Or.inl rfl | exact Or.inr rfl) pe_dnewK)
     (pss_cons (ps_expr (pe_callH h_add_faces hr (by rfl) (pa_cons (pv 3) (pa_cons (pv 1) (pa_cons pe_int pa_nil)))))
     (pss_cons (ps_set (i := 4) nd_Growth_grow (by rfl) (by first | exact Or.inl rfl | exact Or.inr rfl) (pe_methH (pv 0) T.cl_Growth hm_Growth_settled hr (pa_cons (pe_disp (pps_cons (pv 2) pe_int pps_nil) (by rfl) (by rfl) (by intro z; cases z) (Nat.le_of_ble_eq_true rfl)) (pa_cons (pe_callH h_counted hr (by rfl) (pa_cons (pv 3) (pa_cons (kpe_fld (K := K) (pv 0)) pa_nil))) pa_nil))))
     (pss_cons (ps_expr (kpe_bm (K := K) PySem.F.plainAttrs_list PySem.F.slot_list_append PySem.F.type_list_append mt_append (kpe_fld (K := K) (pv 0)) (pa_cons (pv 1) pa_nil)))
     (pss_cons (ps_expr (kpe_bm (K := K) PySem.F.plainAttrs_list PySem.F.slot_list_append PySem.F.type_list_append mt_append (kpe_fld (K := K) (pv 0)) (pa_cons (pe_ix (kix_tup (K := K)) (pv 4) pe_int (fun _ _ => rfl)) pa_nil)))
     (pss_cons (ps_expr (kpe_bm (K := K) PySem.F.plainAttrs_list PySem.F.slot_list_append PySem.F.type_list_append mt_append (kpe_fld (K := K) (pv 0)) (pa_cons (pe_ix (kix_tup (K := K)) (pv 4) pe_int (fun _ _ => rfl)) pa_nil)))
     (pss_cons (ps_if (pt_cmpR op_eq (pe_callB call_lenD (by rfl) T.n_len PySem.boot_len (pa_cons (pe_ix (kix_tup (K := K)) (pv 4) pe_int (fun _ _ => rfl)) pa_nil)) pe_int (nomark _)) (pss_one (ps_ret pe_non)) pss_nil)
     (pss_cons (ps_set (i := 5) nd_Growth_grow (by rfl) (by first | exact Or.inl rfl | exact Or.inr rfl) (pe_callB (call_maxK (by rfl)) (by rfl) T.n_max boot_maxB (pa_cons (pe_ix (kix_tup (K := K)) (pv 4) pe_int (fun _ _ => rfl)) pa_nil)))
     (pss_cons (ps_dput (u1 hu8) (kpe_fld (K := K) (pv 0)) (pv 5) (pv 2) (by rfl))
     (pss_one (ps_ret (pv 5))))))))))))))), ?_⟩
   obtain ⟨dx, fs, hg, l1, l2, l3, l4, l5, lm⟩ := x.ob
   obtain ⟨us, hpc, r⟩ := x.pcs
   have hul : us.length = xs.length := by have := r.length; simpa using this
   have hp2 := x.pr.1.two
   have hp98 := x.pr.2
   have n40 := x.gw.n40
   have hcnt := shape_cnt x.gw.shp
   refine ⟨_, rfl, g, C_Growth, dx, fs, _, rfl, hg, T.cl_Growth, T.na_Growth_pieces, l2, pc, us, rfl, .inl (.of hpc), ?_⟩
   rw [hul]
   refine ⟨_, rfl, g, C_Growth, dx, fs, _, rfl, hg, T.cl_Growth, T.na_Growth_pieces, l2, _, rfl, pc, v, e, xs, rfl, ⟨pc, us, rfl, .of hpc, r⟩, hv, fun H1 s1 => ⟨_, rfl, ?_⟩⟩
   have x1 := x.same s1
   have hg1 := s1 _ _ hg
   have hpc1 := s1 _ _ hpc
   by_cases hf : fitsE xs e = true
   rotate_left
   · refine ifP (by simpa using hf) ?_
     refine ⟨_, rfl, smallE (by simp), fun y hy => ?_⟩
     refine ⟨y, (xs.length : Int), rfl, upd_same, log_small (by omega), fun d hd => ⟨rfl, d, upd_same, ?_⟩⟩
     obtain ⟨z1, z2⟩ := raised_same (fs := [("place", .int (xs.length : Int))]) s1 hy hd
     exact k1 hf d _ z1 z2
   refine ifN (by rw [hf]; decide) ?_
   obtain ⟨q, rfl, hfd⟩ := fitsE_tup hf
   have hFit := fits_is hcnt hfd
   have hv : TI K H v q := hv
   refine ⟨_, rfl, g, C_Growth, dx, fs, _, rfl, hg1, T.cl_Growth, T.na_Growth_pieces, l2, _, rfl, smallE (by simp), fun m1 hm1 => ⟨pc, m1, us, [v], rfl, rfl, ?_, .of upd_same, smallE (by simp; omega), fun m2 hm2 => ?_⟩⟩
   · exact .of (Same.new hm1 _ _ hpc1)
   have s3 := (s1.trans (Same.new (o := .lst [v]) hm1)).trans (Same.new (o := .lst (us ++ [v])) hm2)
   refine ⟨m2, us ++ [v], rfl, .of upd_same, fun h40 => ?_, fun h40 H' s' => ?_⟩
   rotate_left
   · exact k2 hf (by simp at h40; omega) H' (s3.trans s')
   have hlt : xs.length < 40 := by simp at h40; omega
   generalize upd (upd H1 m1 (.lst [v])) m2 (.lst (us ++ [v])) = H3 at s3
   have x3 := x.same s3
   refine fun D hD => ?_
   have s4 : Same H3 (upd H3 D (.dK (cK []))) := Same.new hD
   refine ⟨_, rfl, _, rfl, D, v, [], q, 1, rfl, upd_same, Rep.same (s3.trans s4) hv, ?_, fun H5 st hD5 => ?_⟩
   · have := hFit.cnt
     simp; omega
   have s5 : Same H H5 := s3.trans (stay_same hD st)
   have x5 := x.same s5
   have hg5 := s5 _ _ hg
   have kad : ∀ y ∈ keysI (addF [] q 1), y ∈ q := fun y hy => key_addFN (Nat.le_refl _) hy
   have nad : nd (addF [] q 1) := nd_addFN (ms := []) (by simp [nd]) q 1 q.length
   have lev : ∀ y ∈ q, 0 ≤ y ∧ y < (xs.length : Int) ∧ (xs.getD y.toNat []).length - 1 + 1 = q.length - 1 := fun y hy => by
     obtain ⟨w, hw, hlv⟩ := hFit.bel y hy
     have h0 := hFit.low y hy
     have hl := (List.getElem?_eq_some_iff.mp hw).1
     refine ⟨h0, by omega, ?_⟩
     rw [List.getD_eq_getElem?_getD, hw]
     exact hlv
   have lad : (addF [] q 1).length ≤ 41 := keys_len nad fun y hy => by
     have := lev y (kad y hy)
     omega
   refine ⟨_, rfl, g, dx, fs, rfl, hg5, lm.2.1, fun P hP => ⟨_, rfl, upd_same, [(.inl (xs.length : Int), .int 1)], rfl, by simp, ?_⟩⟩
   obtain ⟨H6, e6⟩ : ∃ Z, Z = upd (upd H5 P (.dK [])) P (.dK (mergeK [] [((.inl (xs.length : Int) : Key), V.int 1)])) := ⟨_, rfl⟩
   have hP6 : H6 P = some (.dK (cK [((xs.length : Int), 1)])) := by rw [e6]; exact upd_same
   have s6' : Same H5 H6 := by rw [e6]; exact (Same.new (o := .dK []) hP).turn hP
   rw [← e6]
   clear e6
   have s6 := s5.trans s6'
   refine ⟨_, rfl, _, rfl, g, C_Growth, dx, fs, _, rfl, s6 _ _ hg, T.cl_Growth, T.na_Growth_prime, l1, D, addF [] q 1, p, rfl, s6' _ _ hD5, by omega, nad, by omega, fun F H7 hF s7' hF7 => ?_⟩
   have s7 := s6.trans s7'
   have x7 := x.same s7
   have en5 := x5.ens
   have en6 := s6 _ _ x.ens
   refine ⟨g, pc, sh, ed, en, P, F, p, xs, es, ss, bs, [((xs.length : Int), 1)], modI p (addF [] q 1), q.length - 1, rfl, x7, s7' _ _ hP6, hF7, (ne_of_none en5 hP).symm, (ne_of_none en6 hF).symm, ⟨?_, ?_⟩, mod_ok nad (by omega), ?_, ?_, ?_⟩
   · simp [nd]
   · intro y hy
     simp at hy
     subst hy
     exact ⟨by simp, hp2⟩
   · intro y hy
     simp [keysI] at hy
     omega
   · exact fun y hy => lev y (kad y (mod_keys hy))
   intro t s' e' ms' me' H8 s8' ht hs' he' ns' ne' ok1 ok2 kk1 kk2 hno _
   have s8 := s7.trans s8'
   have x8 := x.same s8
   have hg8 := s8 _ _ hg
   have hpc8 := s8 _ _ hpc
   have r8 := Reps.same s8 r
   have hv8 : TI K H8 v q := Rep.same s8 hv
   obtain ⟨ds, hed, dl, dg⟩ := x8.eds.ex
   obtain ⟨cs, hsh, cl, cg⟩ := x8.shs.ex
   have dsn := chains_snoc dl dg he' ne'
   have csn := chains_snoc cl cg hs' ns'
   have dl40 : ds.length ≤ 40 := by rw [dl, x.gw.le]; exact n40
   have cl40 : cs.length ≤ 40 := by rw [cl, x.gw.ls]; exact n40
   obtain ⟨n1, n2, n3⟩ := x.ne
   have en8 := x8.ens
   have gp : g ≠ pc := ne_of hg8 hpc8 (fun z => by cases z)
   have gs : g ≠ sh := ne_of hg8 hsh (fun z => by cases z)
   have ge : g ≠ ed := ne_of hg8 hed (fun z => by cases z)
   have tp : t ≠ pc := ne_of ht hpc8 (fun z => by cases z)
   have ts : t ≠ sh := ne_of ht hsh (fun z => by cases z)
   have te : t ≠ ed := ne_of ht hed (fun z => by cases z)
   have ep : e' ≠ pc := ne_of he' hpc8 (fun z => by cases z)
   have es' : e' ≠ sh := ne_of he' hsh (fun z => by cases z)
   have ee : e' ≠ ed := ne_of he' hed (fun z => by cases z)
   have np : en ≠ pc := ne_of en8 hpc8 (fun z => by cases z)
   have nsh : en ≠ sh := ne_of en8 hsh (fun z => by cases z)
   have ned : en ≠ ed := ne_of en8 hed (fun z => by cases z)
   have rs : Reps K H8 (us ++ [v]) ((xs ++ [q]).map tI) := by
     rw [List.map_append]
     exact Reps.append r8 ⟨_, _, rfl, hv8, rfl⟩
   refine ⟨_, rfl, g, C_Growth, dx, fs, _, rfl, hg8, T.cl_Growth, T.na_Growth_pieces, l2, .inl ⟨rfl, us, .of hpc8⟩, _, rfl, pc, us, v, rfl, rfl, hpc8, small (by omega), ?_⟩
   refine ⟨_, rfl, g, C_Growth, dx, fs, _, rfl, (by rw [upd_ne gp]; exact hg8), T.cl_Growth, T.na_Growth_sheets, l3, .inl ⟨rfl, _, .of (by rw [upd_ne n1.symm]; exact hsh)⟩, _, rfl, t, _, _, _, rfl, rfl, .of (by rw [upd_ne tp]; exact ht), at0 _ _, sh, _, _, rfl, rfl, (by rw [upd_ne n1.symm]; exact hsh), small (by rw [List.length_map]; omega), ?_⟩
   refine ⟨_, rfl, g, C_Growth, dx, fs, _, rfl, (by rw [upd_ne gs, upd_ne gp]; exact hg8), T.cl_Growth, T.na_Growth_edges, l4, .inl ⟨rfl, _, .of (by rw [upd_ne n3.symm, upd_ne n2.symm]; exact hed)⟩, _, rfl, t, _, _, _, rfl, rfl, .of (by rw [upd_ne ts, upd_ne tp]; exact ht), at1 _ _ _, ed, _, _, rfl, rfl, (by rw [upd_ne n3.symm, upd_ne n2.symm]; exact hed), small (by rw [List.length_map]; omega), ?_⟩
   rw [map_snoc, map_snoc]
   have put := fun bs' gw => x8.put (us := us ++ [v]) (ds := ds ++ [e']) (cs := cs ++ [s']) (xs' := xs ++ [q]) (es' := es ++ [me']) (ss' := ss ++ [ms']) (bs' := bs') rs dsn.1 dsn.2 csn.1 csn.2 gw
   have gwn := fun bs' hb => x.gw.grow (bs' := bs') hFit hlt ⟨ok1, kk1, ok2, kk2, hno⟩ hb
   have frn := fun bs' => FrG.four (pc := pc) (sh := sh) (ed := ed) (en := en) (o1 := .lst (us ++ [v])) (o2 := .lst ((cs ++ [s']).map V.ref)) (o3 := .lst ((ds ++ [e']).map V.ref)) (o4 := .dK (cK bs')) s8
   obtain ⟨H9, e9⟩ : ∃ Z, Z = upd (upd (upd H8 pc (.lst (us ++ [v]))) sh (.lst ((cs ++ [s']).map V.ref))) ed (.lst ((ds ++ [e']).map V.ref)) := ⟨_, rfl⟩
   rw [← e9] at put frn ⊢
   have hg9 : H9 g = some (.ins C_Growth dx fs) := by rw [e9, upd_ne ge, upd_ne gs, upd_ne gp]; exact hg8
   have ht9 : H9 t = some (.tup [.ref s', .ref e']) := by rw [e9, upd_ne te, upd_ne ts, upd_ne tp]; exact ht
   have he9 : H9 e' = some (.dK (cK me')) := by rw [e9, upd_ne ee, upd_ne es', upd_ne ep]; exact he'
   have en9 : H9 en = some (.dK (cK bs)) := by rw [e9, upd_ne ned, upd_ne nsh, upd_ne np]; exact en8
   clear e9
   refine tSeq_cut (fun σ' H' => σ' = [some (.ref g), some v, some (.int (xs.length : Int)), some (.ref D), some (.ref t), none] ∧ H9 = H') ?_ fun key0 => key0 _ _ ⟨rfl, rfl⟩
   rintro _ _ ⟨rfl, rfl⟩
   refine ⟨_, rfl, t, _, _, _, rfl, rfl, .of ht9, at1 _ _ _, e', cK me', rfl, he9, rfl, _, rfl, ?_⟩
   rw [cK_len]
   by_cases hz : me' = []
   · subst hz
     refine ifP (by simp) ?_
     have w := put bs (gwn bs (.inl ⟨rfl, rfl⟩))
     have f := frn bs
     rw [upd_id en9] at w f
     exact k3 q rfl hf hlt _ _ _ _ _ f w (.inl rfl)
   refine ifN (by simpa using hz) ?_
   refine ⟨_, rfl, t, _, _, _, rfl, rfl, .of ht9, at1 _ _ _, e', keysI me', cK me', rfl, he9, keys_cK me', keys_ne hz, fun b hb1 hb2 => ?_⟩
   have tb : Top me' b := ⟨hb1, hb2⟩
   refine ⟨_, rfl, _, rfl, g, C_Growth, dx, fs, _, rfl, hg9, T.cl_Growth, T.na_Growth_enders, l5, _, rfl, en, _, rfl, dput_ok en9 (Nat.le_trans x.gw.blen (by decide)), ?_⟩
   refine ⟨_, rfl, ?_⟩
   obtain ⟨b1, b2, b3⟩ := kk2 b hb1
   exact k3 q rfl hf hlt _ _ _ _ _ (frn _) (put _ (gwn _ (.inr ⟨b, tb, rfl⟩))) (.inr ⟨b, rfl, b1, b2, b3⟩)
noncomputable abbrev s_L_deed : Stmt := top 46
theorem sc_L_deed : FnScope ["_law_growth", "_law_pieces", "_law_thing", "_law_refused", "_law_place", "_law_found", "e"] ["_law_growth", "_law_pieces", "_law_thing"] (defScope s_L_deed) := ⟨rfl, rfl, rfl, by decide +kernel, rfl, by decide +kernel, by decide +kernel⟩
theorem nd_L_deed : (["_law_growth", "_law_pieces", "_law_thing", "_law_refused", "_law_place", "_law_found", "e"] : List Str).Nodup := by decide +kernel
theorem ok_L_deed {f : Addr} {fd : FuncData} (F : Fun K "_law_deed" "_law_deed" s_L_deed f fd) (T : Txt K mg C_HoleError C_NoShape C_NoStage C_NoPiece C_Growth) (hmx_Growth_grow : HasMX P w K mg base C_Growth "grow" ["self", "thing"] 5 (spG_grow K C_Growth C_NoPiece C_NoShape)) (h_L_fits : Has P w K mg base "_law_fits" ["_law_pieces", "_law_thing"] 2 (sp_gLFits K)) (h_L_whole : Has P w K mg base "_law_whole" ["_law_found"] 1 (sp_L_whole K)) (h_L_answer : Has P w K mg base "_law_answer" ["_law_pieces", "_law_thing", "_law_found"] 2 (sp_gAnswer K)) : FnOk P w K mg base CX0 6 f fd ["_law_growth", "_law_pieces", "_law_thing"] (spG_deed K C_Growth) := by
 refine F.ok sc_L_deed (fun vs H Q E h => ?_) (fun cdv A outer s H vs Q E hr h => ?_)
 · obtain ⟨g, pc, sh, ed, en, a, v, e, W, p, xs, es, ss, bs, rfl, x, hW, hM, hA, hv, k⟩ := h
   rfl
 · obtain ⟨g, pc, sh, ed, en, a, v, e, W, p, xs, es, ss, bs, rfl, x, hW, hM, hA, hv, k⟩ := h
   refine ⟨_, (pss_cons (ps_set (i := 3) nd_L_deed (by rfl) (by first | exact Or.inl rfl | exact Or.inr rfl) pe_int)
     (pss_cons (ps_set (i := 4) nd_L_deed (by rfl) (by first | exact Or.inl rfl | exact Or.inr rfl) pe_non)
     (pss_cons (ps_set (i := 5) nd_L_deed (by rfl) (by first | exact Or.inl rfl | exact Or.inr rfl) pe_non)
     (pss_cons (ps_try (fun _ _ => (pss_one (ps_set (i := 5) nd_L_deed (by rfl) (by first | exact Or.inl rfl | exact Or.inr rfl) (pe_methX flies_tried (pv 0) T.cl_Growth hmx_Growth_grow hr (pa_cons (pv 2) pa_nil)))))
     (ph_as (i := 6) nd_L_deed (by rfl) (by rfl) (by rfl) T.m_NoPiece T.k_NoPiece (fun _ => (pss_cons (ps_set (i := 3) nd_L_deed (by rfl) (by first | exact Or.inl rfl | exact Or.inr rfl) pe_int)
     (pss_one (ps_set (i := 4) nd_L_deed (by rfl) (by first | exact Or.inl rfl | exact Or.inr rfl) (pe_errAt (K := K) (pv 6))))))
     (ph_bare (by rfl) T.m_NoShape T.k_NoShape (fun _ => (pss_one (ps_set (i := 3) nd_L_deed (by rfl) (by first | exact Or.inl rfl | exact Or.inr rfl) pe_int)))
     ph_none)))
     (pss_cons (ps_if (pt_not (pt_val (pe_callH h_L_fits hr (by rfl) (pa_cons (pv 1) (pa_cons (pv 2) pa_nil))))) (pss_cons (ps_if (PW.pt (pw_and (pt_cmpR op_eq (pv 3) pe_int (nomark _)) (pw_and (pt_val (pe_callH h_L_whole hr (by rfl) (pa_cons (pv 4) pa_nil))) (pw_and1 (pt_cmpR op_eq (pv 4) (pe_callB (kcall_len_seq (K := K)) (by rfl) T.n_len PySem.boot_len (pa_cons (pv 1) pa_nil)) (nomark _)))))) (pss_one (ps_ret (pv 1))) pss_nil)
     (pss_one (ps_ret pe_non))) pss_nil)
     (pss_cons (ps_if (PW.pt (pw_and (pt_cmpR op_eq (pe_callB (kcall_len_seq (K := K)) (by rfl) T.n_len PySem.boot_len (pa_cons (pv 1) pa_nil)) pe_int (nomark _)) (pw_and1 (pt_cmpR op_eq (pv 3) pe_int (nomark _))))) (pss_one (ps_ret (pv 1))) pss_nil)
     (pss_cons (ps_if (PW.pt (pw_or (pt_cmpR op_eq (pe_callB (kcall_len_seq (K := K)) (by rfl) T.n_len PySem.boot_len (pa_cons (pv 1) pa_nil)) pe_int (nomark _)) (pw_or (pt_cmpR op_ne (pv 3) pe_int (nomark _)) (pw_or1 (pt_not (pt_val (pe_callH h_L_answer hr (by rfl) (pa_cons (pv 1) (pa_cons (pv 2) (pa_cons (pv 5) pa_nil)))))))))) (pss_one (ps_ret pe_non)) pss_nil)
     (pss_one (ps_ret (pe_op (kop_catLW (K := K)) (pv 1) (pe_lst (pa_cons (pv 2) pa_nil)))))))))))), ?_⟩
   obtain ⟨dx, fs, hg, l1, l2, l3, l4, l5, lm⟩ := x.ob
   have n40 := x.gw.n40
   have hcnt := shape_cnt x.gw.shp
   refine tSeq_go [some (.ref g), some (.ref a), some v, some (.int 0), none, none, none] H (fun _ h => h) ?_
   refine tSeq_go [some (.ref g), some (.ref a), some v, some (.int 0), some .non, none, none] H (fun _ h => h) ?_
   refine tSeq_go [some (.ref g), some (.ref a), some v, some (.int 0), some .non, some .non, none] H (fun _ h => h) ?_
   refine tSeq_cut (fun σ' H' => (∃ o6, σ' = [some (.ref g), some (.ref a), some v, some (.int 1), some (.int (xs.length : Int)), some .non, o6] ∧ ¬ fitsE xs e = true ∧ Same H H') ∨ (∃ o6, σ' = [some (.ref g), some (.ref a), some v, some (.int 2), some .non, some .non, o6] ∧ fitsE xs e = true ∧ xs.length = 40 ∧ Same H H') ∨
     ∃ (r : V) (es' ss' : List Ms) (bs' : Ms) (q : List Int), σ' = [some (.ref g), some (.ref a), some v, some (.int 0), some .non, some r, none] ∧ e = .d (tI q) ∧ fitsE xs e = true ∧ xs.length < 40 ∧ FrG pc sh ed en H H' ∧ GrowAt K C_Growth H' g pc sh ed en p (xs ++ [q]) es' ss' bs' ∧ Ans xs q r) ?_ fun key => ?_
   rotate_left
   · refine ⟨_, rfl, g, dx, fs, rfl, hg, lm.1, _, rfl, g, pc, sh, ed, en, v, e, p, xs, es, ss, bs, rfl, x, hv, fun hf d H1 s1 hd => ?_, fun hf h40 H1 s1 => ?_, fun q eq hf hlt r es' ss' bs' H1 fr x1 an => key _ _ (.inr (.inr ⟨r, es', ss', bs', q, rfl, eq, hf, hlt, fr, x1, an⟩))⟩
     · refine ⟨C_NoPiece, true, rfl, T.s_NoPiece_NoPiece, ?_⟩
       refine ifP rfl fun y hy => ?_
       have s2 := Same.new (o := excX y (.ref C_NoPiece) (some d)) hy
       have hyy : upd H1 y (excX y (.ref C_NoPiece) (some d)) y = some (excX y (.ref C_NoPiece) (some d)) := upd_same
       have hdd := s2 _ _ hd
       generalize upd H1 y (excX y (.ref C_NoPiece) (some d)) = H2 at s2 hyy hdd ⊢
       exact ⟨_, rfl, y, C_NoPiece, d, _, _, rfl, hyy, T.x_NoPiece, T.ea_NoPiece_place, hdd, rfl, key _ _ (.inl ⟨_, rfl, hf, s1.trans s2⟩)⟩
     · refine ⟨C_NoShape, false, rfl, T.s_NoShape_NoPiece, ?_⟩
       refine ifN (by decide) ?_
       refine ⟨C_NoShape, true, rfl, T.s_NoShape_NoShape, ?_⟩
       refine ifP rfl ?_
       exact key _ _ (.inr (.inl ⟨_, rfl, hf, h40, s1⟩))
   rintro σ1 H1 alt
   rcases alt with ⟨o6, rfl, hf, s1⟩ | ⟨o6, rfl, hf, h40, s1⟩ | ⟨r, es', ss', bs', q, rfl, eq, hf, hlt, fr, x1, an⟩
   · have hA1 := LH.same s1 hA
     refine ⟨_, rfl, _, rfl, a, v, e, xs, rfl, hA1.lt, hcnt, by omega, RepE.same s1 hv, fun H2 s2' => ⟨_, rfl, ?_⟩⟩
     refine ifP (by simpa using hf) ?_
     have s2 := s1.trans s2'
     have hA2 := LH.same s2 hA
     obtain ⟨us, h1, h2⟩ := id hA2
     have hul : us.length = xs.length := by have := h2.length; simpa using this
     refine ⟨_, rfl, rfl, _, rfl, ?_⟩
     refine ifP (by simp) ?_
     refine ⟨_, rfl, _, .int (xs.length : Int), rfl, rfl, _, rfl, ?_⟩
     refine ifP (by simp [wholeD, isD]) ?_
     refine ⟨_, rfl, _, rfl, a, us, rfl, .inl (.of (hidG_same _ _ h1)), rfl, _, rfl, ?_⟩
     refine ifP (by simp [hul]) ?_
     exact ⟨_, rfl, k a xs es ss bs H2 (FrG.of s2) (x.same s2) hA2⟩
   · have hA1 := LH.same s1 hA
     refine ⟨_, rfl, _, rfl, a, v, e, xs, rfl, hA1.lt, hcnt, by omega, RepE.same s1 hv, fun H2 s2' => ⟨_, rfl, ?_⟩⟩
     refine ifN (by rw [hf]; decide) ?_
     have s2 := s1.trans s2'
     have hA2 := LH.same s2 hA
     obtain ⟨us, h1, h2⟩ := id hA2
     have hul : us.length = xs.length := by have := h2.length; simpa using this
     refine ⟨_, rfl, a, us, rfl, .inl (.of (hidG_same _ _ h1)), rfl, _, rfl, ?_⟩
     refine ifP (by rw [hul, h40]; decide) ?_
     refine ⟨_, rfl, rfl, _, rfl, ?_⟩
     refine ifP (by simp) ?_
     exact ⟨_, rfl, k a xs es ss bs H2 (FrG.of s2) (x.same s2) hA2⟩
   subst eq
   have hA1 := LH.fr x fr hW hA
   have hM1 := x1.mutW fr hM
   have tv : TI K H1 v q := Rep.t (fr.t x) (imm_tI q) hv
   refine ⟨_, rfl, _, rfl, a, v, .d (tI q), xs, rfl, hA1.lt, hcnt, by omega, tv, fun H2 s2 => ⟨_, rfl, ?_⟩⟩
   refine ifN (by rw [hf]; decide) ?_
   have hA2 := LH.same s2 hA1
   have tv2 : TI K H2 v q := Rep.same s2 tv
   obtain ⟨us, h1, h2⟩ := id hA2
   have hul : us.length = xs.length := by have := h2.length; simpa using this
   have hq2 := hidG_same _ _ h1
   have hne : ¬ (us.length : Int) = 40 := by omega
   refine tSeq_cut (fun σ' H' => σ' = [some (.ref g), some (.ref a), some v, some (.int 0), some .non, some r, none] ∧ H2 = H') ?_ fun key0 => key0 _ _ ⟨rfl, rfl⟩
   rintro _ _ ⟨rfl, rfl⟩
   refine ⟨_, rfl, a, us, rfl, .inl (.of hq2), rfl, _, rfl, ?_⟩
   refine ifN (by simpa using hne) ?_
   refine ifN (by decide) ?_
   refine tSeq_cut (fun σ' H' => σ' = [some (.ref g), some (.ref a), some v, some (.int 0), some .non, some r, none] ∧ H2 = H') ?_ fun key0 => key0 _ _ ⟨rfl, rfl⟩
   rintro _ _ ⟨rfl, rfl⟩
   refine ⟨_, rfl, a, us, rfl, .inl (.of hq2), rfl, _, rfl, ?_⟩
   refine ifN (by simpa using hne) ?_
   refine ⟨_, rfl, rfl, _, rfl, ?_⟩
   refine ifN (by simp) ?_
   refine ⟨_, rfl, _, rfl, _, rfl, a, v, r, xs, q, rfl, hA2.lt, tv2, an, _, rfl, ?_⟩
   refine ifN (by decide) ?_
   refine ⟨_, rfl, _, rfl, smallE (by simp), fun m1 hm1 => ⟨a, m1, us, [v], rfl, rfl, ?_, .of upd_same, smallE (by simp; omega), fun m2 hm2 => ?_⟩⟩
   · exact .of (Same.new hm1 _ _ hq2)
   have s3 := Same.new (o := .lst [v]) hm1
   generalize upd H2 m1 (.lst [v]) = H3 at s3 hm2 ⊢
   have s4 := s3.trans (Same.new (o := .lst (us ++ [v])) hm2)
   have s5 := s2.trans s4
   refine k m2 (xs ++ [q]) es' ss' bs' _ (fr.trans (FrG.of s5)) (x1.same s5) (LH.new (fun c w => Mut.same (s2.trans s3) (hM1 c w)) hm2 upd_same ?_)
   rw [List.map_append]
   exact Reps.append (Reps.same s4 h2) ⟨_, _, rfl, Rep.same s4 tv2, rfl⟩
noncomputable abbrev s_law : Stmt := top 47
theorem sc_law : FnScope ["_law_script", "_law_growth", "_law_first", "_law_pieces", "_law_piece", "_law_held", "_law_cell", "_law_told", "_law_due"] ["_law_script"] (defScope s_law) := ⟨rfl, rfl, rfl, by decide +kernel, rfl, by decide +kernel, by decide +kernel⟩
theorem nd_law : (["_law_script", "_law_growth", "_law_first", "_law_pieces", "_law_piece", "_law_held", "_law_cell", "_law_told", "_law_due"] : List Str).Nodup := by decide +kernel
theorem ok_law {f : Addr} {fd : FuncData} (F : Fun K "law" "law" s_law f fd) (T : Txt K mg C_HoleError C_NoShape C_NoStage C_NoPiece C_Growth) (hcd_Growth : HasCD P w K mg base C_Growth ["self", "prime"] [.int 2] 4 (spG_init K C_Growth)) (h_L_cell_at : Has P w K mg base "_law_cell_at" ["_law_script", "_law_k"] 1 (sp_L_cell_at K)) (he_NoPiece : HasE P w K mg base C_NoPiece C_HoleError ["self", "place"] 1 (sp_NoPiece_init K C_NoPiece)) (hm_Growth_grow : HasM P w K mg base C_Growth "grow" ["self", "thing"] 5 (sp_Growth_growOk K C_Growth)) (hm_Growth_shape : HasM P w K mg base C_Growth "shape" ["self"] 1 (spG_shape K C_Growth)) (h_L_taken : Has P w K mg base "_law_taken" ["_law_growth", "_law_pieces"] 3 (spG_taken K C_Growth)) (h_L_deed : Has P w K mg base "_law_deed" ["_law_growth", "_law_pieces", "_law_thing"] 6 (spG_deed K C_Growth)) (h_L_same : Has P w K mg base "_law_same" ["_law_found", "_law_pieces"] 2 (sp_gSame K)) (h_L_thing_by : Has P w K mg base "_law_thing_by" ["_law_pieces", "_law_cell"] 4 (sp_gThing K)) : FnOk P w K mg base CX0 7 f fd ["_law_script"] (sp_law K) := by
 refine F.ok sc_law (fun vs H Q E h => ?_) (fun cdv A outer s H vs Q E hr h => ?_)
 · obtain ⟨a, ns, rfl, hS, hl, k⟩ := h
   rfl
 · obtain ⟨a, ns, rfl, hS, hl, k⟩ := h
   refine ⟨_, (pss_cons (ps_set (i := 1) nd_law (by rfl) (by first | exact Or.inl rfl | exact Or.inr rfl) (pe_makeD0 hcd_Growth hr (by rfl) T.m_Growth))
     (pss_cons (ps_set (i := 2) nd_law (by rfl) (by first | exact Or.inl rfl | exact Or.inr rfl) (pe_op op_mod (pe_callH h_L_cell_at hr (by rfl) (pa_cons (pv 0) (pa_cons pe_int pa_nil))) pe_int))
     (pss_cons (ps_setC (N' := ["_law_k"]) (cap := [none]) (i := 3) nd_law (by rfl) (by first | exact Or.inl rfl | exact Or.inr rfl) (by rfl) (by kernel_rfl) (pi_range1 (by rfl) T.n_range (pa_cons (pe_op op_add (pe_op op_mod (pv 2) pe_int) (pe_op op_mulX pe_int (pe_callTy call_int1 (by rfl) T.n_int boot_intT (pa_cons (pe_cmpR op_eq (pe_op op_mod (pe_op op_fdiv (pv 2) pe_int) pe_int) pe_int (nomark _)) pa_nil)))) pa_nil)) (fun _ _ _ _ => (pg_name (i := 0) ndc_12 (by rfl) (by first | exact Or.inl rfl | exact Or.inr rfl))) (fun _ _ _ _ => pts_nil) (fun _ _ _ _ => (pe_tup pa_nil)))
     (pss_cons (ps_if (pt_cmpR op_ne (pe_madeAt (K := K) (pe_makeErr he_NoPiece hr (by rfl) T.m_NoPiece (pa_cons (pv 2) pa_nil))) (pv 2) (nomark _)) (pss_one (ps_ret pe_bl)) pss_nil)
     (pss_cons (ps_for PassesOwn.never rfl (kpi_list (K := K) (pv 3)) (pg_name (i := 4) nd_law (by rfl) (by first | exact Or.inl rfl | exact Or.inr rfl)) (pss_one (ps_if (pt_cmpR op_notN (pe_methH (pv 1) T.cl_Growth hm_Growth_grow hr (pa_cons (pv 4) pa_nil)) pe_non (nomark _)) (pss_one (ps_ret pe_bl)) pss_nil)))
     (pss_cons (ps_set (i := 5) nd_law (by rfl) (by first | exact Or.inl rfl | exact Or.inr rfl) (pe_lst (pa_cons (pe_tup (pa_cons (pe_methH0 (pv 1) T.cl_Growth hm_Growth_shape hr) (pa_cons (pe_callTy (kcall_list_of (K := K)) (by rfl) T.n_list boot_listT (pa_cons (pv 3) pa_nil)) pa_nil))) pa_nil)))
     (pss_cons (ps_for PassesOwn.never rfl (kpi_list (K := K) (pe_slice (ksl_list (K := K)) (pv 0) (po_some pe_int) (po_some pe_int))) (pg_name (i := 6) nd_law (by rfl) (by first | exact Or.inl rfl | exact Or.inr rfl)) (pss_cons (ps_if (pt_cmpR op_eq (pe_op op_mod (pv 6) pe_int) pe_int (nomark _)) (pss_one (ps_set (i := 3) nd_law (by rfl) (by first | exact Or.inl rfl | exact Or.inr rfl) (pe_callH h_L_taken hr (by rfl) (pa_cons (pv 1) (pa_cons (pv 3) pa_nil))))) (pss_one (ps_set (i := 3) nd_law (by rfl) (by first | exact Or.inl rfl | exact Or.inr rfl) (pe_callH h_L_deed hr (by rfl) (pa_cons (pv 1) (pa_cons (pv 3) (pa_cons (pe_callH h_L_thing_by hr (by rfl) (pa_cons (pv 3) (pa_cons (pe_op op_fdiv (pe_op op_mod (pv 6) pe_int) pe_int) pa_nil))) pa_nil)))))))
     (pss_cons (ps_if (pt_cmpR op_isN (pv 3) pe_non (nomark _)) (pss_one (ps_ret pe_bl)) pss_nil)
     (pss_cons (ps_expr (kpe_bm0 (K := K) PySem.F.plainAttrs_list PySem.F.slot_list_clear PySem.F.type_list_clear mt_clear (pe_methH0 (pv 1) T.cl_Growth hm_Growth_shape hr)))
     (pss_one (ps_expr (kpe_bm (K := K) PySem.F.plainAttrs_list PySem.F.slot_list_append PySem.F.type_list_append mt_append (pv 5) (pa_cons (pe_tup (pa_cons (pe_methH0 (pv 1) T.cl_Growth hm_Growth_shape hr) (pa_cons (pe_callTy (kcall_list_of (K := K)) (by rfl) T.n_list boot_listT (pa_cons (pv 3) pa_nil)) pa_nil))) pa_nil))))))))
     (pss_cons (ps_for PassesOwn.never rfl (kpi_list (K := K) (pv 5)) (kpg_tup (K := K) (n := 2) (by rfl) (pgs_cons (pg_name (i := 7) nd_law (by rfl) (by first | exact Or.inl rfl | exact Or.inr rfl)) (pgs_cons (pg_name (i := 8) nd_law (by rfl) (by first | exact Or.inl rfl | exact Or.inr rfl)) pgs_nil))) (pss_one (ps_if (pt_not (pt_val (pe_callH h_L_same hr (by rfl) (pa_cons (pv 7) (pa_cons (pv 8) pa_nil))))) (pss_one (ps_ret pe_bl)) pss_nil)))
     (pss_one (ps_ret pe_bl)))))))))), ?_⟩
   have p64 : (0 : Int) < 64 := by decide
   have p4 : (0 : Int) < 4 := by decide
   refine tSeq_cut (fun σ' H' => ∃ (g pc sh ed en : Addr), σ' = [some (.ref a), some (.ref g), none, none, none, none, none, none, none] ∧ Same H H' ∧ GrowAt K C_Growth H' g pc sh ed en 2 [] [] [] [] ∧ ∀ c, W4 pc sh ed en c → H c = none) ?_ fun key => ?_
   rotate_left
   · intro g dx ng ndx nedx
     have sN : Same H (upd (upd H dx (.own g)) g (.ins C_Growth dx [])) := (Same.new ndx).turn ng
     have eg : upd (upd H dx (.own g)) g (.ins C_Growth dx []) g = some (.ins C_Growth dx []) := upd_same
     generalize upd (upd H dx (.own g)) g (.ins C_Growth dx []) = H1 at sN eg ⊢
     refine ⟨g, dx, 2, rfl, eg, prime2, by decide, fun pc sh ed en H2 npc nsh ned nen sx x => ⟨rfl, ?_⟩⟩
     refine key _ _ ⟨g, pc, sh, ed, en, rfl, fun c o e => sx c o (ne_of_none e ng) (sN _ _ e), x, ?_⟩
     rintro c (rfl | rfl | rfl | rfl)
     · exact sN.free npc
     · exact sN.free nsh
     · exact sN.free ned
     · exact sN.free nen
   rintro _ H1 ⟨g, pc, sh, ed, en, rfl, s1, x1, new1⟩
   refine tSeq_cut (fun σ' H' => ∃ F : Int, σ' = [some (.ref a), some (.ref g), some (.int F), none, none, none, none, none, none] ∧ H1 = H' ∧ 0 ≤ F ∧ F < 64) ?_ fun key => ?_
   rotate_left
   · exact ⟨_, rfl, a, ns, 0, rfl, s1.seq hS, by decide, hl, _, _, rfl, rfl, p64, key _ _ ⟨_, rfl, rfl, Int.emod_nonneg _ (by decide), Int.emod_lt_of_pos _ p64⟩⟩
   rintro _ _ ⟨F, rfl, rfl, F0, F1⟩
   refine tSeq_cut (fun σ' H' => ∃ (D : Addr) (us : List V) (n : Nat), σ' = [some (.ref a), some (.ref g), some (.int F), some (.ref D), none, none, none, none, none] ∧ Same H1 H' ∧ H1 D = none ∧ H' D = some (.lst us) ∧ Reps K H' us ((List.replicate n ([] : List Int)).map tI) ∧ n ≤ 39) ?_ fun key => ?_
   rotate_left
   · have f0 := Int.emod_nonneg F (show (4 : Int) ≠ 0 by decide)
     have f1 := Int.emod_lt_of_pos F p4
     refine ⟨_, rfl, _, _, rfl, rfl, p4, _, rfl, _, _, rfl, rfl, ⟨by decide, by decide⟩, _, _, rfl, rfl, p4, rfl, .inr ⟨_, rfl, _, _, rfl, rfl, mulokL (by decide) (by decide), _, _, rfl, rfl, ?_⟩⟩
     obtain ⟨n, hn, hn39⟩ : ∃ n : Nat, F % 4 + 36 * (if (decide (V.int (F / 4 % 4) = V.int 3)) = true then 1 else 0) = (n : Int) ∧ n ≤ 39 := by
       refine ⟨(F % 4 + 36 * (if (decide (V.int (F / 4 % 4) = V.int 3)) = true then 1 else 0)).toNat, ?_, ?_⟩ <;> split <;> omega
     refine ⟨_, rfl, by rw [hn]; omega, by rw [hn]; omega, fun D hD => ?_⟩
     rw [hn]
     refine comp_range0 (fun i ys τ G => Same H1 G ∧ G D = some (.lst ys) ∧ Reps K G ys ((List.replicate i ([] : List Int)).map tI) ∧ ys.length = i ∧ ∃ o, τ = [o])
       ⟨Same.new hD, upd_same, rfl, rfl, none, rfl⟩ ?_ ?_
     · rintro i ys τ G hi ⟨g1, hDG, ry, hyl, o, rfl⟩
       refine ⟨Nat.zero_le _, fun t ht => ?_⟩
       have st := Same.new (o := .tup []) ht
       have et : upd G t (.tup []) t = some (.tup []) := upd_same
       generalize upd G t (.tup []) = G1 at st et ⊢
       have hD1 := st _ _ hDG
       exact ⟨hD1, small (by omega), (g1.trans st).turn hD, upd_same, Reps.t (TSame.lst hD1) (imms_tIs _) (rep_nil_snoc (Reps.same st ry) et), by simp [hyl], _, rfl⟩
     · rintro ys τ G ⟨g1, hDG, ry, hyl, o, rfl⟩
       exact key _ _ ⟨D, ys, _, rfl, g1, hD, hDG, ry, by omega⟩
   rintro _ H2 ⟨D, us, n, rfl, s2, hD1, hD2, r2, hn39⟩
   have x2 := x1.same s2
   refine tSeq_cut (fun σ' H' => σ' = [some (.ref a), some (.ref g), some (.int F), some (.ref D), none, none, none, none, none] ∧ Same H2 H') ?_ fun key => ?_
   rotate_left
   · refine ⟨_, rfl, smallE (by simp), fun y hy => ?_⟩
     refine ⟨y, F, rfl, upd_same, log_small (by omega), fun d hd => ⟨rfl, ?_⟩⟩
     have ny : d ≠ y := fun z => by rw [z, upd_same] at hd; cases hd
     have hd2 : H2 d = none := by rw [upd_ne ny] at hd; exact hd
     have sz : Same H2 (upd (upd (upd H2 y (newE y C_NoPiece)) d (.xd [("place", .int F)])) y (madeE y C_NoPiece d)) := ((Same.new (o := newE y C_NoPiece) hy).turn hd2).turn hy
     refine ⟨y, C_NoPiece, d, _, _, rfl, upd_same, T.x_NoPiece, T.ea_NoPiece_place, (by rw [upd_ne ny]; exact upd_same), rfl, _, rfl, rfl, _, rfl, ?_⟩
     refine ifN (by simp) ?_
     exact key _ _ ⟨rfl, sz⟩
   rintro _ H3 ⟨rfl, s3⟩
   have x3 := x2.same s3
   have hD3 := s3 _ _ hD2
   have r3 := Reps.same s3 r2
   have hul : us.length = n := by have := r3.length; simpa using this
   have hDn : ¬ W4 pc sh ed en D := fun w => by
     rcases x1.mut D w with ⟨_, z⟩ | ⟨_, z⟩ <;> (rw [z] at hD1; cases hD1)
   have sa3 : SqL K (hidG H3 (W4 pc sh ed en)) a (ns.map V.int) := by
     have : Same H (hidG H3 (W4 pc sh ed en)) := fun c o e => by
       rw [hidG_no (fun w => by rw [new1 c w] at e; cases e)]
       exact (s1.trans (s2.trans s3)) _ _ e
     exact this.seq hS
   refine tSeq_cut (fun σ' H' => ∃ (o4 : Option V) (es ss : List Ms) (bs : Ms), σ' = [some (.ref a), some (.ref g), some (.int F), some (.ref D), o4, none, none, none, none] ∧ FrG pc sh ed en H3 H' ∧ GrowAt K C_Growth H' g pc sh ed en 2 (List.replicate n []) es ss bs) ?_ fun key => ?_
   rotate_left
   · refine ⟨_, rfl, D, rfl, ⟨_, .of hD3⟩, ?_⟩
     refine for_list (K := K) (a := D) (xs := us) (fun i σ' G => ∃ (o4 : Option V) (es ss : List Ms) (bs : Ms), σ' = [some (.ref a), some (.ref g), some (.int F), some (.ref D), o4, none, none, none, none] ∧ FrG pc sh ed en H3 G ∧ GrowAt K C_Growth G g pc sh ed en 2 (List.replicate i []) es ss bs)
       ⟨none, [], [], [], rfl, FrG.of (Same.refl H3), x3⟩ (fun i σ' G _ ⟨_, _, _, _, _, fr, _⟩ => .of (fr _ _ hDn hD3)) ?_ ?_
     · rintro i v σ' G hv ⟨o4, es, ss, bs, rfl, fr, x⟩
       have hi : i < n := by rw [← hul]; exact (List.getElem?_eq_some_iff.mp hv).1
       obtain ⟨dv, hdv, rv⟩ := r3.getV hv
       have edv : dv = tI [] := by
         rw [List.getElem?_map, List.getElem?_replicate_of_lt hi] at hdv
         exact (Option.some.inj hdv).symm
       subst edv
       have tv : TI K G v [] := Rep.t (fr.t x3) (imm_tI []) rv
       obtain ⟨dx, fs, hg, l1, l2, l3, l4, l5, lm⟩ := x.ob
       refine ⟨_, rfl, g, dx, fs, rfl, hg, lm.1, _, rfl, g, pc, sh, ed, en, v, 2, List.replicate i [], [], es, ss, bs, rfl, x, tv, fits_nil, by rw [List.length_replicate]; omega, fun r es' ss' bs' G1 fr1 x1' an => ?_⟩
       obtain rfl := ans_nil an
       refine ⟨rfl, _, rfl, ?_⟩
       refine ifN (by simp) ?_
       refine ⟨_, es', ss', bs', rfl, fr.trans fr1, ?_⟩
       rw [List.replicate_succ']
       exact x1'
     · rintro σ' G ⟨o4, es, ss, bs, rfl, fr, x⟩
       rw [hul] at x
       exact key _ _ ⟨o4, es, ss, bs, rfl, fr, x⟩
   rintro _ H4 ⟨o4, es, ss, bs, rfl, fr4, x4⟩
   have hD4 := fr4 _ _ hDn hD3
   have r4 : Reps K H4 us ((List.replicate n ([] : List Int)).map tI) := Reps.t (fr4.t x3) (imms_tIs _) r3
   have sa4 : SqL K (hidG H4 (W4 pc sh ed en)) a (ns.map V.int) := (fr4.hid fun c w => w).seq sa3
   refine tSeq_cut (fun σ' H' => ∃ (hd : Addr) (ps : List V), σ' = [some (.ref a), some (.ref g), some (.int F), some (.ref D), o4, some (.ref hd), none, none, none] ∧ Same H4 H' ∧ H4 hd = none ∧ LawG K C_Growth H' g pc sh ed en hd D 2 (List.replicate n []) es ss bs ps ∧ ps.length ≤ 1) ?_ fun key => ?_
   rotate_left
   · obtain ⟨dx, fs, hg, l1, l2, l3, l4, l5, lm⟩ := x4.ob
     refine ⟨_, rfl, g, dx, fs, rfl, hg, lm.2.2.2.1, g, pc, sh, ed, en, 2, _, es, ss, bs, rfl, x4, fun l vs H5 nl s5 hl5 r5 => ?_⟩
     refine ⟨_, rfl, D, us, rfl, .inl (.of (s5 _ _ hD4)), fun m hm => ?_⟩
     have s6 := Same.new (o := .lst us) hm
     have em : upd H5 m (.lst us) m = some (.lst us) := upd_same
     have nm : H4 m = none := s5.free hm
     generalize upd H5 m (.lst us) = H6 at s6 em ⊢
     refine ⟨smallE (by simp), fun t ht => ?_⟩
     have s7 := Same.new (o := .tup [.ref l, .ref m]) ht
     have et : upd H6 t (.tup [.ref l, .ref m]) t = some (.tup [.ref l, .ref m]) := upd_same
     have s56 := s5.trans s6
     have nt : H4 t = none := s56.free ht
     generalize upd H6 t (.tup [.ref l, .ref m]) = H7 at s7 et ⊢
     refine ⟨smallE (by simp), fun hd hhd => ?_⟩
     have s8 := Same.new (o := .lst [.ref t]) hhd
     have eh : upd H7 hd (.lst [.ref t]) hd = some (.lst [.ref t]) := upd_same
     have s57 := s56.trans s7
     have nh : H4 hd = none := s57.free hhd
     have th : t ≠ hd := ne_of_none et hhd
     have lh' : l ≠ hd := ne_of_none ((s6.trans s7) _ _ hl5) hhd
     have mh : m ≠ hd := ne_of_none (s7 _ _ em) hhd
     have Dh : D ≠ hd := ne_of_none (s57 _ _ hD4) hhd
     generalize upd H7 hd (.lst [.ref t]) = H8 at s8 eh ⊢
     have s58 := s57.trans s8
     have notW : ∀ c, H4 c = none → c ≠ hd → ¬ (WH pc sh ed en hd) c := fun c e n w => by
       rcases w with w | w
       · rcases x4.mut c w with ⟨_, z⟩ | ⟨_, z⟩ <;> (rw [z] at e; cases e)
       · exact n w
     have hid : ∀ c o, H4 c = none → c ≠ hd → H8 c = some o → hidG H8 (WH pc sh ed en hd) c = some o := fun c o e n h => by rw [hidG_no (notW c e n)]; exact h
     have l8 := (s6.trans (s7.trans s8)) _ _ hl5
     have m8 := (s7.trans s8) _ _ em
     have t8 := s8 _ _ et
     have hW8 : ¬ (WH pc sh ed en hd) D := fun w => by
       rcases w with w | w
       · exact hDn w
       · exact Dh w
     refine key _ _ ⟨hd, [.ref t], rfl, s58, nh, ⟨x4.same s58, ⟨us, by rw [hidG_no hW8]; exact s58 _ _ hD4, Reps.same s58 r4⟩, eh, fun v hv => ?_, ?_⟩, by simp⟩
     · have : v = .ref t := by simpa using hv
       subst this
       exact ⟨t, l, m, _, rfl, hid t _ nt th t8, ⟨vs, hid l _ nl lh' l8, Reps.same (s6.trans (s7.trans s8)) r5⟩, ⟨us, hid m _ nm mh m8, Reps.same s58 r4⟩, x4.le4⟩
     · have q1 := x4.mut pc (.inl rfl)
       have q2 := x4.mut sh (.inr (.inl rfl))
       have q3 := x4.mut ed (.inr (.inr (.inl rfl)))
       exact ⟨fun z => q1.there (by rw [← z]; exact nh), fun z => q2.there (by rw [← z]; exact nh), fun z => q3.there (by rw [← z]; exact nh)⟩
   rintro _ H5 ⟨hd, ps, rfl, s5, nhd, L5, hpl⟩
   have sa5 : SqL K H5 a (ns.map V.int) := (hidG_same.trans s5).seq sa4
   refine tSeq_cut (t := tFor _ _ _) (fun σ' G => ∃ (D' : Addr) (o6 : Option V) (xs : List (List Int)) (es ss : List Ms) (bs : Ms) (ps : List V), σ' = [some (.ref a), some (.ref g), some (.int F), some (.ref D'), o4, some (.ref hd), o6, none, none] ∧ LawG K C_Growth G g pc sh ed en hd D' 2 xs es ss bs ps) ?_ fun key => ?_
   rotate_left
   · refine ⟨_, rfl, _, rfl, _, rfl, a, _, rfl, sa5, fun C hC => ?_⟩
     rw [cutV_map]
     have sC := Same.new (o := .lst ((cutS ns (some 1) (some 63)).map V.int)) hC
     have eC : (upd H5 C (.lst ((cutS ns (some 1) (some 63)).map V.int))) C = some (.lst ((cutS ns (some 1) (some 63)).map V.int)) := upd_same
     have cl := cutS_len ns (some 1) (some 63)
     generalize cutS ns (some 1) (some 63) = cs at sC eC cl ⊢
     generalize upd H5 C (.lst (cs.map V.int)) = H6 at sC eC ⊢
     have L6 := L5.same sC
     have CW : hidG H6 (WH pc sh ed en hd) C = some (.lst (cs.map V.int)) := hidG_new (fun c w => (L5.mut c w).there) hC eC
     refine ⟨C, rfl, ⟨_, .of eC⟩, ?_⟩
     refine for_list (K := K) (a := C) (xs := cs.map V.int) (fun i σ' G => ∃ (D' : Addr) (o6 : Option V) (xs : List (List Int)) (es ss : List Ms) (bs : Ms) (ps : List V), σ' = [some (.ref a), some (.ref g), some (.int F), some (.ref D'), o4, some (.ref hd), o6, none, none] ∧ LawG K C_Growth G g pc sh ed en hd D' 2 xs es ss bs ps ∧ hidG G (WH pc sh ed en hd) C = some (.lst (cs.map V.int)) ∧ ps.length ≤ i + 1)
       ⟨D, none, _, es, ss, bs, ps, rfl, L6, CW, by omega⟩ (fun i σ' G _ ⟨_, _, _, _, _, _, _, _, _, h, _⟩ => .of (hidG_same _ _ h)) ?_ ?_
     · rintro i y σ' G hy ⟨D', o6, xs, es, ss, bs, ps, rfl, L, hC', hpl'⟩
       have hi : i < cs.length := by have := (List.getElem?_eq_some_iff.mp hy).1; simpa using this
       obtain ⟨cell, rfl⟩ : ∃ cell : Int, y = .int cell := by
         rw [List.getElem?_map, List.getElem?_eq_getElem hi] at hy
         exact ⟨cs[i], by simpa using hy.symm⟩
       refine tSeq_cut (t := tIfS _ _ _) (fun σ2 G2 => ∃ (D2 : Addr) (xs2 : List (List Int)) (es2 ss2 : List Ms) (bs2 : Ms), σ2 = [some (.ref a), some (.ref g), some (.int F), some (.ref D2), o4, some (.ref hd), some (.int cell), none, none] ∧ LawG K C_Growth G2 g pc sh ed en hd D2 2 xs2 es2 ss2 bs2 ps ∧ FrW (WH pc sh ed en hd) G G2) ?_ fun key2 => ?_
       rotate_left
       · refine ⟨_, rfl, _, _, rfl, rfl, (by show (0 : Int) < 5; decide), rfl, _, rfl, ?_⟩
         refine ite2 (fun _ => ?_) (fun _ => ?_)
         · exact ⟨_, rfl, _, rfl, g, pc, sh, ed, en, D', (WH pc sh ed en hd), 2, xs, es, ss, bs, rfl, L.gr, fun c w => .inl w, L.mut, L.lh, fun a' xs' es' ss' bs' H' fr x' lh => key2 _ _ ⟨a', xs', es', ss', bs', rfl, L.fr fr x' lh, FrW.ofG (fun c w => .inl w) fr⟩⟩
         · refine ⟨_, rfl, _, rfl, _, rfl, _, rfl, _, _, rfl, rfl, (by show (0 : Int) < 5000015; decide), _, _, rfl, rfl, ⟨by decide, by decide⟩, D', _, xs, rfl, L.lh.lt, shape_cnt L.gr.gw.shp, L.gr.le4.1, fun v e G1 g1 hv => ?_⟩
           have L1 := L.same g1
           exact ⟨g, pc, sh, ed, en, D', v, e, (WH pc sh ed en hd), 2, xs, es, ss, bs, rfl, L1.gr, fun c w => .inl w, L1.mut, L1.lh, hv, fun a' xs' es' ss' bs' H' fr x' lh => key2 _ _ ⟨a', xs', es', ss', bs', rfl, L1.fr fr x' lh, (FrW.of g1).trans (FrW.ofG (fun c w => .inl w) fr)⟩⟩
       rintro _ G2 ⟨D2, xs2, es2, ss2, bs2, rfl, L2, fr2⟩
       have hC2 := fr2.hid _ _ hC'
       refine ⟨_, rfl, rfl, _, rfl, ?_⟩
       refine ifN (by simp) ?_
       obtain ⟨dx, fs, hg, l1, l2, l3, l4, l5, lm⟩ := L2.gr.ob
       refine ⟨_, rfl, g, dx, fs, rfl, hg, lm.2.2.2.1, g, pc, sh, ed, en, 2, _, es2, ss2, bs2, rfl, L2.gr, fun l vs G3 nl s3' hl3 r3' => ?_⟩
       refine ⟨.inl ⟨rfl, vs, .of hl3⟩, l, vs, rfl, rfl, hl3, ?_⟩
       have s4 : Same G2 (upd G3 l (.lst [])) := s3'.turn nl
       generalize upd G3 l (.lst []) = G4 at s4 ⊢
       have L4 := L2.same s4
       have hC4 := same_hidG s4 _ _ hC2
       obtain ⟨us4, hu4, ru4⟩ := id L4.lh
       have hD4' := hidG_same _ _ hu4
       refine ⟨_, rfl, .inl ⟨rfl, ps, .of L4.at_⟩, _, rfl, g, dx, fs, rfl, s4 _ _ hg, lm.2.2.2.1, g, pc, sh, ed, en, 2, _, es2, ss2, bs2, rfl, L4.gr, fun l' vs' G5 nl' s5' hl5 r5' => ?_⟩
       refine ⟨_, rfl, D2, us4, rfl, .inl (.of (s5' _ _ hD4')), fun m hm => ?_⟩
       have s6 := Same.new (o := .lst us4) hm
       have em : upd G5 m (.lst us4) m = some (.lst us4) := upd_same
       have nm : G4 m = none := s5'.free hm
       generalize upd G5 m (.lst us4) = G6 at s6 em ⊢
       refine ⟨smallE (by simp), fun t ht => ?_⟩
       have s7 := Same.new (o := .tup [.ref l', .ref m]) ht
       have et : upd G6 t (.tup [.ref l', .ref m]) t = some (.tup [.ref l', .ref m]) := upd_same
       have s46 := s5'.trans s6
       have nt : G4 t = none := s46.free ht
       generalize upd G6 t (.tup [.ref l', .ref m]) = G7 at s7 et ⊢
       have s47 := s46.trans s7
       have L7 := L4.same s47
       have pr : PairAt K G7 (WH pc sh ed en hd) (.ref t) := PairAt.mk L4.mut nt nl' nm et ((s6.trans s7) _ _ hl5) (s7 _ _ em) (Reps.same (s6.trans s7) r5') (Reps.same s47 ru4) L4.gr.le4
       refine ⟨hd, ps, _, rfl, rfl, L7.at_, small (by omega), ?_⟩
       exact ⟨D2, _, xs2, es2, ss2, bs2, _, rfl, L7.put pr, (FrW.up (.inr rfl)).hid _ _ (same_hidG s47 _ _ hC4), by simp; omega⟩
     · rintro σ' G ⟨D', o6, xs, es, ss, bs, ps, rfl, L, _, _⟩
       exact key _ _ ⟨D', o6, xs, es, ss, bs, ps, rfl, L⟩
   rintro _ G ⟨D', o6, xs, es', ss', bs', ps', rfl, L⟩
   refine ⟨_, rfl, hd, rfl, ⟨_, .of L.at_⟩, ?_⟩
   refine for_list (K := K) (a := hd) (xs := ps') (fun i σ' G1 => ∃ (o7 o8 : Option V), σ' = [some (.ref a), some (.ref g), some (.int F), some (.ref D'), o4, some (.ref hd), o6, o7, o8] ∧ Same G G1)
     ⟨none, none, rfl, Same.refl G⟩ (fun i σ' G1 _ ⟨_, _, _, g1⟩ => .of (g1 _ _ L.at_)) ?_ ?_
   · rintro i v σ' G1 hv ⟨o7, o8, rfl, g1⟩
     obtain ⟨t, l, m, ys, rfl, ht, hl', hm, h5, h6⟩ := L.ha v (List.mem_of_getElem? hv)
     refine ⟨t, _, rfl, .of (g1 _ _ (hidG_same _ _ ht)), rfl, _, _, rfl, _, _, rfl, rfl, ?_⟩
     refine ⟨_, rfl, _, rfl, l, m, ys, rfl, (LH.same g1 hl').lt, (LH.same g1 hm).lt, h5, h6, fun G2 g2 => ⟨_, rfl, ?_⟩⟩
     refine ifN (by decide) ?_
     exact ⟨_, _, rfl, g1.trans g2⟩
   · rintro σ' G1 ⟨o7, o8, rfl, g1⟩
     exact k G1
end
end Hb
namespace Hb
open PySem L2
theorem elim1 {α : Type} {P : List α → Prop} (h : ∀ a0, P [a0]) (us : List α) (hl : us.length = 1) : P us := by
 cases us with
 | nil => exact nomatch hl
 | cons a0 u0 =>
   cases u0 with
   | nil => exact h a0
   | cons _ _ => simp at hl
theorem elim2 {α : Type} {P : List α → Prop} (h : ∀ a0 a1, P [a0, a1]) (us : List α) (hl : us.length = 2) : P us := by
 cases us with
 | nil => exact nomatch hl
 | cons a0 u0 =>
   cases u0 with
   | nil => exact nomatch hl
   | cons a1 u1 =>
     cases u1 with
     | nil => exact h a0 a1
     | cons _ _ => simp at hl
theorem elim3 {α : Type} {P : List α → Prop} (h : ∀ a0 a1 a2, P [a0, a1, a2]) (us : List α) (hl : us.length = 3) : P us := by
 cases us with
 | nil => exact nomatch hl
 | cons a0 u0 =>
   cases u0 with
   | nil => exact nomatch hl
   | cons a1 u1 =>
     cases u1 with
     | nil => exact nomatch hl
     | cons a2 u2 =>
       cases u2 with
       | nil => exact h a0 a1 a2
       | cons _ _ => simp at hl
set_option maxHeartbeats 4000000 in
theorem all_mk {l : PySem.W.OpenLaw} {w : World} {K : PySem.W.Frag} {h : Heap} {mg : Str → Option Value} {fa : Addr} {C_HoleError : Addr}
   {C_NoShape : Addr}
   {C_NoStage : Addr}
   {C_NoPiece : Addr}
   {C_Growth : Addr}
   {f_is_whole : Addr} {od_is_whole an_is_whole : Option Addr} {sl_is_whole : Array (Option Value)} {oc_is_whole kV_is_whole dc_is_whole pm_is_whole cd_is_whole ct_is_whole : Value}
   {f_shared_divisor : Addr} {od_shared_divisor an_shared_divisor : Option Addr} {sl_shared_divisor : Array (Option Value)} {oc_shared_divisor kV_shared_divisor dc_shared_divisor pm_shared_divisor cd_shared_divisor ct_shared_divisor : Value}
   {f_level_of : Addr} {od_level_of an_level_of : Option Addr} {sl_level_of : Array (Option Value)} {oc_level_of kV_level_of dc_level_of pm_level_of cd_level_of ct_level_of : Value}
   {f_faces_agree : Addr} {od_faces_agree an_faces_agree : Option Addr} {sl_faces_agree : Array (Option Value)} {oc_faces_agree kV_faces_agree dc_faces_agree pm_faces_agree cd_faces_agree ct_faces_agree : Value}
   {f_add_at : Addr} {od_add_at an_add_at : Option Addr} {sl_add_at : Array (Option Value)} {oc_add_at kV_add_at dc_add_at pm_add_at cd_add_at ct_add_at : Value}
   {f_times : Addr} {od_times an_times : Option Addr} {sl_times : Array (Option Value)} {oc_times kV_times dc_times pm_times cd_times ct_times : Value}
   {f_NoPiece__init_ : Addr} {od_NoPiece__init_ an_NoPiece__init_ : Option Addr} {sl_NoPiece__init_ : Array (Option Value)} {oc_NoPiece__init_ kV_NoPiece__init_ dc_NoPiece__init_ pm_NoPiece__init_ cd_NoPiece__init_ ct_NoPiece__init_ : Value}
   {f_check_size : Addr} {od_check_size an_check_size : Option Addr} {sl_check_size : Array (Option Value)} {oc_check_size kV_check_size dc_check_size pm_check_size cd_check_size ct_check_size : Value}
   {f_counted : Addr} {od_counted an_counted : Option Addr} {sl_counted : Array (Option Value)} {oc_counted kV_counted dc_counted pm_counted cd_counted ct_counted : Value}
   {f_Growth_take_back : Addr} {od_Growth_take_back an_Growth_take_back : Option Addr} {sl_Growth_take_back : Array (Option Value)} {oc_Growth_take_back kV_Growth_take_back dc_Growth_take_back pm_Growth_take_back cd_Growth_take_back ct_Growth_take_back : Value}
   {f_Growth_shape : Addr} {od_Growth_shape an_Growth_shape : Option Addr} {sl_Growth_shape : Array (Option Value)} {oc_Growth_shape kV_Growth_shape dc_Growth_shape pm_Growth_shape cd_Growth_shape ct_Growth_shape : Value}
   {f_L_whole : Addr} {od_L_whole an_L_whole : Option Addr} {sl_L_whole : Array (Option Value)} {oc_L_whole kV_L_whole dc_L_whole pm_L_whole cd_L_whole ct_L_whole : Value}
   {f_L_cell_at : Addr} {od_L_cell_at an_L_cell_at : Option Addr} {sl_L_cell_at : Array (Option Value)} {oc_L_cell_at kV_L_cell_at dc_L_cell_at pm_L_cell_at cd_L_cell_at ct_L_cell_at : Value}
   {f_L_level : Addr} {od_L_level an_L_level : Option Addr} {sl_L_level : Array (Option Value)} {oc_L_level kV_L_level dc_L_level pm_L_level cd_L_level ct_L_level : Value}
   {f_L_meets : Addr} {od_L_meets an_L_meets : Option Addr} {sl_L_meets : Array (Option Value)} {oc_L_meets kV_L_meets dc_L_meets pm_L_meets cd_L_meets ct_L_meets : Value}
   {f_L_pick : Addr} {od_L_pick an_L_pick : Option Addr} {sl_L_pick : Array (Option Value)} {oc_L_pick kV_L_pick dc_L_pick pm_L_pick cd_L_pick ct_L_pick : Value}
   {f_is_whole_below : Addr} {od_is_whole_below an_is_whole_below : Option Addr} {sl_is_whole_below : Array (Option Value)} {oc_is_whole_below kV_is_whole_below dc_is_whole_below pm_is_whole_below cd_is_whole_below ct_is_whole_below : Value}
   {f_plus : Addr} {od_plus an_plus : Option Addr} {sl_plus : Array (Option Value)} {oc_plus kV_plus dc_plus pm_plus cd_plus ct_plus : Value}
   {f_add_faces : Addr} {od_add_faces an_add_faces : Option Addr} {sl_add_faces : Array (Option Value)} {oc_add_faces kV_add_faces dc_add_faces pm_add_faces cd_add_faces ct_add_faces : Value}
   {f_turned_over : Addr} {od_turned_over an_turned_over : Option Addr} {sl_turned_over : Array (Option Value)} {oc_turned_over kV_turned_over dc_turned_over pm_turned_over cd_turned_over ct_turned_over : Value}
   {f_L_fits : Addr} {od_L_fits an_L_fits : Option Addr} {sl_L_fits : Array (Option Value)} {oc_L_fits kV_L_fits dc_L_fits pm_L_fits cd_L_fits ct_L_fits : Value}
   {f_L_side : Addr} {od_L_side an_L_side : Option Addr} {sl_L_side : Array (Option Value)} {oc_L_side kV_L_side dc_L_side pm_L_side cd_L_side ct_L_side : Value}
   {f_L_same : Addr} {od_L_same an_L_same : Option Addr} {sl_L_same : Array (Option Value)} {oc_L_same kV_L_same dc_L_same pm_L_same cd_L_same ct_L_same : Value}
   {f_L_answer : Addr} {od_L_answer an_L_answer : Option Addr} {sl_L_answer : Array (Option Value)} {oc_L_answer kV_L_answer dc_L_answer pm_L_answer cd_L_answer ct_L_answer : Value}
   {f_is_place_of_level : Addr} {od_is_place_of_level an_is_place_of_level : Option Addr} {sl_is_place_of_level : Array (Option Value)} {oc_is_place_of_level kV_is_place_of_level dc_is_place_of_level pm_is_place_of_level cd_is_place_of_level ct_is_place_of_level : Value}
   {f_is_prime : Addr} {od_is_prime an_is_prime : Option Addr} {sl_is_prime : Array (Option Value)} {oc_is_prime kV_is_prime dc_is_prime pm_is_prime cd_is_prime ct_is_prime : Value}
   {f_Growth_settled : Addr} {od_Growth_settled an_Growth_settled : Option Addr} {sl_Growth_settled : Array (Option Value)} {oc_Growth_settled kV_Growth_settled dc_Growth_settled pm_Growth_settled cd_Growth_settled ct_Growth_settled : Value}
   {f_L_next : Addr} {od_L_next an_L_next : Option Addr} {sl_L_next : Array (Option Value)} {oc_L_next kV_L_next dc_L_next pm_L_next cd_L_next ct_L_next : Value}
   {f_L_taken : Addr} {od_L_taken an_L_taken : Option Addr} {sl_L_taken : Array (Option Value)} {oc_L_taken kV_L_taken dc_L_taken pm_L_taken cd_L_taken ct_L_taken : Value}
   {f_fits : Addr} {od_fits an_fits : Option Addr} {sl_fits : Array (Option Value)} {oc_fits kV_fits dc_fits pm_fits cd_fits ct_fits : Value}
   {f_Growth__init_ : Addr} {od_Growth__init_ an_Growth__init_ : Option Addr} {sl_Growth__init_ : Array (Option Value)} {oc_Growth__init_ kV_Growth__init_ dc_Growth__init_ pm_Growth__init_ cd_Growth__init_ ct_Growth__init_ : Value}
   {dt_Growth__init_ : Addr} {tn_Growth__init_ : Nat} {tsl_Growth__init_ : Array (Option Value)} {tdd_Growth__init_ : Option Addr} {tk_Growth__init__0 : Tok}
   {f_L_thing_by : Addr} {od_L_thing_by an_L_thing_by : Option Addr} {sl_L_thing_by : Array (Option Value)} {oc_L_thing_by kV_L_thing_by dc_L_thing_by pm_L_thing_by cd_L_thing_by ct_L_thing_by : Value}
   {f_Growth_grow : Addr} {od_Growth_grow an_Growth_grow : Option Addr} {sl_Growth_grow : Array (Option Value)} {oc_Growth_grow kV_Growth_grow dc_Growth_grow pm_Growth_grow cd_Growth_grow ct_Growth_grow : Value}
   {f_L_deed : Addr} {od_L_deed an_L_deed : Option Addr} {sl_L_deed : Array (Option Value)} {oc_L_deed kV_L_deed dc_L_deed pm_L_deed cd_L_deed ct_L_deed : Value}
   {f_law : Addr} {od_law an_law : Option Addr} {sl_law : Array (Option Value)} {oc_law kV_law dc_law pm_law cd_law ct_law : Value}
   {N_NoPiece : Addr} {nm_NoPiece q_NoPiece : Str} {bs_NoPiece : List Value} {sn_NoPiece : List Str} {sub_NoPiece : List Value} {ab_NoPiece : Bool} {col_NoPiece : Option Bool} {dd_NoPiece : Option Addr} {k0_NoPiece k1_NoPiece k2_NoPiece k3_NoPiece k5_NoPiece : Option Value}
   {t_MOST_PIECES : Tok}
   {t_PRIME_BOUND : Tok}
   {fc_FACE_COUNTS : Addr} {nc_FACE_COUNTS : Nat} {slc_FACE_COUNTS : Array (Option Value)} {tc_FACE_COUNTS_0 tc_FACE_COUNTS_1 tc_FACE_COUNTS_2 tc_FACE_COUNTS_3 : Tok}
   (X : K.In h) (G : h.Ns mainGlobals mg) (hfa : mg "law" = some (.ref fa))
   (ac_HoleError : PySem.W.nsIn K mainGlobals "HoleError" = some (some (.ref C_HoleError)))
   (ac_NoShape : PySem.W.nsIn K mainGlobals "NoShape" = some (some (.ref C_NoShape)))
   (ac_NoStage : PySem.W.nsIn K mainGlobals "NoStage" = some (some (.ref C_NoStage)))
   (ac_NoPiece : PySem.W.nsIn K mainGlobals "NoPiece" = some (some (.ref C_NoPiece)))
   (ac_Growth : PySem.W.nsIn K mainGlobals "Growth" = some (some (.ref C_Growth)))
   (a_is_whole : PySem.W.nsIn K mainGlobals "is_whole" = some (some (.ref f_is_whole)))
   (l_is_whole : K.lookup f_is_whole = some ⟨oc_is_whole, od_is_whole, .func (PySem.W.fnOf "is_whole" "is_whole" (defArgs s_is_whole) (defBody s_is_whole) (defScope s_is_whole) .none kV_is_whole dc_is_whole pm_is_whole an_is_whole cd_is_whole ct_is_whole), sl_is_whole⟩)
   (c_is_whole : PySem.W.codeIn K cd_is_whole "is_whole" = true)
   (k_is_whole : PySem.W.keepIn K (.ref f_is_whole) = true)
   (a_shared_divisor : PySem.W.nsIn K mainGlobals "shared_divisor" = some (some (.ref f_shared_divisor)))
   (l_shared_divisor : K.lookup f_shared_divisor = some ⟨oc_shared_divisor, od_shared_divisor, .func (PySem.W.fnOf "shared_divisor" "shared_divisor" (defArgs s_shared_divisor) (defBody s_shared_divisor) (defScope s_shared_divisor) .none kV_shared_divisor dc_shared_divisor pm_shared_divisor an_shared_divisor cd_shared_divisor ct_shared_divisor), sl_shared_divisor⟩)
   (c_shared_divisor : PySem.W.codeIn K cd_shared_divisor "shared_divisor" = true)
   (k_shared_divisor : PySem.W.keepIn K (.ref f_shared_divisor) = true)
   (a_level_of : PySem.W.nsIn K mainGlobals "level_of" = some (some (.ref f_level_of)))
   (l_level_of : K.lookup f_level_of = some ⟨oc_level_of, od_level_of, .func (PySem.W.fnOf "level_of" "level_of" (defArgs s_level_of) (defBody s_level_of) (defScope s_level_of) .none kV_level_of dc_level_of pm_level_of an_level_of cd_level_of ct_level_of), sl_level_of⟩)
   (c_level_of : PySem.W.codeIn K cd_level_of "level_of" = true)
   (k_level_of : PySem.W.keepIn K (.ref f_level_of) = true)
   (a_faces_agree : PySem.W.nsIn K mainGlobals "faces_agree" = some (some (.ref f_faces_agree)))
   (l_faces_agree : K.lookup f_faces_agree = some ⟨oc_faces_agree, od_faces_agree, .func (PySem.W.fnOf "faces_agree" "faces_agree" (defArgs s_faces_agree) (defBody s_faces_agree) (defScope s_faces_agree) .none kV_faces_agree dc_faces_agree pm_faces_agree an_faces_agree cd_faces_agree ct_faces_agree), sl_faces_agree⟩)
   (c_faces_agree : PySem.W.codeIn K cd_faces_agree "faces_agree" = true)
   (k_faces_agree : PySem.W.keepIn K (.ref f_faces_agree) = true)
   (a_add_at : PySem.W.nsIn K mainGlobals "add_at" = some (some (.ref f_add_at)))
   (l_add_at : K.lookup f_add_at = some ⟨oc_add_at, od_add_at, .func (PySem.W.fnOf "add_at" "add_at" (defArgs s_add_at) (defBody s_add_at) (defScope s_add_at) .none kV_add_at dc_add_at pm_add_at an_add_at cd_add_at ct_add_at), sl_add_at⟩)
   (c_add_at : PySem.W.codeIn K cd_add_at "add_at" = true)
   (k_add_at : PySem.W.keepIn K (.ref f_add_at) = true)
   (a_times : PySem.W.nsIn K mainGlobals "times" = some (some (.ref f_times)))
   (l_times : K.lookup f_times = some ⟨oc_times, od_times, .func (PySem.W.fnOf "times" "times" (defArgs s_times) (defBody s_times) (defScope s_times) .none kV_times dc_times pm_times an_times cd_times ct_times), sl_times⟩)
   (c_times : PySem.W.codeIn K cd_times "times" = true)
   (k_times : PySem.W.keepIn K (.ref f_times) = true)
   (a_NoPiece__init_ : PySem.W.findIn K (.ref C_NoPiece) "__init__" = some (some (.ref f_NoPiece__init_)))
   (if_NoPiece__init_ : PySem.W.isFn K (.ref f_NoPiece__init_) = true)
   (l_NoPiece__init_ : K.lookup f_NoPiece__init_ = some ⟨oc_NoPiece__init_, od_NoPiece__init_, .func (PySem.W.fnOf "__init__" "NoPiece.__init__" (defArgs s_NoPiece__init_) (defBody s_NoPiece__init_) (defScope s_NoPiece__init_) .none kV_NoPiece__init_ dc_NoPiece__init_ pm_NoPiece__init_ an_NoPiece__init_ cd_NoPiece__init_ ct_NoPiece__init_), sl_NoPiece__init_⟩)
   (c_NoPiece__init_ : PySem.W.codeIn K cd_NoPiece__init_ "NoPiece.__init__" = true)
   (k_NoPiece__init_ : PySem.W.keepIn K (.ref f_NoPiece__init_) = true)
   (a_check_size : PySem.W.nsIn K mainGlobals "check_size" = some (some (.ref f_check_size)))
   (l_check_size : K.lookup f_check_size = some ⟨oc_check_size, od_check_size, .func (PySem.W.fnOf "check_size" "check_size" (defArgs s_check_size) (defBody s_check_size) (defScope s_check_size) .none kV_check_size dc_check_size pm_check_size an_check_size cd_check_size ct_check_size), sl_check_size⟩)
   (c_check_size : PySem.W.codeIn K cd_check_size "check_size" = true)
   (k_check_size : PySem.W.keepIn K (.ref f_check_size) = true)
   (a_counted : PySem.W.nsIn K mainGlobals "counted" = some (some (.ref f_counted)))
   (l_counted : K.lookup f_counted = some ⟨oc_counted, od_counted, .func (PySem.W.fnOf "counted" "counted" (defArgs s_counted) (defBody s_counted) (defScope s_counted) .none kV_counted dc_counted pm_counted an_counted cd_counted ct_counted), sl_counted⟩)
   (c_counted : PySem.W.codeIn K cd_counted "counted" = true)
   (k_counted : PySem.W.keepIn K (.ref f_counted) = true)
   (a_Growth_take_back : PySem.W.findIn K (.ref C_Growth) "take_back" = some (some (.ref f_Growth_take_back)))
   (if_Growth_take_back : PySem.W.isFn K (.ref f_Growth_take_back) = true)
   (l_Growth_take_back : K.lookup f_Growth_take_back = some ⟨oc_Growth_take_back, od_Growth_take_back, .func (PySem.W.fnOf "take_back" "Growth.take_back" (defArgs s_Growth_take_back) (defBody s_Growth_take_back) (defScope s_Growth_take_back) .none kV_Growth_take_back dc_Growth_take_back pm_Growth_take_back an_Growth_take_back cd_Growth_take_back ct_Growth_take_back), sl_Growth_take_back⟩)
   (c_Growth_take_back : PySem.W.codeIn K cd_Growth_take_back "Growth.take_back" = true)
   (k_Growth_take_back : PySem.W.keepIn K (.ref f_Growth_take_back) = true)
   (a_Growth_shape : PySem.W.findIn K (.ref C_Growth) "shape" = some (some (.ref f_Growth_shape)))
   (if_Growth_shape : PySem.W.isFn K (.ref f_Growth_shape) = true)
   (l_Growth_shape : K.lookup f_Growth_shape = some ⟨oc_Growth_shape, od_Growth_shape, .func (PySem.W.fnOf "shape" "Growth.shape" (defArgs s_Growth_shape) (defBody s_Growth_shape) (defScope s_Growth_shape) .none kV_Growth_shape dc_Growth_shape pm_Growth_shape an_Growth_shape cd_Growth_shape ct_Growth_shape), sl_Growth_shape⟩)
   (c_Growth_shape : PySem.W.codeIn K cd_Growth_shape "Growth.shape" = true)
   (k_Growth_shape : PySem.W.keepIn K (.ref f_Growth_shape) = true)
   (a_L_whole : PySem.W.nsIn K mainGlobals "_law_whole" = some (some (.ref f_L_whole)))
   (l_L_whole : K.lookup f_L_whole = some ⟨oc_L_whole, od_L_whole, .func (PySem.W.fnOf "_law_whole" "_law_whole" (defArgs s_L_whole) (defBody s_L_whole) (defScope s_L_whole) .none kV_L_whole dc_L_whole pm_L_whole an_L_whole cd_L_whole ct_L_whole), sl_L_whole⟩)
   (c_L_whole : PySem.W.codeIn K cd_L_whole "_law_whole" = true)
   (k_L_whole : PySem.W.keepIn K (.ref f_L_whole) = true)
   (a_L_cell_at : PySem.W.nsIn K mainGlobals "_law_cell_at" = some (some (.ref f_L_cell_at)))
   (l_L_cell_at : K.lookup f_L_cell_at = some ⟨oc_L_cell_at, od_L_cell_at, .func (PySem.W.fnOf "_law_cell_at" "_law_cell_at" (defArgs s_L_cell_at) (defBody s_L_cell_at) (defScope s_L_cell_at) .none kV_L_cell_at dc_L_cell_at pm_L_cell_at an_L_cell_at cd_L_cell_at ct_L_cell_at), sl_L_cell_at⟩)
   (c_L_cell_at : PySem.W.codeIn K cd_L_cell_at "_law_cell_at" = true)
   (k_L_cell_at : PySem.W.keepIn K (.ref f_L_cell_at) = true)
   (a_L_level : PySem.W.nsIn K mainGlobals "_law_level" = some (some (.ref f_L_level)))
   (l_L_level : K.lookup f_L_level = some ⟨oc_L_level, od_L_level, .func (PySem.W.fnOf "_law_level" "_law_level" (defArgs s_L_level) (defBody s_L_level) (defScope s_L_level) .none kV_L_level dc_L_level pm_L_level an_L_level cd_L_level ct_L_level), sl_L_level⟩)
   (c_L_level : PySem.W.codeIn K cd_L_level "_law_level" = true)
   (k_L_level : PySem.W.keepIn K (.ref f_L_level) = true)
   (a_L_meets : PySem.W.nsIn K mainGlobals "_law_meets" = some (some (.ref f_L_meets)))
   (l_L_meets : K.lookup f_L_meets = some ⟨oc_L_meets, od_L_meets, .func (PySem.W.fnOf "_law_meets" "_law_meets" (defArgs s_L_meets) (defBody s_L_meets) (defScope s_L_meets) .none kV_L_meets dc_L_meets pm_L_meets an_L_meets cd_L_meets ct_L_meets), sl_L_meets⟩)
   (c_L_meets : PySem.W.codeIn K cd_L_meets "_law_meets" = true)
   (k_L_meets : PySem.W.keepIn K (.ref f_L_meets) = true)
   (a_L_pick : PySem.W.nsIn K mainGlobals "_law_pick" = some (some (.ref f_L_pick)))
   (l_L_pick : K.lookup f_L_pick = some ⟨oc_L_pick, od_L_pick, .func (PySem.W.fnOf "_law_pick" "_law_pick" (defArgs s_L_pick) (defBody s_L_pick) (defScope s_L_pick) .none kV_L_pick dc_L_pick pm_L_pick an_L_pick cd_L_pick ct_L_pick), sl_L_pick⟩)
   (c_L_pick : PySem.W.codeIn K cd_L_pick "_law_pick" = true)
   (k_L_pick : PySem.W.keepIn K (.ref f_L_pick) = true)
   (a_is_whole_below : PySem.W.nsIn K mainGlobals "is_whole_below" = some (some (.ref f_is_whole_below)))
   (l_is_whole_below : K.lookup f_is_whole_below = some ⟨oc_is_whole_below, od_is_whole_below, .func (PySem.W.fnOf "is_whole_below" "is_whole_below" (defArgs s_is_whole_below) (defBody s_is_whole_below) (defScope s_is_whole_below) .none kV_is_whole_below dc_is_whole_below pm_is_whole_below an_is_whole_below cd_is_whole_below ct_is_whole_below), sl_is_whole_below⟩)
   (c_is_whole_below : PySem.W.codeIn K cd_is_whole_below "is_whole_below" = true)
   (k_is_whole_below : PySem.W.keepIn K (.ref f_is_whole_below) = true)
   (a_plus : PySem.W.nsIn K mainGlobals "plus" = some (some (.ref f_plus)))
   (l_plus : K.lookup f_plus = some ⟨oc_plus, od_plus, .func (PySem.W.fnOf "plus" "plus" (defArgs s_plus) (defBody s_plus) (defScope s_plus) .none kV_plus dc_plus pm_plus an_plus cd_plus ct_plus), sl_plus⟩)
   (c_plus : PySem.W.codeIn K cd_plus "plus" = true)
   (k_plus : PySem.W.keepIn K (.ref f_plus) = true)
   (a_add_faces : PySem.W.nsIn K mainGlobals "add_faces" = some (some (.ref f_add_faces)))
   (l_add_faces : K.lookup f_add_faces = some ⟨oc_add_faces, od_add_faces, .func (PySem.W.fnOf "add_faces" "add_faces" (defArgs s_add_faces) (defBody s_add_faces) (defScope s_add_faces) .none kV_add_faces dc_add_faces pm_add_faces an_add_faces cd_add_faces ct_add_faces), sl_add_faces⟩)
   (c_add_faces : PySem.W.codeIn K cd_add_faces "add_faces" = true)
   (k_add_faces : PySem.W.keepIn K (.ref f_add_faces) = true)
   (a_turned_over : PySem.W.nsIn K mainGlobals "turned_over" = some (some (.ref f_turned_over)))
   (l_turned_over : K.lookup f_turned_over = some ⟨oc_turned_over, od_turned_over, .func (PySem.W.fnOf "turned_over" "turned_over" (defArgs s_turned_over) (defBody s_turned_over) (defScope s_turned_over) .none kV_turned_over dc_turned_over pm_turned_over an_turned_over cd_turned_over ct_turned_over), sl_turned_over⟩)
   (c_turned_over : PySem.W.codeIn K cd_turned_over "turned_over" = true)
   (k_turned_over : PySem.W.keepIn K (.ref f_turned_over) = true)
   (a_L_fits : PySem.W.nsIn K mainGlobals "_law_fits" = some (some (.ref f_L_fits)))
   (l_L_fits : K.lookup f_L_fits = some ⟨oc_L_fits, od_L_fits, .func (PySem.W.fnOf "_law_fits" "_law_fits" (defArgs s_L_fits) (defBody s_L_fits) (defScope s_L_fits) .none kV_L_fits dc_L_fits pm_L_fits an_L_fits cd_L_fits ct_L_fits), sl_L_fits⟩)
   (c_L_fits : PySem.W.codeIn K cd_L_fits "_law_fits" = true)
   (k_L_fits : PySem.W.keepIn K (.ref f_L_fits) = true)
   (a_L_side : PySem.W.nsIn K mainGlobals "_law_side" = some (some (.ref f_L_side)))
   (l_L_side : K.lookup f_L_side = some ⟨oc_L_side, od_L_side, .func (PySem.W.fnOf "_law_side" "_law_side" (defArgs s_L_side) (defBody s_L_side) (defScope s_L_side) .none kV_L_side dc_L_side pm_L_side an_L_side cd_L_side ct_L_side), sl_L_side⟩)
   (c_L_side : PySem.W.codeIn K cd_L_side "_law_side" = true)
   (k_L_side : PySem.W.keepIn K (.ref f_L_side) = true)
   (a_L_same : PySem.W.nsIn K mainGlobals "_law_same" = some (some (.ref f_L_same)))
   (l_L_same : K.lookup f_L_same = some ⟨oc_L_same, od_L_same, .func (PySem.W.fnOf "_law_same" "_law_same" (defArgs s_L_same) (defBody s_L_same) (defScope s_L_same) .none kV_L_same dc_L_same pm_L_same an_L_same cd_L_same ct_L_same), sl_L_same⟩)
   (c_L_same : PySem.W.codeIn K cd_L_same "_law_same" = true)
   (k_L_same : PySem.W.keepIn K (.ref f_L_same) = true)
   (a_L_answer : PySem.W.nsIn K mainGlobals "_law_answer" = some (some (.ref f_L_answer)))
   (l_L_answer : K.lookup f_L_answer = some ⟨oc_L_answer, od_L_answer, .func (PySem.W.fnOf "_law_answer" "_law_answer" (defArgs s_L_answer) (defBody s_L_answer) (defScope s_L_answer) .none kV_L_answer dc_L_answer pm_L_answer an_L_answer cd_L_answer ct_L_answer), sl_L_answer⟩)
   (c_L_answer : PySem.W.codeIn K cd_L_answer "_law_answer" = true)
   (k_L_answer : PySem.W.keepIn K (.ref f_L_answer) = true)
   (a_is_place_of_level : PySem.W.nsIn K mainGlobals "is_place_of_level" = some (some (.ref f_is_place_of_level)))
   (l_is_place_of_level : K.lookup f_is_place_of_level = some ⟨oc_is_place_of_level, od_is_place_of_level, .func (PySem.W.fnOf "is_place_of_level" "is_place_of_level" (defArgs s_is_place_of_level) (defBody s_is_place_of_level) (defScope s_is_place_of_level) .none kV_is_place_of_level dc_is_place_of_level pm_is_place_of_level an_is_place_of_level cd_is_place_of_level ct_is_place_of_level), sl_is_place_of_level⟩)
   (c_is_place_of_level : PySem.W.codeIn K cd_is_place_of_level "is_place_of_level" = true)
   (k_is_place_of_level : PySem.W.keepIn K (.ref f_is_place_of_level) = true)
   (a_is_prime : PySem.W.nsIn K mainGlobals "is_prime" = some (some (.ref f_is_prime)))
   (l_is_prime : K.lookup f_is_prime = some ⟨oc_is_prime, od_is_prime, .func (PySem.W.fnOf "is_prime" "is_prime" (defArgs s_is_prime) (defBody s_is_prime) (defScope s_is_prime) .none kV_is_prime dc_is_prime pm_is_prime an_is_prime cd_is_prime ct_is_prime), sl_is_prime⟩)
   (c_is_prime : PySem.W.codeIn K cd_is_prime "is_prime" = true)
   (k_is_prime : PySem.W.keepIn K (.ref f_is_prime) = true)
   (a_Growth_settled : PySem.W.findIn K (.ref C_Growth) "settled" = some (some (.ref f_Growth_settled)))
   (if_Growth_settled : PySem.W.isFn K (.ref f_Growth_settled) = true)
   (l_Growth_settled : K.lookup f_Growth_settled = some ⟨oc_Growth_settled, od_Growth_settled, .func (PySem.W.fnOf "settled" "Growth.settled" (defArgs s_Growth_settled) (defBody s_Growth_settled) (defScope s_Growth_settled) .none kV_Growth_settled dc_Growth_settled pm_Growth_settled an_Growth_settled cd_Growth_settled ct_Growth_settled), sl_Growth_settled⟩)
   (c_Growth_settled : PySem.W.codeIn K cd_Growth_settled "Growth.settled" = true)
   (k_Growth_settled : PySem.W.keepIn K (.ref f_Growth_settled) = true)
   (a_L_next : PySem.W.nsIn K mainGlobals "_law_next" = some (some (.ref f_L_next)))
   (l_L_next : K.lookup f_L_next = some ⟨oc_L_next, od_L_next, .func (PySem.W.fnOf "_law_next" "_law_next" (defArgs s_L_next) (defBody s_L_next) (defScope s_L_next) .none kV_L_next dc_L_next pm_L_next an_L_next cd_L_next ct_L_next), sl_L_next⟩)
   (c_L_next : PySem.W.codeIn K cd_L_next "_law_next" = true)
   (k_L_next : PySem.W.keepIn K (.ref f_L_next) = true)
   (a_L_taken : PySem.W.nsIn K mainGlobals "_law_taken" = some (some (.ref f_L_taken)))
   (l_L_taken : K.lookup f_L_taken = some ⟨oc_L_taken, od_L_taken, .func (PySem.W.fnOf "_law_taken" "_law_taken" (defArgs s_L_taken) (defBody s_L_taken) (defScope s_L_taken) .none kV_L_taken dc_L_taken pm_L_taken an_L_taken cd_L_taken ct_L_taken), sl_L_taken⟩)
   (c_L_taken : PySem.W.codeIn K cd_L_taken "_law_taken" = true)
   (k_L_taken : PySem.W.keepIn K (.ref f_L_taken) = true)
   (a_fits : PySem.W.nsIn K mainGlobals "fits" = some (some (.ref f_fits)))
   (l_fits : K.lookup f_fits = some ⟨oc_fits, od_fits, .func (PySem.W.fnOf "fits" "fits" (defArgs s_fits) (defBody s_fits) (defScope s_fits) .none kV_fits dc_fits pm_fits an_fits cd_fits ct_fits), sl_fits⟩)
   (c_fits : PySem.W.codeIn K cd_fits "fits" = true)
   (k_fits : PySem.W.keepIn K (.ref f_fits) = true)
   (a_Growth__init_ : PySem.W.findIn K (.ref C_Growth) "__init__" = some (some (.ref f_Growth__init_)))
   (if_Growth__init_ : PySem.W.isFn K (.ref f_Growth__init_) = true)
   (l_Growth__init_ : K.lookup f_Growth__init_ = some ⟨oc_Growth__init_, od_Growth__init_, .func (PySem.W.fnOf "__init__" "Growth.__init__" (defArgs s_Growth__init_) (defBody s_Growth__init_) (defScope s_Growth__init_) (.ref dt_Growth__init_) kV_Growth__init_ dc_Growth__init_ pm_Growth__init_ an_Growth__init_ cd_Growth__init_ ct_Growth__init_), sl_Growth__init_⟩)
   (ld_Growth__init_ : K.lookup dt_Growth__init_ = some ⟨.type "tuple", tdd_Growth__init_, .seq #[.int 2 tk_Growth__init__0] tn_Growth__init_, tsl_Growth__init_⟩)
   (c_Growth__init_ : PySem.W.codeIn K cd_Growth__init_ "Growth.__init__" = true)
   (k_Growth__init_ : PySem.W.keepIn K (.ref f_Growth__init_) = true)
   (a_L_thing_by : PySem.W.nsIn K mainGlobals "_law_thing_by" = some (some (.ref f_L_thing_by)))
   (l_L_thing_by : K.lookup f_L_thing_by = some ⟨oc_L_thing_by, od_L_thing_by, .func (PySem.W.fnOf "_law_thing_by" "_law_thing_by" (defArgs s_L_thing_by) (defBody s_L_thing_by) (defScope s_L_thing_by) .none kV_L_thing_by dc_L_thing_by pm_L_thing_by an_L_thing_by cd_L_thing_by ct_L_thing_by), sl_L_thing_by⟩)
   (c_L_thing_by : PySem.W.codeIn K cd_L_thing_by "_law_thing_by" = true)
   (k_L_thing_by : PySem.W.keepIn K (.ref f_L_thing_by) = true)
   (a_Growth_grow : PySem.W.findIn K (.ref C_Growth) "grow" = some (some (.ref f_Growth_grow)))
   (if_Growth_grow : PySem.W.isFn K (.ref f_Growth_grow) = true)
   (l_Growth_grow : K.lookup f_Growth_grow = some ⟨oc_Growth_grow, od_Growth_grow, .func (PySem.W.fnOf "grow" "Growth.grow" (defArgs s_Growth_grow) (defBody s_Growth_grow) (defScope s_Growth_grow) .none kV_Growth_grow dc_Growth_grow pm_Growth_grow an_Growth_grow cd_Growth_grow ct_Growth_grow), sl_Growth_grow⟩)
   (c_Growth_grow : PySem.W.codeIn K cd_Growth_grow "Growth.grow" = true)
   (k_Growth_grow : PySem.W.keepIn K (.ref f_Growth_grow) = true)
   (a_L_deed : PySem.W.nsIn K mainGlobals "_law_deed" = some (some (.ref f_L_deed)))
   (l_L_deed : K.lookup f_L_deed = some ⟨oc_L_deed, od_L_deed, .func (PySem.W.fnOf "_law_deed" "_law_deed" (defArgs s_L_deed) (defBody s_L_deed) (defScope s_L_deed) .none kV_L_deed dc_L_deed pm_L_deed an_L_deed cd_L_deed ct_L_deed), sl_L_deed⟩)
   (c_L_deed : PySem.W.codeIn K cd_L_deed "_law_deed" = true)
   (k_L_deed : PySem.W.keepIn K (.ref f_L_deed) = true)
   (a_law : PySem.W.nsIn K mainGlobals "law" = some (some (.ref f_law)))
   (l_law : K.lookup f_law = some ⟨oc_law, od_law, .func (PySem.W.fnOf "law" "law" (defArgs s_law) (defBody s_law) (defScope s_law) .none kV_law dc_law pm_law an_law cd_law ct_law), sl_law⟩)
   (c_law : PySem.W.codeIn K cd_law "law" = true)
   (k_law : PySem.W.keepIn K (.ref f_law) = true)
   (mk_Growth : PySem.W.makesIn K C_Growth = true)
   (kc_Growth : PySem.W.keepIn K (.ref C_Growth) = true)
   (kc_NoPiece : PySem.W.keepIn K (.ref C_NoPiece) = true)
   (eo_NoPiece : K.lookup C_NoPiece = some (excClassObj nm_NoPiece q_NoPiece C_NoPiece N_NoPiece bs_NoPiece (.ref C_HoleError :: bmV) true sn_NoPiece sub_NoPiece ab_NoPiece col_NoPiece dd_NoPiece k0_NoPiece k1_NoPiece k2_NoPiece k3_NoPiece k5_NoPiece "ValueError.__new__"))
   (en_NoPiece : PySem.W.nsOkIn K N_NoPiece = true)
   (ei_NoPiece : PySem.W.nsIn K N_NoPiece "__init__" = some (some (.ref f_NoPiece__init_)))
   (et_NoPiece : PySem.W.tailIn K bmV (.ref C_HoleError :: bmV) = true)
   (es_NoPiece : PySem.W.findIn K (.ref C_NoPiece) "__setattr__" = some (some (.builtin "object.__setattr__")))
   (ae_NoShape : PySem.W.excIn K C_NoShape bmV "ValueError.__new__" = true)
   (ak_NoShape : PySem.W.ktsIn K C_NoShape "BaseException" = true)
   (ae_NoStage : PySem.W.excIn K C_NoStage bmV "ValueError.__new__" = true)
   (ak_NoStage : PySem.W.ktsIn K C_NoStage "BaseException" = true)
   (ak_NoPiece : PySem.W.ktsIn K C_NoPiece "BaseException" = true)
   (a1_NoPiece : PySem.W.findIn K (.ref C_NoPiece) "__getattribute__" = some (some (.builtin "BaseException.__getattribute__")))
   (a2_NoPiece : PySem.W.findIn K (.ref C_NoPiece) "__getattr__" = some none)
   (a3_NoPiece : PySem.W.findIn K (.ref C_NoPiece) "__class__" = some (some (.builtin "object.__class__")))
   (a4_NoPiece : PySem.W.subIn K (.ref C_NoPiece) (.type "object") = some true)
   (a5_NoPiece : PySem.W.subIn K (.ref C_NoPiece) (.type "BaseException") = some true)
   (as_NoShape_NoShape : PySem.W.subIn K (.ref C_NoShape) (.ref C_NoShape) = some true)
   (as_NoShape_NoPiece : PySem.W.subIn K (.ref C_NoShape) (.ref C_NoPiece) = some false)
   (as_NoStage_NoStage : PySem.W.subIn K (.ref C_NoStage) (.ref C_NoStage) = some true)
   (as_NoPiece_NoPiece : PySem.W.subIn K (.ref C_NoPiece) (.ref C_NoPiece) = some true)
   (b1_HoleError : PySem.W.readsIn K C_HoleError (.type "type") = true)
   (b2_HoleError : PySem.W.findCls K (.ref C_HoleError) (.type "type") "__init__" = some (.val (.builtin "ValueError.__init__")))
   (b3_HoleError : PySem.W.specialIn K (.ref C_HoleError) "__getattribute__" = some (some (.builtin "type.__getattribute__")))
   (na_NoPiece_place : PySem.W.findIn K (.ref C_NoPiece) "place" = some none)
   (pg_Growth : PySem.W.plainGet K C_Growth Str.empty = true)
   (hd_Growth : PySem.W.hasDictIn K C_Growth = true)
   (po_Growth : PySem.W.plainOver K C_Growth = true)
   (sa_Growth : PySem.W.findIn K (.ref C_Growth) "__setattr__" = some (some (.builtin "object.__setattr__")))
   (na_Growth_prime : PySem.W.findIn K (.ref C_Growth) "prime" = some none)
   (na_Growth_pieces : PySem.W.findIn K (.ref C_Growth) "pieces" = some none)
   (na_Growth_sheets : PySem.W.findIn K (.ref C_Growth) "sheets" = some none)
   (na_Growth_edges : PySem.W.findIn K (.ref C_Growth) "edges" = some none)
   (na_Growth_enders : PySem.W.findIn K (.ref C_Growth) "enders" = some none)
   (ac_FACE_COUNTS : PySem.W.nsIn K mainGlobals "FACE_COUNTS" = some (some (.ref fc_FACE_COUNTS)))
   (lc_FACE_COUNTS : K.lookup fc_FACE_COUNTS = some ⟨.type "tuple", none, .seq #[.int 0 tc_FACE_COUNTS_0, .int 2 tc_FACE_COUNTS_1, .int 3 tc_FACE_COUNTS_2, .int 4 tc_FACE_COUNTS_3] nc_FACE_COUNTS, slc_FACE_COUNTS⟩)
   (aq_MOST_PIECES : PySem.W.nsIn K mainGlobals "MOST_PIECES" = some (some (.int 40 t_MOST_PIECES)))
   (aq_PRIME_BOUND : PySem.W.nsIn K mainGlobals "PRIME_BOUND" = some (some (.int 98 t_PRIME_BOUND)))
   (z_isinstance : PySem.W.nsIn K mainGlobals "isinstance" = some none)
   (z_int : PySem.W.nsIn K mainGlobals "int" = some none)
   (z_bool : PySem.W.nsIn K mainGlobals "bool" = some none)
   (z_tuple : PySem.W.nsIn K mainGlobals "tuple" = some none)
   (z_zip : PySem.W.nsIn K mainGlobals "zip" = some none)
   (z_max : PySem.W.nsIn K mainGlobals "max" = some none)
   (z_len : PySem.W.nsIn K mainGlobals "len" = some none)
   (z_all : PySem.W.nsIn K mainGlobals "all" = some none)
   (z_range : PySem.W.nsIn K mainGlobals "range" = some none)
   (z_dict : PySem.W.nsIn K mainGlobals "dict" = some none)
   (z_enumerate : PySem.W.nsIn K mainGlobals "enumerate" = some none)
   (z_list : PySem.W.nsIn K mainGlobals "list" = some none) :
   ∃ fd : FuncData, (∀ (s : Shared) (v : Value), BindsTo s fd ⟨[v], []⟩ [("_law_script", v)]) ∧ ∀ base : Heap, K.In base → base.Ns mainGlobals mg → FnOk l.prog w K mg base CX0 7 fa fd ["_law_script"] (sp_law K) := by
 have e := hfa.symm.trans (PySem.W.mg_of X G a_law)
 cases e
 have T : Txt K mg C_HoleError C_NoShape C_NoStage C_NoPiece C_Growth := ⟨PySem.W.mg_of X G ac_HoleError, PySem.W.mg_of X G ac_NoShape, ae_NoShape, ak_NoShape, PySem.W.mg_of X G ac_NoStage, ae_NoStage, ak_NoStage, PySem.W.mg_of X G ac_NoPiece, ⟨ak_NoPiece, a1_NoPiece, a2_NoPiece, a3_NoPiece, a4_NoPiece, a5_NoPiece⟩, ak_NoPiece, as_NoShape_NoShape, as_NoShape_NoPiece, as_NoStage_NoStage, as_NoPiece_NoPiece, ⟨b1_HoleError, b2_HoleError, b3_HoleError⟩, ⟨f_NoPiece__init_, ⟨⟨N_NoPiece, nm_NoPiece, q_NoPiece, bs_NoPiece, sn_NoPiece, sub_NoPiece, ab_NoPiece, col_NoPiece, dd_NoPiece, k0_NoPiece, k1_NoPiece, k2_NoPiece, k3_NoPiece, k5_NoPiece, eo_NoPiece, en_NoPiece, ei_NoPiece⟩, et_NoPiece, if_NoPiece__init_, es_NoPiece⟩⟩, ErrC.attr (D := C_HoleError) (f := f_NoPiece__init_) ⟨⟨N_NoPiece, nm_NoPiece, q_NoPiece, bs_NoPiece, sn_NoPiece, sub_NoPiece, ab_NoPiece, col_NoPiece, dd_NoPiece, k0_NoPiece, k1_NoPiece, k2_NoPiece, k3_NoPiece, k5_NoPiece, eo_NoPiece, en_NoPiece, ei_NoPiece⟩, et_NoPiece, if_NoPiece__init_, es_NoPiece⟩ na_NoPiece_place, PySem.W.mg_of X G ac_Growth, ⟨pg_Growth, hd_Growth, po_Growth, sa_Growth⟩, na_Growth_prime, na_Growth_pieces, na_Growth_sheets, na_Growth_edges, na_Growth_enders, ⟨fc_FACE_COUNTS, PySem.W.mg_of X G ac_FACE_COUNTS, fun H => .inr ⟨_, _, _, lc_FACE_COUNTS, rfl, rfl, rfl, (by show (4 : Nat) ≤ sizeLine; decide), .cons ⟨_, rfl⟩ (.cons ⟨_, rfl⟩ (.cons ⟨_, rfl⟩ (.cons ⟨_, rfl⟩ (.nil))))⟩⟩, ⟨_, PySem.W.mg_of X G aq_MOST_PIECES⟩, ⟨_, PySem.W.mg_of X G aq_PRIME_BOUND⟩, PySem.W.mg_none_of X G z_isinstance, PySem.W.mg_none_of X G z_int, PySem.W.mg_none_of X G z_bool, PySem.W.mg_none_of X G z_tuple, PySem.W.mg_none_of X G z_zip, PySem.W.mg_none_of X G z_max, PySem.W.mg_none_of X G z_len, PySem.W.mg_none_of X G z_all, PySem.W.mg_none_of X G z_range, PySem.W.mg_none_of X G z_dict, PySem.W.mg_none_of X G z_enumerate, PySem.W.mg_none_of X G z_list⟩
 have F_is_whole := fun_mk (st := s_is_whole) l_is_whole c_is_whole k_is_whole
 have F_shared_divisor := fun_mk (st := s_shared_divisor) l_shared_divisor c_shared_divisor k_shared_divisor
 have F_level_of := fun_mk (st := s_level_of) l_level_of c_level_of k_level_of
 have F_faces_agree := fun_mk (st := s_faces_agree) l_faces_agree c_faces_agree k_faces_agree
 have F_add_at := fun_mk (st := s_add_at) l_add_at c_add_at k_add_at
 have F_times := fun_mk (st := s_times) l_times c_times k_times
 have F_NoPiece__init_ := fun_mk (st := s_NoPiece__init_) l_NoPiece__init_ c_NoPiece__init_ k_NoPiece__init_
 have F_check_size := fun_mk (st := s_check_size) l_check_size c_check_size k_check_size
 have F_counted := fun_mk (st := s_counted) l_counted c_counted k_counted
 have F_Growth_take_back := fun_mk (st := s_Growth_take_back) l_Growth_take_back c_Growth_take_back k_Growth_take_back
 have F_Growth_shape := fun_mk (st := s_Growth_shape) l_Growth_shape c_Growth_shape k_Growth_shape
 have F_L_whole := fun_mk (st := s_L_whole) l_L_whole c_L_whole k_L_whole
 have F_L_cell_at := fun_mk (st := s_L_cell_at) l_L_cell_at c_L_cell_at k_L_cell_at
 have F_L_level := fun_mk (st := s_L_level) l_L_level c_L_level k_L_level
 have F_L_meets := fun_mk (st := s_L_meets) l_L_meets c_L_meets k_L_meets
 have F_L_pick := fun_mk (st := s_L_pick) l_L_pick c_L_pick k_L_pick
 have F_is_whole_below := fun_mk (st := s_is_whole_below) l_is_whole_below c_is_whole_below k_is_whole_below
 have F_plus := fun_mk (st := s_plus) l_plus c_plus k_plus
 have F_add_faces := fun_mk (st := s_add_faces) l_add_faces c_add_faces k_add_faces
 have F_turned_over := fun_mk (st := s_turned_over) l_turned_over c_turned_over k_turned_over
 have F_L_fits := fun_mk (st := s_L_fits) l_L_fits c_L_fits k_L_fits
 have F_L_side := fun_mk (st := s_L_side) l_L_side c_L_side k_L_side
 have F_L_same := fun_mk (st := s_L_same) l_L_same c_L_same k_L_same
 have F_L_answer := fun_mk (st := s_L_answer) l_L_answer c_L_answer k_L_answer
 have F_is_place_of_level := fun_mk (st := s_is_place_of_level) l_is_place_of_level c_is_place_of_level k_is_place_of_level
 have F_is_prime := fun_mk (st := s_is_prime) l_is_prime c_is_prime k_is_prime
 have F_Growth_settled := fun_mk (st := s_Growth_settled) l_Growth_settled c_Growth_settled k_Growth_settled
 have F_L_next := fun_mk (st := s_L_next) l_L_next c_L_next k_L_next
 have F_L_taken := fun_mk (st := s_L_taken) l_L_taken c_L_taken k_L_taken
 have F_fits := fun_mk (st := s_fits) l_fits c_fits k_fits
 have F_Growth__init_ : FunD K "__init__" "Growth.__init__" s_Growth__init_ f_Growth__init_ _ [.int 2 tk_Growth__init__0] := ⟨⟨oc_Growth__init_, od_Growth__init_, kV_Growth__init_, dc_Growth__init_, pm_Growth__init_, an_Growth__init_, cd_Growth__init_, ct_Growth__init_, sl_Growth__init_, dt_Growth__init_, tn_Growth__init_, tsl_Growth__init_, tdd_Growth__init_, rfl, l_Growth__init_, c_Growth__init_, ld_Growth__init_⟩, k_Growth__init_⟩
 have F_L_thing_by := fun_mk (st := s_L_thing_by) l_L_thing_by c_L_thing_by k_L_thing_by
 have F_Growth_grow := fun_mk (st := s_Growth_grow) l_Growth_grow c_Growth_grow k_Growth_grow
 have F_L_deed := fun_mk (st := s_L_deed) l_L_deed c_L_deed k_L_deed
 have F_law := fun_mk (st := s_law) l_law c_law k_law
 refine ⟨PySem.W.fnOf "law" "law" (defArgs s_law) (defBody s_law) (defScope s_law) .none kV_law dc_law pm_law an_law cd_law ct_law, fun s v => .of_eq rfl, fun base _ _ => ?_⟩
 have h_is_whole : Has l.prog w K mg base "is_whole" ["thing"] 1 (sp_is_whole K) := ⟨_, _, PySem.W.mg_of X G a_is_whole, k_is_whole, F_is_whole.binds (ps := ["thing"]) (fun _ _ _ _ _ _ => elim1 (fun _ => rfl)), ok_is_whole F_is_whole T ⟩
 have h_shared_divisor : Has l.prog w K mg base "shared_divisor" ["one", "other"] 1 (sp_gDiv K) := ⟨_, _, PySem.W.mg_of X G a_shared_divisor, k_shared_divisor, F_shared_divisor.binds (ps := ["one", "other"]) (fun _ _ _ _ _ _ => elim2 (fun _ _ => rfl)), ok_shared_divisor F_shared_divisor T ⟩
 have h_level_of : Has l.prog w K mg base "level_of" ["piece"] 1 (sp_level_of K) := ⟨_, _, PySem.W.mg_of X G a_level_of, k_level_of, F_level_of.binds (ps := ["piece"]) (fun _ _ _ _ _ _ => elim1 (fun _ => rfl)), ok_level_of F_level_of T ⟩
 have h_faces_agree : Has l.prog w K mg base "faces_agree" ["shape", "faces"] 1 (sp_faces_agree K) := ⟨_, _, PySem.W.mg_of X G a_faces_agree, k_faces_agree, F_faces_agree.binds (ps := ["shape", "faces"]) (fun _ _ _ _ _ _ => elim2 (fun _ _ => rfl)), ok_faces_agree F_faces_agree T ⟩
 have h_add_at : Has l.prog w K mg base "add_at" ["chain", "place", "number"] 1 (sp_add_at K) := ⟨_, _, PySem.W.mg_of X G a_add_at, k_add_at, F_add_at.binds (ps := ["chain", "place", "number"]) (fun _ _ _ _ _ _ => elim3 (fun _ _ _ => rfl)), ok_add_at F_add_at T ⟩
 have h_times : Has l.prog w K mg base "times" ["number", "chain"] 1 (sp_times K) := ⟨_, _, PySem.W.mg_of X G a_times, k_times, F_times.binds (ps := ["number", "chain"]) (fun _ _ _ _ _ _ => elim2 (fun _ _ => rfl)), ok_times F_times T ⟩
 have he_NoPiece : HasE l.prog w K mg base C_NoPiece C_HoleError ["self", "place"] 1 (sp_NoPiece_init K C_NoPiece) := ⟨_, _, ⟨⟨N_NoPiece, nm_NoPiece, q_NoPiece, bs_NoPiece, sn_NoPiece, sub_NoPiece, ab_NoPiece, col_NoPiece, dd_NoPiece, k0_NoPiece, k1_NoPiece, k2_NoPiece, k3_NoPiece, k5_NoPiece, eo_NoPiece, en_NoPiece, ei_NoPiece⟩, et_NoPiece, if_NoPiece__init_, es_NoPiece⟩, kc_NoPiece, F_NoPiece__init_.binds (ps := ["self", "place"]) (fun _ _ _ _ _ _ => elim2 (fun _ _ => rfl)), ok_NoPiece__init_ F_NoPiece__init_ T ⟩
 have hx_check_size : HasX l.prog w K mg base "check_size" ["pieces"] 1 (sp_check_size K C_NoShape) := ⟨_, _, PySem.W.mg_of X G a_check_size, k_check_size, F_check_size.binds (ps := ["pieces"]) (fun _ _ _ _ _ _ => elim1 (fun _ => rfl)), ok_check_size F_check_size T ⟩
 have h_counted : Has l.prog w K mg base "counted" ["chain", "prime"] 1 (sp_counted K) := ⟨_, _, PySem.W.mg_of X G a_counted, k_counted, F_counted.binds (ps := ["chain", "prime"]) (fun _ _ _ _ _ _ => elim2 (fun _ _ => rfl)), ok_counted F_counted T ⟩
 have hmx_Growth_take_back : HasMX l.prog w K mg base C_Growth "take_back" ["self"] 1 (spG_take_back K C_Growth C_NoStage) := ⟨_, _, ⟨a_Growth_take_back, if_Growth_take_back, k_Growth_take_back⟩, F_Growth_take_back.binds (ps := ["self"]) (fun _ _ _ _ _ _ => elim1 (fun _ => rfl)), ok_Growth_take_back F_Growth_take_back T ⟩
 have hm_Growth_shape : HasM l.prog w K mg base C_Growth "shape" ["self"] 1 (spG_shape K C_Growth) := ⟨_, _, ⟨a_Growth_shape, if_Growth_shape, k_Growth_shape⟩, F_Growth_shape.binds (ps := ["self"]) (fun _ _ _ _ _ _ => elim1 (fun _ => rfl)), ok_Growth_shape F_Growth_shape T ⟩
 have h_L_whole : Has l.prog w K mg base "_law_whole" ["_law_found"] 1 (sp_L_whole K) := ⟨_, _, PySem.W.mg_of X G a_L_whole, k_L_whole, F_L_whole.binds (ps := ["_law_found"]) (fun _ _ _ _ _ _ => elim1 (fun _ => rfl)), ok_L_whole F_L_whole T ⟩
 have h_L_cell_at : Has l.prog w K mg base "_law_cell_at" ["_law_script", "_law_k"] 1 (sp_L_cell_at K) := ⟨_, _, PySem.W.mg_of X G a_L_cell_at, k_L_cell_at, F_L_cell_at.binds (ps := ["_law_script", "_law_k"]) (fun _ _ _ _ _ _ => elim2 (fun _ _ => rfl)), ok_L_cell_at F_L_cell_at T ⟩
 have h_L_level : Has l.prog w K mg base "_law_level" ["_law_piece"] 1 (sp_level_of K) := ⟨_, _, PySem.W.mg_of X G a_L_level, k_L_level, F_L_level.binds (ps := ["_law_piece"]) (fun _ _ _ _ _ _ => elim1 (fun _ => rfl)), ok_L_level F_L_level T ⟩
 have h_L_meets : Has l.prog w K mg base "_law_meets" ["_law_pieces", "_law_faces", "_law_face"] 1 (sp_gMeets K) := ⟨_, _, PySem.W.mg_of X G a_L_meets, k_L_meets, F_L_meets.binds (ps := ["_law_pieces", "_law_faces", "_law_face"]) (fun _ _ _ _ _ _ => elim3 (fun _ _ _ => rfl)), ok_L_meets F_L_meets T ⟩
 have h_L_pick : Has l.prog w K mg base "_law_pick" ["_law_cell", "_law_j", "_law_many"] 1 (sp_L_pick K) := ⟨_, _, PySem.W.mg_of X G a_L_pick, k_L_pick, F_L_pick.binds (ps := ["_law_cell", "_law_j", "_law_many"]) (fun _ _ _ _ _ _ => elim3 (fun _ _ _ => rfl)), ok_L_pick F_L_pick T ⟩
 have h_is_whole_below : Has l.prog w K mg base "is_whole_below" ["thing", "bound"] 2 (sp_is_whole_below K) := ⟨_, _, PySem.W.mg_of X G a_is_whole_below, k_is_whole_below, F_is_whole_below.binds (ps := ["thing", "bound"]) (fun _ _ _ _ _ _ => elim2 (fun _ _ => rfl)), ok_is_whole_below F_is_whole_below T h_is_whole⟩
 have h_plus : Has l.prog w K mg base "plus" ["one", "other"] 2 (sp_plus K) := ⟨_, _, PySem.W.mg_of X G a_plus, k_plus, F_plus.binds (ps := ["one", "other"]) (fun _ _ _ _ _ _ => elim2 (fun _ _ => rfl)), ok_plus F_plus T h_add_at⟩
 have h_add_faces : Has l.prog w K mg base "add_faces" ["chain", "faces", "number"] 2 (sp_add_faces K) := ⟨_, _, PySem.W.mg_of X G a_add_faces, k_add_faces, F_add_faces.binds (ps := ["chain", "faces", "number"]) (fun _ _ _ _ _ _ => elim3 (fun _ _ _ => rfl)), ok_add_faces F_add_faces T h_add_at⟩
 have h_turned_over : Has l.prog w K mg base "turned_over" ["number", "prime"] 2 (sp_gOver K) := ⟨_, _, PySem.W.mg_of X G a_turned_over, k_turned_over, F_turned_over.binds (ps := ["number", "prime"]) (fun _ _ _ _ _ _ => elim2 (fun _ _ => rfl)), ok_turned_over F_turned_over T h_shared_divisor⟩
 have h_L_fits : Has l.prog w K mg base "_law_fits" ["_law_pieces", "_law_thing"] 2 (sp_gLFits K) := ⟨_, _, PySem.W.mg_of X G a_L_fits, k_L_fits, F_L_fits.binds (ps := ["_law_pieces", "_law_thing"]) (fun _ _ _ _ _ _ => elim2 (fun _ _ => rfl)), ok_L_fits F_L_fits T h_L_level h_L_meets h_L_whole⟩
 have h_L_side : Has l.prog w K mg base "_law_side" ["_law_pieces", "_law_cell"] 2 (sp_L_side K) := ⟨_, _, PySem.W.mg_of X G a_L_side, k_L_side, F_L_side.binds (ps := ["_law_pieces", "_law_cell"]) (fun _ _ _ _ _ _ => elim2 (fun _ _ => rfl)), ok_L_side F_L_side T h_L_pick⟩
 have h_L_same : Has l.prog w K mg base "_law_same" ["_law_found", "_law_pieces"] 2 (sp_gSame K) := ⟨_, _, PySem.W.mg_of X G a_L_same, k_L_same, F_L_same.binds (ps := ["_law_found", "_law_pieces"]) (fun _ _ _ _ _ _ => elim2 (fun _ _ => rfl)), ok_L_same F_L_same T h_L_whole⟩
 have h_L_answer : Has l.prog w K mg base "_law_answer" ["_law_pieces", "_law_thing", "_law_found"] 2 (sp_gAnswer K) := ⟨_, _, PySem.W.mg_of X G a_L_answer, k_L_answer, F_L_answer.binds (ps := ["_law_pieces", "_law_thing", "_law_found"]) (fun _ _ _ _ _ _ => elim3 (fun _ _ _ => rfl)), ok_L_answer F_L_answer T h_L_whole h_L_level⟩
 have h_is_place_of_level : Has l.prog w K mg base "is_place_of_level" ["shape", "thing", "level"] 3 (sp_is_place_of_level K) := ⟨_, _, PySem.W.mg_of X G a_is_place_of_level, k_is_place_of_level, F_is_place_of_level.binds (ps := ["shape", "thing", "level"]) (fun _ _ _ _ _ _ => elim3 (fun _ _ _ => rfl)), ok_is_place_of_level F_is_place_of_level T h_is_whole_below h_level_of⟩
 have h_is_prime : Has l.prog w K mg base "is_prime" ["thing"] 3 (sp_gPrime K) := ⟨_, _, PySem.W.mg_of X G a_is_prime, k_is_prime, F_is_prime.binds (ps := ["thing"]) (fun _ _ _ _ _ _ => elim1 (fun _ => rfl)), ok_is_prime F_is_prime T h_is_whole_below⟩
 have hm_Growth_settled : HasM l.prog w K mg base C_Growth "settled" ["self", "sheet", "edge"] 3 (spG_settled K C_Growth) := ⟨_, _, ⟨a_Growth_settled, if_Growth_settled, k_Growth_settled⟩, F_Growth_settled.binds (ps := ["self", "sheet", "edge"]) (fun _ _ _ _ _ _ => elim3 (fun _ _ _ => rfl)), ok_Growth_settled F_Growth_settled T h_counted h_turned_over h_plus h_times⟩
 have h_L_next : Has l.prog w K mg base "_law_next" ["_law_pieces", "_law_cell"] 3 (sp_L_next K) := ⟨_, _, PySem.W.mg_of X G a_L_next, k_L_next, F_L_next.binds (ps := ["_law_pieces", "_law_cell"]) (fun _ _ _ _ _ _ => elim2 (fun _ _ => rfl)), ok_L_next F_L_next T h_L_side h_L_meets h_L_pick h_L_level⟩
 have h_L_taken : Has l.prog w K mg base "_law_taken" ["_law_growth", "_law_pieces"] 3 (spG_taken K C_Growth) := ⟨_, _, PySem.W.mg_of X G a_L_taken, k_L_taken, F_L_taken.binds (ps := ["_law_growth", "_law_pieces"]) (fun _ _ _ _ _ _ => elim2 (fun _ _ => rfl)), ok_L_taken F_L_taken T hmx_Growth_take_back h_L_same⟩
 have h_fits : Has l.prog w K mg base "fits" ["shape", "thing"] 4 (sp_gFits K) := ⟨_, _, PySem.W.mg_of X G a_fits, k_fits, F_fits.binds (ps := ["shape", "thing"]) (fun _ _ _ _ _ _ => elim2 (fun _ _ => rfl)), ok_fits F_fits T h_level_of h_faces_agree h_is_place_of_level⟩
 have hcd_Growth : HasCD l.prog w K mg base C_Growth ["self", "prime"] [.int 2] 4 (spG_init K C_Growth) := ⟨_, _, [.int 2 tk_Growth__init__0], ⟨mk_Growth, a_Growth__init_, if_Growth__init_, kc_Growth⟩, F_Growth__init_.binds (ps := ["self", "prime"]) (dd := [.int 2 tk_Growth__init__0]) (fun _ _ _ _ _ _ _ us hl => by obtain ⟨x, rfl⟩ : ∃ x, us = [x] := List.length_eq_one_iff.mp (by simpa using hl); exact ⟨_, rfl, rfl⟩), .cons ⟨_, rfl⟩ (.nil), ok_Growth__init_ F_Growth__init_ T h_is_prime⟩
 have h_L_thing_by : Has l.prog w K mg base "_law_thing_by" ["_law_pieces", "_law_cell"] 4 (sp_gThing K) := ⟨_, _, PySem.W.mg_of X G a_L_thing_by, k_L_thing_by, F_L_thing_by.binds (ps := ["_law_pieces", "_law_cell"]) (fun _ _ _ _ _ _ => elim2 (fun _ _ => rfl)), ok_L_thing_by F_L_thing_by T h_L_next h_L_pick⟩
 have hmx_Growth_grow : HasMX l.prog w K mg base C_Growth "grow" ["self", "thing"] 5 (spG_grow K C_Growth C_NoPiece C_NoShape) := ⟨_, _, ⟨a_Growth_grow, if_Growth_grow, k_Growth_grow⟩, F_Growth_grow.binds (ps := ["self", "thing"]) (fun _ _ _ _ _ _ => elim2 (fun _ _ => rfl)), ok_Growth_grow F_Growth_grow T hx_check_size h_add_faces hm_Growth_settled h_fits he_NoPiece h_counted⟩
 have hm_Growth_grow : HasM l.prog w K mg base C_Growth "grow" ["self", "thing"] 5 (sp_Growth_growOk K C_Growth) := hmx_Growth_grow.down (grow_down)
 have h_L_deed : Has l.prog w K mg base "_law_deed" ["_law_growth", "_law_pieces", "_law_thing"] 6 (spG_deed K C_Growth) := ⟨_, _, PySem.W.mg_of X G a_L_deed, k_L_deed, F_L_deed.binds (ps := ["_law_growth", "_law_pieces", "_law_thing"]) (fun _ _ _ _ _ _ => elim3 (fun _ _ _ => rfl)), ok_L_deed F_L_deed T hmx_Growth_grow h_L_fits h_L_whole h_L_answer⟩
 exact ok_law F_law T hcd_Growth h_L_cell_at he_NoPiece hm_Growth_grow hm_Growth_shape h_L_taken h_L_deed h_L_same h_L_thing_by
theorem walk {l : PySem.W.OpenLaw} {q : Program} {loose : List Str} {XP : (Str → Option Value) → Heap → Prop} {YP : World → Heap → Prop} {d : DefRec} {K : Params → PySem.W.Frag} (hn : l.most = some 63) (hdf : d.params.defaults = [])
   (hY : ∀ (w : World) (h : Heap), YP w h → (K w.params).In h)
   (F : ∀ (w : World) (mg : Str → Option Value) (fa : Addr) (h : Heap), (K w.params).In h → h.Ns mainGlobals mg → mg d.name = some (.ref fa) →
     ∃ fd : FuncData, (∀ (s : Shared) (u : Value), BindsTo s fd ⟨[u], []⟩ [("_law_script", u)]) ∧ ∀ base : Heap, (K w.params).In base → base.Ns mainGlobals mg → FnOk l.prog w (K w.params) mg base CX0 7 fa fd ["_law_script"] (sp_law (K w.params))) :
   PySem.W.WalkO q loose XP YP l.row.toRowW d [] (fun f vs => PySem.call f vs) :=
 L2.walk_of (n := 63) (k := 7) (x := "_law_script") (CX := fun _ => CX0) (sp := fun w => sp_law (K w.params)) hn (by decide) hdf ⟨rfl, by decide, by decide, rfl⟩ hY F (fun _ _ a ns hl _ hS => ⟨a, ns, rfl, hS, hl, fun _ => rfl⟩) fun _ _ _ _ _ z => z
end Hb
namespace PySem.W.Fast
def tw12360514753270126337:=0
def tw13215548411046353211:=0
def tw2571826803685127363:=0
def tw12516021768328906349:=0
def tw6917159365932065545:=0
def tw11733979085847181317:=0
def tw9920848543115036190:=0
def tw5583727593919925104:=0
def tw18270470258024974156:=0
def tw11511787142444162369:=0
def tw14440571880547689688:=0
def tw4563572958202215512:=0
def tw12949720429299789381:=0
def tw17429881412316512702:=0
def tw15805899101567234121:=0
def tw15344853762528265599:=0
def tw13548569253387718474:=0
def tw11281092547193671086:=0
def tw15141590760835703888:=0
def tw14672033202184005448:=0
def tw2616042693481422526:=0
def tw9809949752455934188:=0
def tw5301654205547379000:=0
def tw12991992697315853126:=0
def tw10667599561666798582:=0
def tw4080837755750456507:=0
def tw967175773184089397:=0
def tw9576673121401886741:=0
def tw12589325534282388225:=0
def tw4897699616407154597:=0
def tw17486948379304519504:=0
def tw11788179326220726992:=0
def tw16069968780751829647:=0
def tw596655576655831994:=0
def tw1330843472800756042:=0
def tw17072139625663098814:=0
def tw8643008236850595929:=0
def tw2523824757216445716:=0
def tw15458684904233840588:=0
def tw11887001608601340216:=0
def tw11014284973101004947:=0
def tw7015442765304499298:=0
def tw8540922259025419405:=0
def tw3046602914724338190:=0
def tw14483891974405393612:=0
def tw16440709201081332041:=0
def tw2805437901262084573:=0
def tw14458976115537067471:=0
def tw10587612462285876626:=0
def tw16900593236787662795:=0
def tw10414988273425111046:=0
def tw4030778114427894031:=0
def tw16523148766937482724:=0
def tw14690402577654428405:=0
def tw16492341138164838101:=0
def tw15547740454702779359:=0
def tw15638842891056084514:=0
def tw16505386436329932519:=0
def tw3491610210860698885:=0
def tw4183349398535789969:=0
def tw10952548275794591255:=0
def tw17428005946172157614:=0
def tw31717871548512606:=0
def tw13004306910592535705:=0
def tw7080375267895217192:=0
def tw14120922715918475285:=0
def tw10067824376118911120:=0
def tw15148731089122684076:=0
def tw3957244719731496990:=0
def tw3545660268146966870:=0
def tw8622700506445658323:=0
def tw2735219581952051923:=0
def tw15673735663669005207:=0
def tw16007753521802157323:=0
def tw14989176222050439263:=0
def tw9749885632504544711:=0
def tw15880498872805989180:=0
def tw4405671091728788368:=0
def tw2551511622876536515:=0
def tw11909435385842205314:=0
def tw6364769369751483632:=0
def tw84434598854503997:=0
def tw7734222216448341205:=0
def tw10394072102326878174:=0
def tw5864241238342136829:=0
def tw1904286885308251978:=0
def tw11191854014221244791:=0
def tw17038895647245352374:=0
def tw10966948790934119639:=0
def tw792238593918046239:=0
def tw15385001182196517799:=0
def tw9912243495385073319:=0
def tw4567983137079346284:=0
def tw5927916401228448383:=0
def tw663828979898293837:=0
def tw10339176170294763743:=0
def tw16758238665892863681:=0
def tw8610038965769818368:=0
def tw2809110370520668088:=0
def tw1710564992478444533:=0
def tw5071846507589666901:=0
def tw4112993315757095545:=0
def tw2310009798773845249:=0
def tw15828253277966019357:=0
def tw7890561910601711568:=0
def tw9396590917073511351:=0
def tw7211415383258280214:=0
def tw14751357637640503225:=0
def tw10334550533893471904:=0
def tw1992776109398377058:=0
def tw8921817757219985758:=0
def tw820726672138969534:=0
def tw4209557937867980575:=0
def tw15329884613976724388:=0
def tw6897107903820037203:=0
def tw7144174840218119131:=0
def tw14089633712688488346:=0
def tw3286556393659200060:=0
def tw6862611714406794046:=0
def tw677627853295236304:=0
def tw11147944428393837007:=0
def tw8995742090468446954:=0
def tw11267280686481838148:=0
def tw12188533008322685422:=0
def tw13797108587219412160:=0
def tw4276591715838424790:=0
def tw12712906736003630788:=0
def tw16699573921267436629:=0
def tw15897636709150604755:=0
def tw6170215701600087573:=0
def tw16455364438998714026:=0
def tw12990024447760603588:=0
def tw8185374361739352074:=0
def tw1305506457487121436:=0
def tw12794598305821924394:=0
def tw1069041607484761098:=0
def tw9946146276230146475:=0
def tw14353864624200550720:=0
def tw8454866245773037261:=0
def tw7747975176169239075:=0
def tw13671594716592579212:=0
def tw2437179472214331224:=0
def tw2949193281970475799:=0
def tw13719955008170150507:=0
def tw17748680245542421488:=0
def tw4037896793176030608:=0
def tw7239932952058398850:=0
def tw7403174193550846513:=0
def tw15231408151417176513:=0
def tw6353942966019364174:=0
def tw2106193543882252377:=0
def tw14094809274113267398:=0
def tw13348840600054159782:=0
def tw1506627525919284303:=0
def tw8327039348262464661:=0
def tw17040541551980946398:=0
def tw2965734200203041945:=0
def tw18034059093641109286:=0
def tw3835907827893111335:=0
def tw10325746789937145274:=0
def tw16400850357826945016:=0
def tw10112454643406305100:=0
def tw3257410000932404969:=0
def tw11600181649138353450:=0
def tw1997128381329549866:=0
def tw13805563009481378362:=0
def tw16423732586622116145:=0
def tw911556724072336787:=0
def tw7995640584681200062:=0
def tw9867748505553808614:=0
def tw12656821056827343020:=0
def tw9588530647592641675:=0
def tw13669471032624209814:=0
def tw15509379341547813677:=0
def tw6646499164089512035:=0
def tw5423528458504817322:=0
def tw3725340048129621271:=0
def tw15526604995123538245:=0
def tw987048987191593490:=0
def tw6277300793813656373:=0
def tw12277024877723220687:=0
def tw13401137050171231224:=0
def tw14112731301682714428:=0
def tw9078737142156200230:=0
def tw13204169260466852534:=0
def tw17730144623474606191:=0
def tw1162574814400452526:=0
def tw12035645356252277023:=0
def tw16156971840722927034:=0
def tw5557341929848625045:=0
def tw3655283181015407379:=0
def tw15601455272241685785:=0
def tw12081694509959257312:=0
def tw6080010609867928718:=0
def tw13210459396100307617:=0
def tw15259678086135602468:=0
def tw12270094972359709167:=0
def tw16544098260426832290:=0
def tw1460979476028033852:=0
def tw16138850873682727419:=0
def tw5580361869862167029:=0
def tw2262578924552014475:=0
def tw12903777740863786995:=0
def tw4777938926399987117:=0
def tw10058781788776514411:=0
def tw2853663411919819831:=0
def tw15317495777291073626:=0
def tw11158355219981636458:=0
def tw4191043374713644443:=0
def tw11301070204917038068:=0
def tw14438042165686624155:=0
def tw9349646648552171688:=0
def tw8736809183217595954:=0
def tw2591243231814544219:=0
def tw2857329636301703095:=0
def tw3292474735914001886:=0
def tw12208200591440467259:=0
def tw6656677312229472925:=0
def tw8741478637558495094:=0
def tw14726570471521203479:=0
def tw14004643215320172323:=0
def tw4792038080333168889:=0
def tw5226242607284754768:=0
def tw10633141233232662624:=0
def tw3936902175152725531:=0
def tw15772910148561605026:=0
def tw6277892364369489418:=0
def tw4110566498694685013:=0
def tw10018468375639428611:=0
def tw1566030569134076952:=0
def tw7140817182121008249:=0
def tw7043904135622866431:=0
def tw13525539403389235784:=0
def tw16072524921255156307:=0
def tw922304294720079161:=0
def tw651028664628957934:=0
def tw2194959823854578764:=0
def tw7637295586284924196:=0
def tw984713937688219372:=0
def tw12743084166377731114:=0
def tw12391688791374178928:=0
def tw10271723337203912927:=0
def tw17012025646714382378:=0
def tw17718925819193596736:=0
def tw73821089669550311:=0
def tw1090848608184364062:=0
def tw12747672905447752881:=0
def tw12061649824934885999:=0
def tw13842468995350217528:=0
def tw4566064882588743815:=0
def tw1746430211128333287:=0
def tw16002070877557911391:=0
def tw3239870260852689375:=0
def tw16974430230064655923:=0
def tw14555995358725637832:=0
def tw996239037415650319:=0
def tw7479331285821582965:=0
def tw9172651809750763522:=0
def tw15250968757278082686:=0
def tw2060449406107510399:=0
def tw6684532953585863783:=0
def tw6835738712034498533:=0
def tw14615653783344180228:=0
def tw9778792440555467152:=0
def tw2784547990813706975:=0
def tw3456746745763712637:=0
def tw2569211728554953128:=0
def tw13300035524043397802:=0
def tw16636147320445738902:=0
def tw1787100413574349667:=0
def tw5272937089354047833:=0
def tw13091152306182755486:=0
def tw1664600171391724448:=0
def tw17694455084002487744:=0
def tw4053092379970748307:=0
def tw8877791082163519558:=0
def tw9102299890740665262:=0
def tw6230606472761259448:=0
def tw18061575251160191595:=0
def tw12414384630079685949:=0
def tw3428121693879276871:=0
def tw15840149630425954323:=0
def tw1205866405703762869:=0
def tw1151593276850770127:=0
def tw5421739106504507920:=0
def tw1156832052284846323:=0
def tw8536394407700634632:=0
def tw2040510323084574944:=0
def tw10419592962747567205:=0
def tw5139251980882640795:=0
def tw6150572955438190359:=0
def tw10866243173057811581:=0
def tw13450422853433339497:=0
def tw2238900198880336535:=0
def tw4555325639347095888:=0
def tw16677028848511828399:=0
def tw8559813544283466396:=0
def tw12392570784080453788:=0
def tw12967643738450724515:=0
def tw6309166426346044305:=0
def tw5406185079607464208:=0
def tw3975024647415356223:=0
def tw4872079774066719373:=0
def tw16376230279718900410:=0
def tw15288150396236714604:=0
def tw2112613309427567466:=0
def tw13055109496502410208:=0
def tw6564442576313381345:=0
def tw9926172574372417211:=0
def tw5939584073285482660:=0
def tw11541635872777382723:=0
def tw1490513728014473703:=0
def tw13914940418439624349:=0
def tw15080097940664400994:=0
def tw17255580333059232180:=0
def tw15523480847672279070:=0
def tw8656750330039535029:=0
def tw13965885022681582534:=0
def tw6987691849110689791:=0
def tw15028249446311593091:=0
def tw10967987123505227358:=0
def tw5924587680495987132:=0
def tw8738073230262161670:=0
def tw12800169319351972445:=0
def tw15141664788455235572:=0
def tw2801130488036876776:=0
def tw11657961149949957097:=0
def tw12723052925457651724:=0
def tw7492831500499112293:=0
def tw53743110114629902:=0
def tw12931457848485782723:=0
def tw4569929223046436135:=0
def tw7498626915253541037:=0
def tw9425511188013249217:=0
def tw330232725207437303:=0
def tw13590404071176212260:=0
def tw14444853653416518010:=0
def tw14442636614709237566:=0
def tw4263284351803039224:=0
def tw15560569275209163057:=0
def tw17549131236533138485:=0
def tw15715272239062449936:=0
def tw4628983047654287751:=0
def tw18182666231984781507:=0
def tw9617607099468288702:=0
def tw18032856306050376041:=0
def tw15489342713847499558:=0
def tw1806554939500657738:=0
def tw10579017124243065062:=0
def tw3924181819188651746:=0
def tw6955567352642428097:=0
def tw5772374871130099998:=0
def tw11798568021654001772:=0
def tw9849174600363857302:=0
def tw14834445095551837268:=0
def tw7809352039381799727:=0
def tw7459973734599738198:=0
def tw8826759084834255293:=0
def tw3087437326883881948:=0
def tw14475790110630783440:=0
def tw5742574485632890173:=0
def tw12352608454562777702:=0
def tw1767940529621606428:=0
def tw12159364347341193621:=0
def tw11367009910198477413:=0
def tw236570032518711718:=0
def tw14900861732743932164:=0
def tw5487452345939644023:=0
def tw4744257151492941204:=0
def tw2589198145364645958:=0
def tw13562968541148294744:=0
def tw14150377023288189607:=0
def tw14888123976952984640:=0
def tw11637954418717968071:=0
def tw3805913785091416712:=0
def tw14536145112539534354:=0
def tw9379518790278106995:=0
def tw5704909119664299415:=0
def tw6385361774419451474:=0
def tw2553750324762163915:=0
def tw16486654779008462788:=0
def tw18320580674842274665:=0
end PySem.W.Fast
open PySem PySem.W PyProof.Rows
set_option maxRecDepth 100000 in
set_option maxHeartbeats 0 in
theorem PySem.Challenge.cw_holebook_k54_a_growth_keeps_its_pieces_holds : PySem.Challenge.rw_holebook_k54_a_growth_keeps_its_pieces.Holds := by
 w_on; o_law; k_head; (case hw => w_witness2)
 k_fill
 refine Hb.walk (l := PySem.Challenge.rw_holebook_k54_a_growth_keeps_its_pieces) rfl rfl (fun w h Y => PySem.W.kIn_of Y) ?F
 case F =>
   intro w mg fa h KX G hmg
   refine' Hb.all_mk KX G hmg ?ac_HoleError ?ac_NoShape ?ac_NoStage ?ac_NoPiece ?ac_Growth ?a_is_whole ?l_is_whole ?c_is_whole ?k_is_whole ?a_shared_divisor ?l_shared_divisor ?c_shared_divisor ?k_shared_divisor ?a_level_of ?l_level_of ?c_level_of ?k_level_of ?a_faces_agree ?l_faces_agree ?c_faces_agree ?k_faces_agree ?a_add_at ?l_add_at ?c_add_at ?k_add_at ?a_times ?l_times ?c_times ?k_times ?a_NoPiece__init_ ?if_NoPiece__init_ ?l_NoPiece__init_ ?c_NoPiece__init_ ?k_NoPiece__init_ ?a_check_size ?l_check_size ?c_check_size ?k_check_size ?a_counted ?l_counted ?c_counted ?k_counted ?a_Growth_take_back ?if_Growth_take_back ?l_Growth_take_back ?c_Growth_take_back ?k_Growth_take_back ?a_Growth_shape ?if_Growth_shape ?l_Growth_shape ?c_Growth_shape ?k_Growth_shape ?a_L_whole ?l_L_whole ?c_L_whole ?k_L_whole ?a_L_cell_at ?l_L_cell_at ?c_L_cell_at ?k_L_cell_at ?a_L_level ?l_L_level ?c_L_level ?k_L_level ?a_L_meets ?l_L_meets ?c_L_meets ?k_L_meets ?a_L_pick ?l_L_pick ?c_L_pick ?k_L_pick ?a_is_whole_below ?l_is_whole_below ?c_is_whole_below ?k_is_whole_below ?a_plus ?l_plus ?c_plus ?k_plus ?a_add_faces ?l_add_faces ?c_add_faces ?k_add_faces ?a_turned_over ?l_turned_over ?c_turned_over ?k_turned_over ?a_L_fits ?l_L_fits ?c_L_fits ?k_L_fits ?a_L_side ?l_L_side ?c_L_side ?k_L_side ?a_L_same ?l_L_same ?c_L_same ?k_L_same ?a_L_answer ?l_L_answer ?c_L_answer ?k_L_answer ?a_is_place_of_level ?l_is_place_of_level ?c_is_place_of_level ?k_is_place_of_level ?a_is_prime ?l_is_prime ?c_is_prime ?k_is_prime ?a_Growth_settled ?if_Growth_settled ?l_Growth_settled ?c_Growth_settled ?k_Growth_settled ?a_L_next ?l_L_next ?c_L_next ?k_L_next ?a_L_taken ?l_L_taken ?c_L_taken ?k_L_taken ?a_fits ?l_fits ?c_fits ?k_fits ?a_Growth__init_ ?if_Growth__init_ ?l_Growth__init_ ?ld_Growth__init_ ?c_Growth__init_ ?k_Growth__init_ ?a_L_thing_by ?l_L_thing_by ?c_L_thing_by ?k_L_thing_by ?a_Growth_grow ?if_Growth_grow ?l_Growth_grow ?c_Growth_grow ?k_Growth_grow ?a_L_deed ?l_L_deed ?c_L_deed ?k_L_deed ?a_law ?l_law ?c_law ?k_law ?mk_Growth ?kc_Growth ?kc_NoPiece ?eo_NoPiece ?en_NoPiece ?ei_NoPiece ?et_NoPiece ?es_NoPiece ?ae_NoShape ?ak_NoShape ?ae_NoStage ?ak_NoStage ?ak_NoPiece ?a1_NoPiece ?a2_NoPiece ?a3_NoPiece ?a4_NoPiece ?a5_NoPiece ?as_NoShape_NoShape ?as_NoShape_NoPiece ?as_NoStage_NoStage ?as_NoPiece_NoPiece ?b1_HoleError ?b2_HoleError ?b3_HoleError ?na_NoPiece_place ?pg_Growth ?hd_Growth ?po_Growth ?sa_Growth ?na_Growth_prime ?na_Growth_pieces ?na_Growth_sheets ?na_Growth_edges ?na_Growth_enders ?ac_FACE_COUNTS ?lc_FACE_COUNTS ?aq_MOST_PIECES ?aq_PRIME_BOUND ?z_isinstance ?z_int ?z_bool ?z_tuple ?z_zip ?z_max ?z_len ?z_all ?z_range ?z_dict ?z_enumerate ?z_list
   (case ac_HoleError => k_is); (case ac_NoShape => k_is); (case ac_NoStage => k_is); (case ac_NoPiece => k_is)
   (case ac_Growth => k_is); (case ac_FACE_COUNTS => k_is); (case a_is_whole => k_is); (case l_is_whole => k_is)
   (case c_is_whole => k_is); (case k_is_whole => k_is); (case a_shared_divisor => k_is); (case l_shared_divisor => k_is)
   (case c_shared_divisor => k_is); (case k_shared_divisor => k_is); (case a_level_of => k_is); (case l_level_of => k_is)
   (case c_level_of => k_is); (case k_level_of => k_is); (case a_faces_agree => k_is); (case l_faces_agree => k_is)
   (case c_faces_agree => k_is); (case k_faces_agree => k_is); (case a_add_at => k_is); (case l_add_at => k_is)
   (case c_add_at => k_is); (case k_add_at => k_is); (case a_times => k_is); (case l_times => k_is)
   (case c_times => k_is); (case k_times => k_is); (case a_NoPiece__init_ => k_is); (case if_NoPiece__init_ => k_is)
   (case l_NoPiece__init_ => k_is); (case c_NoPiece__init_ => k_is); (case k_NoPiece__init_ => k_is); (case a_check_size => k_is)
   (case l_check_size => k_is); (case c_check_size => k_is); (case k_check_size => k_is); (case a_counted => k_is)
   (case l_counted => k_is); (case c_counted => k_is); (case k_counted => k_is); (case a_Growth_take_back => k_is)
   (case if_Growth_take_back => k_is); (case l_Growth_take_back => k_is); (case c_Growth_take_back => k_is); (case k_Growth_take_back => k_is)
   (case a_Growth_shape => k_is); (case if_Growth_shape => k_is); (case l_Growth_shape => k_is); (case c_Growth_shape => k_is)
   (case k_Growth_shape => k_is); (case a_L_whole => k_is); (case l_L_whole => k_is); (case c_L_whole => k_is)
   (case k_L_whole => k_is); (case a_L_cell_at => k_is); (case l_L_cell_at => k_is); (case c_L_cell_at => k_is)
   (case k_L_cell_at => k_is); (case a_L_level => k_is); (case l_L_level => k_is); (case c_L_level => k_is)
   (case k_L_level => k_is); (case a_L_meets => k_is); (case l_L_meets => k_is); (case c_L_meets => k_is)
   (case k_L_meets => k_is); (case a_L_pick => k_is); (case l_L_pick => k_is); (case c_L_pick => k_is)
   (case k_L_pick => k_is); (case a_is_whole_below => k_is); (case l_is_whole_below => k_is); (case c_is_whole_below => k_is)
   (case k_is_whole_below => k_is); (case a_plus => k_is); (case l_plus => k_is); (case c_plus => k_is)
   (case k_plus => k_is); (case a_add_faces => k_is); (case l_add_faces => k_is); (case c_add_faces => k_is)
   (case k_add_faces => k_is); (case a_turned_over => k_is); (case l_turned_over => k_is); (case c_turned_over => k_is)
   (case k_turned_over => k_is); (case a_L_fits => k_is); (case l_L_fits => k_is); (case c_L_fits => k_is)
   (case k_L_fits => k_is); (case a_L_side => k_is); (case l_L_side => k_is); (case c_L_side => k_is)
   (case k_L_side => k_is); (case a_L_same => k_is); (case l_L_same => k_is); (case c_L_same => k_is)
   (case k_L_same => k_is); (case a_L_answer => k_is); (case l_L_answer => k_is); (case c_L_answer => k_is)
   (case k_L_answer => k_is); (case a_is_place_of_level => k_is); (case l_is_place_of_level => k_is); (case c_is_place_of_level => k_is)
   (case k_is_place_of_level => k_is); (case a_is_prime => k_is); (case l_is_prime => k_is); (case c_is_prime => k_is)
   (case k_is_prime => k_is); (case a_Growth_settled => k_is); (case if_Growth_settled => k_is); (case l_Growth_settled => k_is)
   (case c_Growth_settled => k_is); (case k_Growth_settled => k_is); (case a_L_next => k_is); (case l_L_next => k_is)
   (case c_L_next => k_is); (case k_L_next => k_is); (case a_L_taken => k_is); (case l_L_taken => k_is)
   (case c_L_taken => k_is); (case k_L_taken => k_is); (case a_fits => k_is); (case l_fits => k_is)
   (case c_fits => k_is); (case k_fits => k_is); (case a_Growth__init_ => k_is); (case if_Growth__init_ => k_is)
   (case l_Growth__init_ => k_is); (case ld_Growth__init_ => k_is); (case c_Growth__init_ => k_is); (case k_Growth__init_ => k_is)
   (case a_L_thing_by => k_is); (case l_L_thing_by => k_is); (case c_L_thing_by => k_is); (case k_L_thing_by => k_is)
   (case a_Growth_grow => k_is); (case if_Growth_grow => k_is); (case l_Growth_grow => k_is); (case c_Growth_grow => k_is)
   (case k_Growth_grow => k_is); (case a_L_deed => k_is); (case l_L_deed => k_is); (case c_L_deed => k_is)
   (case k_L_deed => k_is); (case a_law => k_is); (case l_law => k_is); (case c_law => k_is)
   (case k_law => k_is); (case mk_Growth => k_is); (case kc_Growth => k_is); (case kc_NoPiece => k_is)
   (case eo_NoPiece => k_is); (case en_NoPiece => first | k_is | k_qdec | kernel_rfl | decide +kernel); (case ei_NoPiece => k_is); (case et_NoPiece => first | k_is | k_qdec | kernel_rfl | decide +kernel)
   (case es_NoPiece => k_is); (case ae_NoShape => k_exc); (case ak_NoShape => kts_isx); (case ae_NoStage => k_exc)
   (case ak_NoStage => kts_isx); (case ak_NoPiece => kts_isx); (case a1_NoPiece => k_is); (case a2_NoPiece => k_is)
   (case a3_NoPiece => k_is); (case a4_NoPiece => k_is); (case a5_NoPiece => k_is); (case as_NoShape_NoShape => k_is)
   (case as_NoShape_NoPiece => k_is); (case as_NoStage_NoStage => k_is); (case as_NoPiece_NoPiece => k_is); (case b1_HoleError => first | k_is | k_qdec | kernel_rfl | decide +kernel)
   (case b2_HoleError => first | k_is | k_qdec | kernel_rfl | decide +kernel); (case b3_HoleError => first | k_is | k_qdec | kernel_rfl | decide +kernel); (case na_NoPiece_place => k_is); (case pg_Growth => k_is)
   (case hd_Growth => k_is); (case po_Growth => k_is); (case sa_Growth => k_is); (case na_Growth_prime => k_is)
   (case na_Growth_pieces => k_is); (case na_Growth_sheets => k_is); (case na_Growth_edges => k_is); (case na_Growth_enders => k_is)
   (case lc_FACE_COUNTS => k_is); (case aq_MOST_PIECES => k_is); (case aq_PRIME_BOUND => k_is); (case z_isinstance => k_is)
   (case z_int => k_is); (case z_bool => k_is); (case z_tuple => k_is); (case z_zip => k_is)
   (case z_max => k_is); (case z_len => k_is); (case z_all => k_is); (case z_range => k_is)
   (case z_dict => k_is); (case z_enumerate => k_is); (case z_list => k_is)
