import PyProof.Rows.All
import Wide.All
import OpenK.AllK
import Wide.FinOn
import Lean
import PyProof.EqAt
import PyProof.EqKinds
import PyProof.TupleCall
import PySem.Challenge.RW_holebook_k49_the_cone
set_option linter.all false
set_option Elab.async false
set_option maxRecDepth 100000
set_option maxHeartbeats 4000000
namespace L2
open PySem PySem.Spec PyProof.Rows
noncomputable abbrev Key := Sum Int Str
noncomputable def keyIs : Key → Value → Bool
 | .inl k, v => Value.isInt k v
 | .inr x, v => Value.isStrOf x v
noncomputable def keyH (w : World) : Key → Int
 | .inl k => hashInt k
 | .inr x => hashStr w x
theorem keyIs_shape : ∀ {k : Key} {v : Value}, keyIs k v = true → (∃ i t, k = Sum.inl i ∧ v = Value.int i t) ∨ (∃ x t, k = Sum.inr x ∧ v = Value.str x t)
 | .inl i, v, h => by
   obtain ⟨t, e⟩ := Value.isInt_shape (k := i) (v := v) h
   exact .inl ⟨i, t, rfl, e⟩
 | .inr x, v, h => by
   obtain ⟨t, e⟩ := Value.isStrOf_shape (x := x) (v := v) h
   exact .inr ⟨x, t, rfl, e⟩
theorem keyIs_int (i : Int) (t : Tok) : keyIs (.inl i) (.int i t) = true := by simp [keyIs, Value.isInt]
theorem keyIs_str (x : Str) (t : Tok) : keyIs (.inr x) (.str x t) = true := by simp [keyIs, Value.isStrOf]
theorem key_ll (a b : Int) : decide ((Sum.inl a : Key) = Sum.inl b) = (a == b) := by
 by_cases e : a = b
 · subst e; simp
 · have h : ¬ (Sum.inl a : Key) = Sum.inl b := fun q => e (Sum.inl.inj q)
   rw [decide_eq_false h]
   exact (beq_eq_false_iff_ne.mpr e).symm
theorem key_rr (a b : Str) : decide ((Sum.inr a : Key) = Sum.inr b) = decide (a = b) := by
 by_cases e : a = b
 · subst e; simp
 · have h : ¬ (Sum.inr a : Key) = Sum.inr b := fun q => e (Sum.inr.inj q)
   rw [decide_eq_false h, decide_eq_false e]
theorem key_lr (a : Int) (b : Str) : decide ((Sum.inl a : Key) = Sum.inr b) = false := decide_eq_false (fun q => nomatch q)
theorem key_rl (a : Str) (b : Int) : decide ((Sum.inr a : Key) = Sum.inl b) = false := decide_eq_false (fun q => nomatch q)
noncomputable def mixKind (prog : Program) (w : World) : PySem.KeyKind prog w Key where
 is := keyIs
 hash := keyH w
 inj := fun v a b ha hb => by
   rcases keyIs_shape ha with ⟨i, t, rfl, rfl⟩ | ⟨x, t, rfl, rfl⟩
   · rcases keyIs_shape hb with ⟨j, u, rfl, e⟩ | ⟨y, u, rfl, e⟩
     · injection e with e1 _; rw [e1]
     · exact nomatch e
   · rcases keyIs_shape hb with ⟨j, u, rfl, e⟩ | ⟨y, u, rfl, e⟩
     · exact nomatch e
     · injection e with e1 _; rw [e1]
 byValue := fun k v h => by
   rcases keyIs_shape h with ⟨i, t, rfl, rfl⟩ | ⟨x, t, rfl, rfl⟩ <;> rfl
 pyHash := fun hv h => by
   rcases keyIs_shape hv with ⟨i, t, rfl, rfl⟩ | ⟨x, t, rfl, rfl⟩
   · exact wpAny_pyHash_int h
   · exact wpAny_pyHash_str h
 eqBool := fun hu hv h => by
   rcases keyIs_shape hu with ⟨i, t, rfl, rfl⟩ | ⟨x, t, rfl, rfl⟩
   · rcases keyIs_shape hv with ⟨j, u, rfl, rfl⟩ | ⟨y, u, rfl, rfl⟩
     · rw [key_ll] at h; exact wpAny_eqBool_int h
     · rw [key_lr] at h; exact SeqAt.EqAt.int_str i t y u _ _ _ _ h
   · rcases keyIs_shape hv with ⟨j, u, rfl, rfl⟩ | ⟨y, u, rfl, rfl⟩
     · rw [key_rl] at h; exact SeqAt.EqAt.str_int x t j u _ _ _ _ h
     · rw [key_rr] at h; exact wpAny_eqBool_str h
 «strs» := fun k x t v h => by
   rcases keyIs_shape h with ⟨i, u, rfl, e⟩ | ⟨y, u, rfl, e⟩
   · exact nomatch e
   · injection e with e1 _
     subst e1
     cases v <;> rfl
theorem mixKind_int (prog : Program) (w : World) (i : Int) (t : Tok) : (mixKind prog w).is (.inl i) (.int i t) = true := keyIs_int i t
theorem mixKind_str (prog : Program) (w : World) (x : Str) (t : Tok) : (mixKind prog w).is (.inr x) (.str x t) = true := keyIs_str x t
end L2
namespace L2
open PySem PySem.Spec PyProof.Rows
inductive V where
 | non | bl (b : Bool) | int (i : Int) | str (x : Str) | byt (b : Array UInt8) | flt (b : UInt64) | ref (a : Addr) | ty (n : String)
 deriving DecidableEq
noncomputable def RelV : V → Value → Prop
 | .non, u => u = Value.none
 | .bl b, u => u = Value.bool b
 | .int i, u => ∃ t, u = Value.int i t
 | .str x, u => ∃ t, u = Value.str x t
 | .byt b, u => ∃ t, u = Value.bytes b t
 | .flt b, u => ∃ t, u = Value.float b t
 | .ref a, u => u = Value.ref a
 | .ty n, u => u = Value.type n
noncomputable abbrev Vals : List V → List Value → Prop := Paired RelV
theorem Vals.length {xs : List V} {us : List Value} (r : Vals xs us) : xs.length = us.length := Paired.length r
theorem Vals.get : ∀ {xs : List V} {us : List Value} {i : Nat} {x : V}, Vals xs us → xs[i]? = some x → ∃ u, us[i]? = some u ∧ RelV x u
 | _, _, _, _, .nil, e => by simp at e
 | _, _, 0, _, .cons r _, e => by simp at e; subst e; exact ⟨_, rfl, r⟩
 | _, _, i + 1, x, .cons _ t, e => by
   obtain ⟨u, h1, h2⟩ := Vals.get (i := i) (x := x) t (by simpa using e)
   exact ⟨u, by simpa using h1, h2⟩
theorem Vals.append : ∀ {xs ys : List V} {us ws : List Value}, Vals xs us → Vals ys ws → Vals (xs ++ ys) (us ++ ws)
 | _, _, _, _, .nil, s => s
 | _, _, _, _, .cons r t, s => .cons r (Vals.append t s)
theorem Vals.take : ∀ {xs : List V} {us : List Value} (n : Nat), Vals xs us → Vals (xs.take n) (us.take n)
 | _, _, 0, _ => .nil
 | _, _, _ + 1, .nil => .nil
 | _, _, n + 1, .cons r t => .cons r (Vals.take n t)
theorem Vals.drop : ∀ {xs : List V} {us : List Value} (n : Nat), Vals xs us → Vals (xs.drop n) (us.drop n)
 | _, _, 0, r => r
 | _, _, _ + 1, .nil => .nil
 | _, _, n + 1, .cons _ t => Vals.drop n t
noncomputable def RelO : Option V → Option Value → Prop
 | some v, some u => RelV v u
 | none, none => True
 | _, _ => False
noncomputable def KV {κ : Type} : List (κ × V) → List (κ × Value) → Prop := Paired fun (p : κ × V) (q : κ × Value) => p.1 = q.1 ∧ RelV p.2 q.2
noncomputable def kV : Key → V
 | .inl i => .int i
 | .inr x => .str x
inductive HO where
 | lst (xs : List V)
 | tup (xs : List V)
 | dK (kvs : List (Key × V)) | dT (kvs : List (List Key × V))
 | set (S : Int → Bool) (n : Nat)
 | ins (C dx : Addr) (fs : List (Str × V))
 | own (x : Addr)
 | xd (fs : List (Str × V))
 | met (f x : Addr)
 | rng (lo hi : Int)
 | frz (o : Obj) (u : HO)
 | tbl (ps : Array Value)
 | ext (φ : Heap → Prop)
noncomputable abbrev Hp := Addr → Option HO
noncomputable def upd (H : Hp) (a : Addr) (o : HO) : Hp := fun b => if b = a then some o else H b
theorem upd_same {H : Hp} {a : Addr} {o : HO} : upd H a o a = some o := by unfold upd; rw [if_pos rfl]
theorem upd_ne {H : Hp} {a b : Addr} {o : HO} (h : b ≠ a) : upd H a o b = H b := by unfold upd; rw [if_neg h]
theorem ne_of {H : Hp} {a b : Addr} {o u : HO} (h : H a = some o) (h' : H b = some u) (d : o ≠ u) : a ≠ b := by
 intro e; subst e; rw [h] at h'; exact d (Option.some.inj h')
theorem ne_of_none {H : Hp} {a b : Addr} {o : HO} (h : H a = some o) (h' : H b = none) : a ≠ b := by
 intro e; subst e; rw [h] at h'; cases h'
noncomputable def IsTupN (h : Heap) (a : Addr) (items : Array Value) : Prop := ∃ o, h.get? a = some o ∧ o.cls = .type "tuple" ∧ o.dict = none ∧ ∃ n, o.data = .seq items n
theorem IsTupN.tup {h : Heap} {a : Addr} {items : Array Value} (x : IsTupN h a items) : IsTup h a items := let ⟨o, e, c, _, d⟩ := x; ⟨o, e, c, d⟩
theorem IsTupN.lt {h : Heap} {a : Addr} {items : Array Value} (x : IsTupN h a items) : a < h.objs.size := x.tup.lt
theorem IsTupN.new (h : Heap) (items : Array Value) : IsTupN (h.push { cls := .type "tuple", data := .seq items }) h.objs.size items := ⟨_, Heap.get?_push_size _ rfl, rfl, rfl, _, rfl⟩
section
variable (P : Program) (w : World)
noncomputable def ObjOk (H : Hp) (h : Heap) (a : Addr) : HO → Prop
 | .lst xs => xs.length ≤ sizeLine ∧ ∃ (its : List Value) (n : Nat), Vals xs its ∧ h.get? a = some { cls := .type "list", data := .seq its.toArray n }
 | .tup xs => xs.length ≤ sizeLine ∧ ∃ its : List Value, Vals xs its ∧ IsTupN h a its.toArray
 | .dK kvs => kvs.length ≤ sizeLine ∧ (a == sysModules) = false ∧ ∃ vs, KV kvs vs ∧ h.DictOf (mixKind P w) a vs
 | .dT kvs => kvs.length ≤ sizeLine ∧ (a == sysModules) = false ∧ ∃ xs : List (List Key × Addr × Value),
     Paired (fun (p : List Key × V) (q : List Key × Addr × Value) => p.1 = q.1 ∧ H q.2.1 = some (.tup (p.1.map kV)) ∧ RelV p.2 q.2.2) kvs xs ∧
     ∃ o es ep, h.get? a = some o ∧ o.ExactDict ∧ o.data = .dict es ep ∧ es.toList = xs.map (entryOfKey (tupleKind (mixKind P w))) ∧ (xs.map (·.1)).Nodup
 | .set S n => h.SetOf (intKind P w) a S n
 | .ins C dx fs => H dx = some (.own a) ∧ fs.length ≤ 1000 ∧ dx ≠ a ∧ h.get? a = some (PySem.W.instObj C dx) ∧
     ∃ mA, h.Ns1 dx mA ∧ (∀ f, RelO (fs.lookup f) (mA f)) ∧ PySem.Within mA (fs.map (·.1))
 | .own _ => ∃ o, h.get? a = some o
 | .xd fs => ∃ mA, h.Ns1 a mA ∧ ∀ f, RelO (fs.lookup f) (mA f)
 | .rng lo hi => ∃ t u v, h.get? a = some { cls := .type "range", data := .fields #[.int lo t, .int hi u, .int 1 v] }
 | .frz o u => h.get? a = some o ∧ ObjOk H h a u
 | .tbl ps => h.get? a = some { cls := .none, data := .fields ps }
 | .met f x => h.get? a = some (PySem.W.methodObj (.ref f) (.ref x))
 | .ext φ => φ h ∧ (∃ o, h.get? a = some o) ∧ ∀ h1 h2 : Heap, φ h1 → (∀ o, h1.get? a = some o → h2.get? a = some o) → φ h2
noncomputable def HOk (H : Hp) (h : Heap) : Prop := ∀ a o, H a = some o → ObjOk P w H h a o
end
section
variable {P : Program} {w : World} {H H' : Hp} {h h' : Heap} {a : Addr} {o : HO}
theorem ObjOk.lt (x : ObjOk P w H h a o) : a < h.objs.size := by
 cases o with
 | lst xs => obtain ⟨_, _, _, _, e⟩ := x; exact Heap.lt_size e
 | tup xs => obtain ⟨_, _, _, p⟩ := x; exact p.lt
 | dK kvs => obtain ⟨_, _, _, _, o, _, _, e, _⟩ := x; exact Heap.lt_size e
 | dT kvs => obtain ⟨_, _, _, _, o, _, _, e, _⟩ := x; exact Heap.lt_size e
 | set S n => obtain ⟨o, _, _, _, e, _⟩ := x; exact Heap.lt_size e
 | ins C dx fs => obtain ⟨_, _, _, e, _⟩ := x; exact Heap.lt_size e
 | own y => obtain ⟨_, e⟩ := x; exact Heap.lt_size e
 | xd fs => obtain ⟨_, ⟨_, _, _, e, _⟩, _⟩ := x; exact Heap.lt_size e
 | rng lo hi => obtain ⟨_, _, _, e⟩ := x; exact Heap.lt_size e
 | frz ob u => obtain ⟨e, _⟩ := x; exact Heap.lt_size e
 | tbl ps => exact Heap.lt_size (show h.get? a = some _ from x)
 | met f y => exact Heap.lt_size (show h.get? a = some _ from x)
 | ext φ => obtain ⟨_, ⟨_, e⟩, _⟩ := x; exact Heap.lt_size e
theorem Paired.mapP {α β : Type} {F G : α → β → Prop} : ∀ {l₁ : List α} {l₂ : List β}, Paired F l₁ l₂ → (∀ a b, F a b → G a b) → Paired G l₁ l₂
 | _, _, .nil, _ => .nil
 | _, _, .cons r t, f => .cons (f _ _ r) (Paired.mapP t f)
theorem ObjOk.stay (x : ObjOk P w H h a o) (k : ∀ b u, (b = a ∨ H b = some (.own a)) → h.get? b = some u → h'.get? b = some u)
   (ho : ∀ b, H b = some (.own a) → H' b = some (.own a)) (ht : ∀ b xs, H b = some (.tup xs) → H' b = some (.tup xs)) : ObjOk P w H' h' a o := by
 induction o with
 | lst xs => obtain ⟨z, its, n, r, e⟩ := x; exact ⟨z, its, n, r, k _ _ (.inl rfl) e⟩
 | tup xs => obtain ⟨z, its, r, ob, e, c⟩ := x; exact ⟨z, its, r, ob, k _ _ (.inl rfl) e, c⟩
 | dK kvs => obtain ⟨z, y, vs, r, ob, es, ep, e, c⟩ := x; exact ⟨z, y, vs, r, ob, es, ep, k _ _ (.inl rfl) e, c⟩
 | dT kvs =>
   obtain ⟨z, y, xs, r, ob, es, ep, e, c⟩ := x
   exact ⟨z, y, xs, Paired.mapP r fun p q z => ⟨z.1, ht _ _ z.2.1, z.2.2⟩, ob, es, ep, k _ _ (.inl rfl) e, c⟩
 | set S n => obtain ⟨ob, es, ep, t, e, c⟩ := x; exact ⟨ob, es, ep, t, k _ _ (.inl rfl) e, c⟩
 | ins C dx fs =>
   obtain ⟨d, z, ne, e, mA, ⟨od, es, ep, e2, c⟩, r⟩ := x
   exact ⟨ho _ d, z, ne, k _ _ (.inl rfl) e, mA, ⟨od, es, ep, k _ _ (.inr d) e2, c⟩, r⟩
 | own y => obtain ⟨ob, e⟩ := x; exact ⟨ob, k _ _ (.inl rfl) e⟩
 | xd fs => obtain ⟨mA, ⟨od, es, ep, e, c⟩, r⟩ := x; exact ⟨mA, ⟨od, es, ep, k _ _ (.inl rfl) e, c⟩, r⟩
 | rng lo hi => obtain ⟨t, u, v, e⟩ := x; exact ⟨t, u, v, k _ _ (.inl rfl) e⟩
 | frz ob u ih => obtain ⟨e, q⟩ := x; exact ⟨k _ _ (.inl rfl) e, ih q⟩
 | tbl ps =>
   have e : h.get? a = some { cls := .none, data := .fields ps } := x
   show h'.get? a = some { cls := .none, data := .fields ps }
   exact k a _ (.inl rfl) e
 | met f y =>
   have e : h.get? a = some (PySem.W.methodObj (.ref f) (.ref y)) := x
   show h'.get? a = some (PySem.W.methodObj (.ref f) (.ref y))
   exact k a _ (.inl rfl) e
 | ext φ => obtain ⟨p, ⟨o, e⟩, st⟩ := x; exact ⟨st _ _ p fun o q => k _ _ (.inl rfl) q, ⟨o, k _ _ (.inl rfl) e⟩, st⟩
theorem HOk.lt (x : HOk P w H h) (e : H a = some o) : a < h.objs.size := (x a o e).lt
theorem HOk.fresh (x : HOk P w H h) (e : h.objs.size ≤ a) : H a = none := by
 cases q : H a with
 | none => rfl
 | some u => exact absurd (Nat.lt_of_lt_of_le (x.lt q) e) (Nat.lt_irrefl _)
theorem HOk.kept (x : HOk P w H h) (k : ∀ b u, h.get? b = some u → h'.get? b = some u) : HOk P w H h' := fun a o e =>
 (x a o e).stay (fun b u _ q => k b u q) (fun _ q => q) fun _ _ q => q
theorem HOk.laid (x : HOk P w H h) (k : ∀ b u, h.get? b = some u → h'.get? b = some u) (hp : h.objs.size ≤ a) (new : ObjOk P w (upd H a o) h' a o) : HOk P w (upd H a o) h' := fun b u e => by
 have hn := x.fresh hp
 by_cases hb : b = a
 · subst hb; rw [upd_same] at e; cases e; exact new
 · rw [upd_ne hb] at e
   exact (x b u e).stay (fun c v _ q => k c v q) (fun c q => by rw [upd_ne (ne_of_none q hn)]; exact q) fun c xs q => by rw [upd_ne (ne_of_none q hn)]; exact q
end
noncomputable def Rd (H : Hp) (a : Addr) (u : HO) : Prop := H a = some u ∨ ∃ o, H a = some (.frz o u)
theorem Rd.ok {P : Program} {w : World} {H : Hp} {h : Heap} {a : Addr} {u : HO} (r : Rd H a u) (x : HOk P w H h) : ObjOk P w H h a u := by
 rcases r with r | ⟨o, r⟩
 · exact x a u r
 · obtain ⟨_, q⟩ := x a _ r
   exact q
noncomputable def Mut : Option HO → Prop
 | some (.lst _) => True
 | some (.dK _) => True
 | some (.dT _) => True
 | some (.set _ _) => True
 | some (.ins _ _ _) => True
 | some (.ext _) => True
 | _ => False
section
variable {P : Program} {w : World} {H : Hp} {h h' : Heap} {x e : Addr} {o' : HO}
theorem HOk.write (ok : HOk P w H h) (mu : Mut (H x)) (he : e = x ∨ H e = some (.own x)) (k : ∀ b u, b ≠ e → h.get? b = some u → h'.get? b = some u) (heo : ∃ u, h'.get? e = some u)
   (new : ObjOk P w (upd H x o') h' x o') : HOk P w (upd H x o') h' := fun b u q => by
 have nown : ∀ c y, H c = some (.own y) → c ≠ x := fun c y r z => by subst z; rw [r] at mu; exact mu
 have ntup : ∀ c xs, H c = some (.tup xs) → c ≠ x := fun c xs r z => by subst z; rw [r] at mu; exact mu
 by_cases hb : b = x
 · subst hb; rw [upd_same] at q; cases q; exact new
 · rw [upd_ne hb] at q
   by_cases hbe : b = e
   · have q' : H b = some (.own x) := by
       rcases he with z | z
       · exact absurd (hbe.trans z) hb
       · rw [hbe]; exact z
     rw [q] at q'; cases q'
     obtain ⟨v, hv⟩ := heo
     exact ⟨v, by rw [hbe]; exact hv⟩
   · refine (ok b u q).stay (fun c v hc r => k c v ?_ r) (fun c r => by rw [upd_ne (nown c b r)]; exact r) fun c xs r => by rw [upd_ne (ntup c xs r)]; exact r
     rcases hc with rfl | hc
     · exact hbe
     · rintro rfl
       rcases he with z | z
       · exact nown c b hc z
       · rw [hc] at z; cases z; exact hb rfl
end
structure Un (fs ex : List Addr) (H H' : Hp) (h h' : Heap) : Prop where
 keep : ∀ b o, h.get? b = some o → H b = none → b ∉ fs → b ∉ ex → h'.get? b = some o
 slot : ∀ b o, h.get? b = some o → H b = none → b ∈ fs → b ∉ ex → ∃ sl, h'.get? b = some { o with slots := sl }
 free : ∀ b o, h.get? b = some o → H b = none → b ∉ ex → H' b = none
 there : ∀ b o, h.get? b = some o → b ∉ ex → ∃ o', h'.get? b = some o'
 tups : ∀ b xs, H b = some (.tup xs) → H' b = some (.tup xs)
 frzs : ∀ b o u, H b = some (.frz o u) → H' b = some (.frz o u)
 tbls : ∀ b ps, H b = some (.tbl ps) → ∃ more, H' b = some (.tbl (ps ++ more))
section
variable {fs fs' ex ex' : List Addr} {H H1 H2 : Hp} {h h1 h2 h' : Heap} {a x e : Addr} {o : HO}
theorem Un.any (u : Un fs ex H H1 h h1) {b : Addr} {ob : Obj} (q : h.get? b = some ob) (n : H b = none) (hx : b ∉ ex) : ∃ sl, h1.get? b = some { ob with slots := sl } := by
 by_cases hb : b ∈ fs
 · exact u.slot b ob q n hb hx
 · exact ⟨ob.slots, u.keep b ob q n hb hx⟩
theorem Un.kept (k : ∀ b u, h.get? b = some u → h'.get? b = some u) : Un fs ex H H h h' :=
 ⟨fun b ob q _ _ _ => k b ob q, fun b ob q _ _ _ => ⟨ob.slots, k b ob q⟩, fun _ _ _ n _ => n, fun b ob q _ => ⟨ob, k b ob q⟩, fun _ _ q => q, fun _ _ _ q => q, fun _ ps q => ⟨#[], by rw [q]; simp⟩⟩
theorem Un.refl : Un fs ex H H h h := Un.kept fun _ _ q => q
theorem Un.laid (k : ∀ b u, h.get? b = some u → h'.get? b = some u) (hp : h.objs.size ≤ a) (hn : H a = none) : Un fs ex H (upd H a o) h h' where
 keep := fun b u q _ _ _ => k b u q
 slot := fun b u q _ _ _ => ⟨u.slots, k b u q⟩
 free := fun b u q n _ => by rw [upd_ne (Nat.ne_of_lt (Nat.lt_of_lt_of_le (Heap.lt_size q) hp))]; exact n
 there := fun b u q _ => ⟨u, k b u q⟩
 tups := fun b xs q => by rw [upd_ne (ne_of_none q hn)]; exact q
 frzs := fun b u xs q => by rw [upd_ne (ne_of_none q hn)]; exact q
 tbls := fun b ps q => ⟨#[], by rw [upd_ne (ne_of_none q hn), q]; simp⟩
theorem Un.write (mu : Mut (H x)) (he : e = x ∨ H e = some (.own x)) (k : ∀ b u, b ≠ e → h.get? b = some u → h'.get? b = some u) (heo : ∃ u, h'.get? e = some u) : Un fs ex H (upd H x o) h h' := by
 have hx : ∀ b, H b = none → b ≠ x := fun b n z => by subst z; rw [n] at mu; exact mu
 have hb : ∀ b, H b = none → b ≠ e := fun b n z => by
   subst z
   rcases he with r | r
   · exact hx b n r
   · rw [n] at r; cases r
 have hm : ∀ b u, H b = some u → ¬ Mut (some u) → b ≠ x := fun b u q nm z => by subst z; rw [q] at mu; exact nm mu
 refine ⟨fun b u q n _ _ => k b u (hb b n) q, fun b u q n _ _ => ⟨u.slots, k b u (hb b n) q⟩, fun b u q n _ => by rw [upd_ne (hx b n)]; exact n, fun b u q _ => ?_,
   fun b xs q => by rw [upd_ne (hm b _ q fun z => z)]; exact q, fun b u xs q => by rw [upd_ne (hm b _ q fun z => z)]; exact q, fun b ps q => ⟨#[], by rw [upd_ne (hm b _ q fun z => z), q]; simp⟩⟩
 by_cases hbe : b = e
 · subst hbe; exact heo
 · exact ⟨u, k b u hbe q⟩
end
noncomputable def trk (h : Heap) (H : Hp) : List Addr := (List.range h.objs.size).filter fun a => (H a).isSome
noncomputable def hidT (h : Heap) (H : Hp) : Heap := PySem.W.hideAll h (trk h H)
theorem hidT_size (h : Heap) (H : Hp) : (hidT h H).objs.size = h.objs.size := PySem.W.hideAll_size _ _
theorem hidT_get {h : Heap} {H : Hp} {b : Addr} {o : Obj} (e : h.get? b = some o) (n : H b = none) : (hidT h H).get? b = some o :=
 PySem.W.hideAll_get _ e fun hm => by
   have q : (H b).isSome = true := (List.mem_filter.mp hm).2
   rw [n] at q; simp at q
theorem of_hidT {h : Heap} {H : Hp} {b : Addr} {o : Obj} (e : (hidT h H).get? b = some o) : h.get? b = some o ∧ H b = none := by
 have e' : h.get? b = some o := PySem.W.of_hideAll (trk h H) e
 refine ⟨e', ?_⟩
 cases q : H b with
 | none => rfl
 | some x =>
   have hm : b ∈ trk h H := List.mem_filter.mpr ⟨List.mem_range.mpr (Heap.lt_size e'), by simp [q]⟩
   have z : (hidT h H).get? b = none := PySem.W.hideAll_none (trk h H) hm
   rw [z] at e; cases e
noncomputable def allNews (g h : Heap) (L : Addr) : List (Addr × Obj) := (List.range h.objs.size).filterMap fun a => if a = L ∨ (g.get? a).isSome = true then none else (h.get? a).map fun o => (a, o)
noncomputable def rest (g h : Heap) (L d : Addr) : List (Addr × Obj) := (allNews g h L).filter fun p => decide (p.1 ≠ d)
end L2
namespace L2
open PySem PySem.Spec PyProof.Rows
structure Mod (K : PySem.W.Frag) (mg : Str → Option Value) (base : Heap) : Prop where
 kin : K.In base
 glob : base.Ns mainGlobals mg
 blt : ∃ mb, base.Ns builtinsNs mb ∧ ∀ x : Str, x ≠ "__name__" → mb x = bootBuiltins x
 nolimit : base.NoLimit
structure Cx where
 prog : Program
 w : World
 K : PySem.W.Frag
 mg : Str → Option Value
 base : Heap
 A : Around
 N : List Str
 s₀ : Shared
 H₀ : Hp
 env : Env
 outer : List Env
 stack : List Env
 ex : List Addr
 fn : Str → Bool
 calm : Bool
 pn : List (Addr × Obj)
 xe : Value → Shared → Prop
noncomputable def frs (l : List Env) : List Addr := l.filterMap (·.frame)
noncomputable abbrev Cx.fs (X : Cx) : List Addr := frs X.outer
noncomputable def Vis (sc : Scope) (x : Str) : Prop := sc.names.lookup x = some .local ∨ sc.names.lookup x = some .cell ∨ sc.names.lookup x = some .free
noncomputable def Loc (sc : Scope) (x : Str) : Prop := sc.names.lookup x = some .local ∨ sc.names.lookup x = some .cell
noncomputable def Look (env : Env) (h : Heap) (m : Str → Option Value) (x : Str) (u : Value) : Prop :=
 (env.kindOf x = some .local ∧ m x = some u) ∨ ((env.kindOf x = some .cell ∨ env.kindOf x = some .free) ∧ ∃ c, env.cells.lookup x = some c ∧ h.IsCell c (some u))
structure Cx.Ok (X : Cx) : Prop where
 mod : Mod X.K X.mg X.base
 kind : X.env.scope.kind = .function
 glob : X.env.globals = mainGlobals
 blt : X.env.builtins = builtinsNs
 above : X.s₀.heap.objs.size ≤ X.env.locals
 inj : ∀ x y c, X.env.cells.lookup x = some c → X.env.cells.lookup y = some c → x = y
 has : ∀ x, (X.env.kindOf x = some .cell ∨ X.env.kindOf x = some .free) → ∃ c, X.env.cells.lookup x = some c
 cab : ∀ x c, X.fn x = true → X.env.cells.lookup x = some c → X.s₀.heap.objs.size ≤ c
 hd : X.calm = true → X.A.handled = none
 frames : X.A.frames = some X.stack
 stk : X.stack = X.outer ∨ (X.stack = X.env :: X.outer ∧ X.env.frame = some X.env.locals)
 exf : ∀ b ∈ X.ex, b ≠ X.env.locals ∧ ∀ x c, X.env.cells.lookup x = some c → c ≠ b
 bs : ∀ b o, X.base.get? b = some o → X.s₀.heap.get? b = some o ∧ X.H₀ b = none
 bsz : X.base.objs.size ≤ X.s₀.heap.objs.size
 noex : ∀ b o, X.base.get? b = some o → b ∉ X.ex
 exfs : ∀ b ∈ X.ex, b ∉ X.fs
 funs : X.s₀.heap.FunFrames X.base X.outer
 frf : ∀ b ∈ X.fs, X.H₀ b = none
structure Inv (X : Cx) (pins : List (Addr × Obj)) (σ : List (Option V)) (H : Hp) (s : Shared) : Prop where
 ok : X.Ok
 os : s.os = X.s₀.os
 bare : AllBare s.gens
 base : Un X.fs X.ex X.H₀ H X.s₀.heap s.heap
 loc : ∃ m, s.heap.Ns X.env.locals m ∧ ∀ (i : Nat) (x : Str) (v : V), X.N[i]? = some x → σ[i]? = some (some v) → Vis X.env.scope x → ∃ u, RelV v u ∧ Look X.env s.heap m x u
 cell : ∀ x c, X.env.cells.lookup x = some c → ∃ v, s.heap.IsCell c v
 free : H X.env.locals = none
 freeC : ∀ x c, X.env.cells.lookup x = some c → H c = none
 pin : ∀ p ∈ X.pn ++ pins, s.heap.get? p.1 = some p.2 ∧ H p.1 = none ∧ p.1 ≠ X.env.locals ∧ p.1 ∉ X.fs ∧ ∀ v, p.2.data ≠ .cell v
 hok : HOk X.prog X.w H s.heap
 len : σ.length = X.N.length
section
variable {X : Cx} {pins : List (Addr × Obj)} {σ : List (Option V)} {H H' : Hp} {s : Shared} {h' : Heap}
theorem Cx.Ok.nofr (ok : X.Ok) {b : Addr} {o : Obj} (e : X.base.get? b = some o) : b ∉ X.fs := fun hb => by
 have := (ok.funs.mem hb).1
 rw [e] at this; cases this
theorem Inv.bs (I : Inv X pins σ H s) : ∀ b o, X.base.get? b = some o → s.heap.get? b = some o ∧ H b = none := fun b o e =>
 ⟨I.base.keep b o (I.ok.bs b o e).1 (I.ok.bs b o e).2 (I.ok.nofr e) (I.ok.noex b o e), I.base.free b o (I.ok.bs b o e).1 (I.ok.bs b o e).2 (I.ok.noex b o e)⟩
theorem Inv.bk (I : Inv X pins σ H s) : ∀ b o, X.base.get? b = some o → s.heap.get? b = some o := fun b o e => (I.bs b o e).1
theorem Inv.mod (I : Inv X pins σ H s) : Mod X.K X.mg X.base := I.ok.mod
theorem Inv.kIn (I : Inv X pins σ H s) : X.K.In s.heap := I.ok.mod.kin.keeps I.bk
theorem Inv.lt (I : Inv X pins σ H s) : X.env.locals < s.heap.objs.size := let ⟨_, hn, _⟩ := I.loc; hn.lt
theorem Inv.sz (I : Inv X pins σ H s) : X.s₀.heap.objs.size ≤ s.heap.objs.size := Nat.le_trans I.ok.above (Nat.le_of_lt I.lt)
theorem Inv.nofs (I : Inv X pins σ H s) {a : Addr} (h : s.heap.objs.size ≤ a) : a ∉ X.fs := fun hb => by
 obtain ⟨_, o, ho, _⟩ := I.ok.funs.mem hb
 exact absurd (Nat.lt_of_lt_of_le (Heap.lt_size ho) (Nat.le_trans I.sz h)) (Nat.lt_irrefl _)
theorem Inv.cne (I : Inv X pins σ H s) : ∀ x c, X.env.cells.lookup x = some c → c ≠ X.env.locals := fun x c e z => by
 obtain ⟨v, o, ho, hd⟩ := I.cell x c e
 obtain ⟨m, ⟨o', es, ep, ho', hd', _⟩, _⟩ := I.loc
 rw [z, ho'] at ho; cases ho; rw [hd'] at hd; cases hd
theorem Inv.funs (I : Inv X pins σ H s) : s.heap.FunFrames X.base X.outer := by
 have all : ∀ (l : List Env), (∀ b ∈ frs l, b ∈ X.fs) → X.s₀.heap.FunFrames X.base l → s.heap.FunFrames X.base l := by
   intro l
   induction l with
   | nil => intro _ _; trivial
   | cons env r ih =>
     intro hs hl
     obtain ⟨hk, ⟨L, o, hf, hn, ho, hd⟩, hr⟩ := hl
     have hL : L ∈ X.fs := hs L (by unfold frs; rw [List.filterMap_cons, hf]; exact List.mem_cons_self)
     obtain ⟨sl, e⟩ := I.base.slot L o ho (I.ok.frf L hL) hL fun z => I.ok.exfs L z hL
     exact ⟨hk, ⟨L, _, hf, hn, e, hd⟩, ih (fun b hb => hs b (by unfold frs; rw [List.filterMap_cons, hf]; exact List.mem_cons_of_mem _ hb)) hr⟩
 exact all X.outer (fun _ hb => hb) I.ok.funs
theorem Inv.stack (I : Inv X pins σ H s) : s.heap.FunFrames X.base X.stack := by
 rcases I.ok.stk with e | ⟨e, hf⟩
 · rw [e]; exact I.funs
 · rw [e]
   obtain ⟨m, hn, _⟩ := I.loc
   refine .cons (by rw [I.ok.kind]; decide) hf hn ?_ I.funs
   exact Heap.get?_none_of_le (Nat.le_trans I.ok.bsz I.ok.above)
theorem Inv.stkSub (I : Inv X pins σ H s) : ∀ b ∈ frs X.stack, b ∈ X.env.locals :: X.fs := fun b hb => by
 rcases I.ok.stk with e | ⟨e, hf⟩
 · rw [e] at hb; exact List.mem_cons_of_mem _ hb
 · rw [e] at hb
   unfold frs at hb
   rw [List.filterMap_cons, hf] at hb
   exact hb
theorem Inv.stkFree (I : Inv X pins σ H s) : ∀ b ∈ frs X.stack, H b = none := fun b hb => by
 rcases List.mem_cons.mp (I.stkSub b hb) with e | hb
 · rw [e]; exact I.free
 · obtain ⟨_, o, ho, _⟩ := I.ok.funs.mem hb
   exact I.base.free b o ho (I.ok.frf b hb) fun z => I.ok.exfs b z hb
theorem Inv.step {g' : Array GenState} {t' : Nat} {d' : Drawn} {ch : List Addr} (I : Inv X pins σ H s)
   (hch : ∀ b ∈ ch, (b ∈ X.ex ∨ X.s₀.heap.objs.size ≤ b) ∧ b ≠ X.env.locals ∧ (∀ x c, X.env.cells.lookup x = some c → c ≠ b) ∧ ∀ p ∈ X.pn ++ pins, p.1 ≠ b)
   (keep : ∀ b o, b ≠ X.env.locals → b ∉ X.fs → b ∉ ch → s.heap.get? b = some o → H b = none → h'.get? b = some o)
   (slot : ∀ b o, b ≠ X.env.locals → b ∈ X.fs → b ∉ ch → s.heap.get? b = some o → H b = none → ∃ sl, h'.get? b = some { o with slots := sl }) (free : ∀ b o, b ∉ ch → s.heap.get? b = some o → H b = none → H' b = none)
   (there : ∀ b o, b ∉ ch → s.heap.get? b = some o → ∃ o', h'.get? b = some o')
   (tups : ∀ b xs, H b = some (.tup xs) → H' b = some (.tup xs)) (frzs : ∀ b o u, H b = some (.frz o u) → H' b = some (.frz o u)) (tbls : ∀ b ps, H b = some (.tbl ps) → ∃ more, H' b = some (.tbl (ps ++ more)))
   (ns : ∀ m, s.heap.Ns X.env.locals m → h'.Ns X.env.locals m) (hok : HOk X.prog X.w H' h') (hg : AllBare g') :
   Inv X pins σ H' { s with heap := h', gens := g', drawn := d', toks := t' } := by
 have neL : ∀ b o, X.s₀.heap.get? b = some o → b ≠ X.env.locals := fun b o e => Nat.ne_of_lt (Nat.lt_of_lt_of_le (Heap.lt_size e) I.ok.above)
 have neC : ∀ b o, X.s₀.heap.get? b = some o → b ∉ X.ex → b ∉ ch := fun b o e hx hb => by
   rcases (hch b hb).1 with z | z
   · exact hx z
   · exact absurd (Nat.lt_of_lt_of_le (Heap.lt_size e) z) (Nat.lt_irrefl _)
 have cellK : ∀ x c, X.env.cells.lookup x = some c → ∀ v, s.heap.IsCell c v → h'.IsCell c v := fun x c e v ⟨o, ho, hd⟩ => by
   have nch : c ∉ ch := fun z => (hch c z).2.2.1 x c e rfl
   by_cases hc : c ∈ X.fs
   · obtain ⟨sl, q⟩ := slot c o (I.cne x c e) hc nch ho (I.freeC x c e)
     exact ⟨_, q, hd⟩
   · exact ⟨o, keep c o (I.cne x c e) hc nch ho (I.freeC x c e), hd⟩
 refine ⟨I.ok, I.os, hg, ⟨fun b o e n hb hx => ?_, fun b o e n hb hx => ?_, fun b o e n hx => ?_, fun b o e hx => ?_, fun b xs e => tups b xs (I.base.tups b xs e), fun b o xs e => frzs b o xs (I.base.frzs b o xs e), fun b ps e => ?_⟩, ?_, fun x c e => ?_, ?_, fun x c e => ?_, fun p hp => ?_, hok, I.len⟩
 · exact keep b o (neL b o e) hb (neC b o e hx) (I.base.keep b o e n hb hx) (I.base.free b o e n hx)
 · obtain ⟨sl, e1⟩ := I.base.slot b o e n hb hx
   obtain ⟨sl', e2⟩ := slot b _ (neL b o e) hb (neC b o e hx) e1 (I.base.free b o e n hx)
   exact ⟨sl', e2⟩
 · obtain ⟨o', e1⟩ := I.base.there b o e hx
   exact free b o' (neC b o e hx) e1 (I.base.free b o e n hx)
 · obtain ⟨o', e1⟩ := I.base.there b o e hx
   exact there b o' (neC b o e hx) e1
 · obtain ⟨m1, e1⟩ := I.base.tbls b ps e
   obtain ⟨m2, e2⟩ := tbls b _ e1
   exact ⟨m1 ++ m2, by rw [e2, Array.append_assoc]⟩
 · obtain ⟨m, hn, hl⟩ := I.loc
   refine ⟨m, ns m hn, fun i x v e1 e2 e3 => ?_⟩
   obtain ⟨u, r, l⟩ := hl i x v e1 e2 e3
   refine ⟨u, r, ?_⟩
   rcases l with l | ⟨k, c, e, z⟩
   · exact .inl l
   · exact .inr ⟨k, c, e, cellK x c e _ z⟩
 · obtain ⟨v, z⟩ := I.cell x c e
   exact ⟨v, cellK x c e v z⟩
 · obtain ⟨m, ⟨o, _, _, ho, _⟩, _⟩ := I.loc
   exact free _ o (fun z => (hch _ z).2.1 rfl) ho I.free
 · obtain ⟨v, o, ho, hd⟩ := I.cell x c e
   exact free c o (fun z => (hch c z).2.2.1 x c e rfl) ho (I.freeC x c e)
 · obtain ⟨e, n, ne, nf, d⟩ := I.pin p hp
   have nch : p.1 ∉ ch := fun z => (hch p.1 z).2.2.2 p hp rfl
   exact ⟨keep p.1 p.2 ne nf nch e n, free p.1 p.2 nch e n, ne, nf, d⟩
theorem Inv.un {t' : Nat} (I : Inv X pins σ H s) (u : Un X.fs [] H H' s.heap h') (hok : HOk X.prog X.w H' h') : Inv X pins σ H' { s with heap := h', toks := t' } := by
 obtain ⟨m, ⟨o, es, ep, ho, r⟩, _⟩ := id I.loc
 obtain ⟨sl, hL⟩ := u.any ho I.free (by simp)
 exact I.step (g' := s.gens) (d' := s.drawn) (ch := []) (fun _ z => nomatch z) (fun b o _ hb _ e n => u.keep b o e n hb (by simp)) (fun b o _ hb _ e n => u.slot b o e n hb (by simp)) (fun b o _ e n => u.free b o e n (by simp)) (fun b o _ e => u.there b o e (by simp)) u.tups u.frzs u.tbls (fun m' hm => by
   obtain ⟨o', es', ep', ho', r'⟩ := hm
   rw [ho] at ho'; cases ho'
   exact ⟨_, es', ep', hL, r'⟩) hok I.bare
theorem Inv.call {g' : Array GenState} {t' : Nat} {d' : Drawn} {ch : List Addr} (I : Inv X pins σ H s) (u : Un (frs X.stack) ch H H' s.heap h') (hok : HOk X.prog X.w H' h') (hg : AllBare g')
   (hch : ∀ b ∈ ch, (b ∈ X.ex ∨ X.s₀.heap.objs.size ≤ b) ∧ b ≠ X.env.locals ∧ (∀ x c, X.env.cells.lookup x = some c → c ≠ b) ∧ ∀ p ∈ X.pn ++ pins, p.1 ≠ b) :
   Inv X pins σ H' { s with heap := h', gens := g', drawn := d', toks := t' } := by
 obtain ⟨m, ⟨o, es, ep, ho, r⟩, _⟩ := id I.loc
 obtain ⟨sl, hL⟩ := u.any ho I.free fun z => (hch _ z).2.1 rfl
 exact I.step (ch := ch) hch (fun b o hL hb hc e n => u.keep b o e n (fun z => (List.mem_cons.mp (I.stkSub b z)).elim hL hb) hc) (fun b o _ _ hc e n => u.any e n hc) (fun b o hc e n => u.free b o e n hc) (fun b o hc e => u.there b o e hc) u.tups u.frzs u.tbls (fun m' hm => by
   obtain ⟨o', es', ep', ho', r'⟩ := hm
   rw [ho] at ho'; cases ho'
   exact ⟨_, es', ep', hL, r'⟩) hok hg
theorem Inv.turned {t' : Nat} {it : Addr} (I : Inv X pins σ H s) (k : ∀ b o, b ≠ it → s.heap.get? b = some o → h'.get? b = some o) (hn : H it = none) (hL : it ≠ X.env.locals)
   (h1 : it ∈ X.ex ∨ X.s₀.heap.objs.size ≤ it) (h2 : ∀ x c, X.env.cells.lookup x = some c → c ≠ it) (h3 : ∀ p ∈ X.pn ++ pins, p.1 ≠ it) : Inv X pins σ H { s with heap := h', toks := t' } := by
 have nit : ∀ b u, H b = some u → b ≠ it := fun b u e z => by rw [z, hn] at e; cases e
 refine I.step (g' := s.gens) (d' := s.drawn) (ch := [it]) (fun b hb => ?_) (fun b o _ _ hc e _ => k b o (fun z => hc (by simp [z])) e) (fun b o _ _ hc e _ => ⟨o.slots, k b o (fun z => hc (by simp [z])) e⟩) (fun _ _ _ _ n => n)
   (fun b o hc e => ⟨o, k b o (fun z => hc (by simp [z])) e⟩) (fun _ _ e => e) (fun _ _ _ e => e) (fun b ps e => ⟨#[], by rw [e]; simp⟩) (fun m hm => ?_) (fun b u e => ?_) I.bare
 · have e : b = it := by simpa using hb
   subst e
   exact ⟨h1, hL, h2, h3⟩
 · obtain ⟨o, es, ep, ho, r⟩ := hm
   exact ⟨o, es, ep, k _ o (Ne.symm hL) ho, r⟩
 · refine (I.hok b u e).stay (fun c v hc q => k c v ?_ q) (fun _ q => q) fun _ _ q => q
   rcases hc with z | z
   · rw [z]; exact nit b u e
   · exact nit c _ z
theorem Inv.tok (I : Inv X pins σ H s) (t : Nat) : Inv X pins σ H { s with toks := t } := I.un (h' := s.heap) (t' := t) Un.refl I.hok
theorem Inv.kept {t' : Nat} (I : Inv X pins σ H s) (k : ∀ b u, s.heap.get? b = some u → h'.get? b = some u) : Inv X pins σ H { s with heap := h', toks := t' } := I.un (Un.kept k) (I.hok.kept k)
theorem Inv.laid {a : Addr} {o : HO} {t' : Nat} (I : Inv X pins σ H s) (k : ∀ b u, s.heap.get? b = some u → h'.get? b = some u) (hp : s.heap.objs.size ≤ a) (new : ObjOk X.prog X.w (upd H a o) h' a o) :
   Inv X pins σ (upd H a o) { s with heap := h', toks := t' } := I.un (Un.laid k hp (I.hok.fresh hp)) (I.hok.laid k hp new)
theorem Inv.write {x e : Addr} {o : HO} {t' : Nat} (I : Inv X pins σ H s) (mu : Mut (H x)) (he : e = x ∨ H e = some (.own x)) (k : ∀ b u, b ≠ e → s.heap.get? b = some u → h'.get? b = some u) (heo : ∃ u, h'.get? e = some u)
   (new : ObjOk X.prog X.w (upd H x o) h' x o) : Inv X pins σ (upd H x o) { s with heap := h', toks := t' } := I.un (Un.write mu he k heo) (I.hok.write mu he k heo new)
theorem Inv.pins_of {pins' : List (Addr × Obj)} (I : Inv X pins σ H s) (h : ∀ p ∈ pins', s.heap.get? p.1 = some p.2 ∧ H p.1 = none ∧ p.1 ≠ X.env.locals ∧ p.1 ∉ X.fs ∧ ∀ v, p.2.data ≠ .cell v) : Inv X pins' σ H s :=
 ⟨I.ok, I.os, I.bare, I.base, I.loc, I.cell, I.free, I.freeC, fun p hp => (List.mem_append.mp hp).elim (fun z => I.pin p (List.mem_append_left _ z)) (h p), I.hok, I.len⟩
theorem nodup_ix {N : List Str} (hN : N.Nodup) {i j : Nat} {x : Str} (a : N[i]? = some x) (b : N[j]? = some x) : i = j := by
 obtain ⟨h1, e1⟩ := List.getElem?_eq_some_iff.mp a
 obtain ⟨h2, e2⟩ := List.getElem?_eq_some_iff.mp b
 exact (List.getElem_inj hN).mp (e1.trans e2.symm)
theorem store_ok2 {M : Model} {A : Around} {E : Value → Shared → Prop} {i : Nat} {x : Str} {v : V} {u : Value} {Q : Unit → Shared → Prop} (I : Inv X pins σ H s) (hN : X.N.Nodup) (hi : X.N[i]? = some x) (hx : Loc X.env.scope x) (r : RelV v u)
   (h : ∀ s', Inv X pins (σ.set i (some v)) H s' → (∃ a, Heap.SameBut a s.heap s'.heap ∧ (a = X.env.locals ∨ X.env.cells.lookup x = some a)) → Q () s') (hf : X.fn x = true ∨ X.env.scope.names.lookup x = some .local := by first | exact .inl rfl | exact .inr rfl | assumption) : wpAny M A (storeName X.env x u) Q E s := by
 obtain ⟨m, hn, hl⟩ := id I.loc
 have hcls : (X.env.scope.kind == .class || (X.env.scope.kind == .module && X.env.locals != X.env.globals)) = false := by rw [I.ok.kind]; rfl
 have hiσ : i < σ.length := by rw [I.len]; exact (List.getElem?_eq_some_iff.mp hi).1
 have cne := I.cne
 have tracked : ∀ {a : Addr} {h' : Heap}, (∃ o, s.heap.get? a = some o ∧ H a = none) → Heap.SameBut a s.heap h' → HOk X.prog X.w H h' := fun {a h'} ha hs b ob e => by
   obtain ⟨_, _, hfree⟩ := ha
   refine (I.hok b ob e).stay (fun c w' hc q => (hs.2 c ?_).trans q) (fun _ q => q) fun _ _ q => q
   rintro rfl
   rcases hc with rfl | hc
   · rw [hfree] at e; cases e
   · rw [hfree] at hc; cases hc
 rcases hx with hk | hk
 · refine wpAny_storeName_local hk hn (fun h' hn' hs => ?_) hcls
   obtain ⟨oL, _, _, hoL, _⟩ := id hn
   refine h _ ⟨I.ok, I.os, I.bare, ⟨fun b o e n hb hx => ?_, fun b o e n hb hx => ?_, I.base.free, fun b o e hx => ?_, I.base.tups, I.base.frzs, I.base.tbls⟩, ⟨_, hn', fun j y v' e1 e2 e3 => ?_⟩, fun y c e => ?_, I.free, I.freeC, fun p hp => ?_, tracked ⟨oL, hoL, I.free⟩ hs, by simpa using I.len⟩ ⟨_, hs, .inl rfl⟩
   · exact (hs.2 b (Nat.ne_of_lt (Nat.lt_of_lt_of_le (Heap.lt_size e) I.ok.above))).trans (I.base.keep b o e n hb hx)
   · obtain ⟨sl, e1⟩ := I.base.slot b o e n hb hx
     exact ⟨sl, (hs.2 b (Nat.ne_of_lt (Nat.lt_of_lt_of_le (Heap.lt_size e) I.ok.above))).trans e1⟩
   · obtain ⟨o', e1⟩ := I.base.there b o e hx
     exact ⟨o', (hs.2 b (Nat.ne_of_lt (Nat.lt_of_lt_of_le (Heap.lt_size e) I.ok.above))).trans e1⟩
   · by_cases hj : j = i
     · subst hj
       rw [hi] at e1; cases e1
       rw [List.getElem?_set_self hiσ] at e2
       cases e2
       exact ⟨u, r, .inl ⟨hk, by simp⟩⟩
     · rw [List.getElem?_set_ne (Ne.symm hj)] at e2
       obtain ⟨u', r', q⟩ := hl j y v' e1 e2 e3
       refine ⟨u', r', ?_⟩
       rcases q with ⟨k, e⟩ | ⟨k, c, e, z⟩
       · refine .inl ⟨k, ?_⟩
         have : y ≠ x := fun e => hj (nodup_ix hN e1 (e ▸ hi))
         simp [this, e]
       · exact .inr ⟨k, c, e, z.sameBut hs (cne y c e)⟩
   · obtain ⟨w', z⟩ := I.cell y c e
     exact ⟨w', z.sameBut hs (cne y c e)⟩
   · obtain ⟨e, n, ne, nf, d⟩ := I.pin p hp
     exact ⟨(hs.2 p.1 ne).trans e, n, ne, nf, d⟩
 · have hfn : X.fn x = true := by
     rcases hf with z | z
     · exact z
     · rw [z] at hk; cases hk
   obtain ⟨c, hc⟩ := I.ok.has x (.inl hk)
   obtain ⟨w', z⟩ := I.cell x c hc
   refine wpAny_storeName_cell I.ok.kind hk hc z (fun h' hc' hs => ?_)
   obtain ⟨oc, hoc, hocd⟩ := id z
   refine h { s with heap := h' } ⟨I.ok, I.os, I.bare, ⟨fun b o e n hb hx => ?_, fun b o e n hb hx => ?_, I.base.free, fun b o e hx => ?_, I.base.tups, I.base.frzs, I.base.tbls⟩, ⟨m, hn.sameBut hs (Ne.symm (cne x c hc)), fun j y v' e1 e2 e3 => ?_⟩, fun y c' e => ?_, I.free, I.freeC, fun p hp => ?_, tracked ⟨oc, hoc, I.freeC x c hc⟩ hs, by simpa using I.len⟩ ⟨c, hs, .inr hc⟩
   · exact (hs.2 b (Nat.ne_of_lt (Nat.lt_of_lt_of_le (Heap.lt_size e) (I.ok.cab x c hfn hc)))).trans (I.base.keep b o e n hb hx)
   · obtain ⟨sl, e1⟩ := I.base.slot b o e n hb hx
     exact ⟨sl, (hs.2 b (Nat.ne_of_lt (Nat.lt_of_lt_of_le (Heap.lt_size e) (I.ok.cab x c hfn hc)))).trans e1⟩
   · obtain ⟨o', e1⟩ := I.base.there b o e hx
     exact ⟨o', (hs.2 b (Nat.ne_of_lt (Nat.lt_of_lt_of_le (Heap.lt_size e) (I.ok.cab x c hfn hc)))).trans e1⟩
   · by_cases hj : j = i
     · subst hj
       rw [hi] at e1; cases e1
       rw [List.getElem?_set_self hiσ] at e2
       cases e2
       exact ⟨u, r, .inr ⟨.inl hk, c, hc, hc'⟩⟩
     · rw [List.getElem?_set_ne (Ne.symm hj)] at e2
       obtain ⟨u', r', q⟩ := hl j y v' e1 e2 e3
       refine ⟨u', r', ?_⟩
       rcases q with q | ⟨k, c', e, z'⟩
       · exact .inl q
       · refine .inr ⟨k, c', e, z'.sameBut hs ?_⟩
         rintro rfl
         exact hj (nodup_ix hN e1 (I.ok.inj _ _ _ e hc ▸ hi))
   · by_cases hcc : c' = c
     · subst hcc; exact ⟨_, hc'⟩
     · obtain ⟨w2, z2⟩ := I.cell y c' e
       exact ⟨w2, z2.sameBut hs hcc⟩
   · obtain ⟨e, n, ne, nf, d⟩ := I.pin p hp
     refine ⟨(hs.2 p.1 ?_).trans e, n, ne, nf, d⟩
     intro q
     rw [q, hoc] at e
     have q' : oc = p.2 := Option.some.inj e
     exact d w' (by rw [← q']; exact hocd)
theorem store_ok {M : Model} {A : Around} {E : Value → Shared → Prop} {i : Nat} {x : Str} {v : V} {u : Value} {Q : Unit → Shared → Prop} (I : Inv X pins σ H s) (hN : X.N.Nodup) (hi : X.N[i]? = some x) (hx : Loc X.env.scope x) (r : RelV v u)
   (h : ∀ s', Inv X pins (σ.set i (some v)) H s' → Q () s') (hf : X.fn x = true ∨ X.env.scope.names.lookup x = some .local := by first | exact .inl rfl | exact .inr rfl | assumption) : wpAny M A (storeName X.env x u) Q E s :=
 store_ok2 I hN hi hx r (fun s' I' _ => h s' I') hf
theorem Inv.call' {s' : Shared} {ch : List Addr} (I : Inv X pins σ H s) (ho : s'.os = s.os) (u : Un (frs X.stack) ch H H' s.heap s'.heap) (hok : HOk X.prog X.w H' s'.heap) (hg : AllBare s'.gens)
   (hch : ∀ b ∈ ch, (b ∈ X.ex ∨ X.s₀.heap.objs.size ≤ b) ∧ b ≠ X.env.locals ∧ (∀ x c, X.env.cells.lookup x = some c → c ≠ b) ∧ ∀ p ∈ X.pn ++ pins, p.1 ≠ b) : Inv X pins σ H' s' := by
 obtain ⟨h', g', d', t', o'⟩ := s'
 have e : o' = s.os := ho
 subst e
 exact I.call (g' := g') (t' := t') (d' := d') u hok hg hch
end
noncomputable abbrev XK := Value → Option Addr → Hp → Prop
noncomputable abbrev St := List (Option V)
noncomputable abbrev VK := V → Hp → Prop
noncomputable abbrev TE := St → Hp → VK → Prop
noncomputable abbrev TT := St → Hp → (Bool → Hp → Prop) → Prop
noncomputable abbrev TA := St → Hp → (List V → Hp → Prop) → Prop
structure Ends where
 nx : St → Hp → Prop
 rt : VK
 bk : St → Hp → Prop := fun _ _ => False
 ct : St → Hp → Prop := fun _ _ => False
noncomputable abbrev TS := Ends → St → Hp → Prop
noncomputable def EP (X : Cx) (pins : List (Addr × Obj)) (σ : St) (Q : VK) (u : Value) (s' : Shared) : Prop := ∃ v H', Inv X pins σ H' s' ∧ RelV v u ∧ Q v H'
noncomputable def TP (X : Cx) (pins : List (Addr × Obj)) (σ : St) (Q : Bool → Hp → Prop) (b : Bool) (s' : Shared) : Prop := ∃ H', Inv X pins σ H' s' ∧ Q b H'
noncomputable def AP (X : Cx) (pins : List (Addr × Obj)) (σ : St) (Q : List V → Hp → Prop) (us : List Value) (s' : Shared) : Prop := ∃ vs H', Inv X pins σ H' s' ∧ Vals vs us ∧ Q vs H'
noncomputable def SP (X : Cx) (pins : List (Addr × Obj)) (D : Ends) (f : Flow) (s' : Shared) : Prop :=
 match f with
 | .next => ∃ σ' H', Inv X pins σ' H' s' ∧ D.nx σ' H'
 | .brk => ∃ σ' H', Inv X pins σ' H' s' ∧ D.bk σ' H'
 | .cont => ∃ σ' H', Inv X pins σ' H' s' ∧ D.ct σ' H'
 | .ret u => ∃ v σ' H', Inv X pins σ' H' s' ∧ RelV v u ∧ D.rt v H'
noncomputable def PE (X : Cx) (e : Expr) (t : TE) : Prop :=
 ∀ (pins : List (Addr × Obj)) (s : Shared) (σ : St) (H : Hp) (Q : VK), Inv X pins σ H s → t σ H Q → wpAny (model X.prog X.w) X.A (eval e X.env) (EP X pins σ Q) X.xe s
noncomputable def PT (X : Cx) (e : Expr) (t : TT) : Prop :=
 ∀ (pins : List (Addr × Obj)) (s : Shared) (σ : St) (H : Hp) (Q : Bool → Hp → Prop), Inv X pins σ H s → t σ H Q → wpAny (model X.prog X.w) X.A (isTrue e X.env (eval e X.env)) (TP X pins σ Q) X.xe s
noncomputable def PW (X : Cx) (e : Expr) (t : TT) : Prop :=
 ∀ (whole : Sem Value) (pins : List (Addr × Obj)) (s : Shared) (σ : St) (H : Hp) (Q : Bool → Hp → Prop), Inv X pins σ H s → t σ H Q → wpAny (model X.prog X.w) X.A (isTrue e X.env whole) (TP X pins σ Q) X.xe s
theorem PW.pt {X : Cx} {e : Expr} {t : TT} (h : PW X e t) : PT X e t := h _
noncomputable def PA (X : Cx) (es : List Expr) (t : TA) : Prop :=
 ∀ (pos : Pos) (pins : List (Addr × Obj)) (s : Shared) (σ : St) (H : Hp) (Q : List V → Hp → Prop), Inv X pins σ H s → t σ H Q → wpAny (model X.prog X.w) X.A (spliced (backTo pos (starEach es X.env))) (AP X pins σ Q) X.xe s
noncomputable def PS (X : Cx) (st : Stmt) (t : TS) : Prop :=
 ∀ (pins : List (Addr × Obj)) (s : Shared) (σ : St) (H : Hp) (D : Ends), Inv X pins σ H s → t D σ H → wpAny (model X.prog X.w) X.A (exec st X.env) (SP X pins D) X.xe s
noncomputable def PSs (X : Cx) (st : List Stmt) (t : TS) : Prop :=
 ∀ (pins : List (Addr × Obj)) (s : Shared) (σ : St) (H : Hp) (D : Ends), Inv X pins σ H s → t D σ H → wpAny (model X.prog X.w) X.A (execs st X.env) (SP X pins D) X.xe s
theorem thn {α : Type} {t : Sem α} {Q Q' : α → Shared → Prop} {M : Model} {A : Around} {E : Value → Shared → Prop} {s : Shared} (h : wpAny M A t Q E s) (hQ : ∀ a s, Q a s → Q' a s) : wpAny M A t Q' E s := wpAny_mono h hQ fun _ _ x => x
end L2
namespace L2
open PySem PySem.Spec PyProof.Rows
section
variable {X : Cx}
theorem bin {a b : Expr} {ta tb : TE} (ha : PE X a ta) (hb : PE X b tb) {pins : List (Addr × Obj)} {s : Shared} {σ : St} {H : Hp} {R : V → V → Hp → Prop} (I : Inv X pins σ H s) (h : ta σ H fun x H1 => tb σ H1 fun y H2 => R x y H2)
   {α : Type} {Q : α → Shared → Prop} {f : Value → Value → Sem α}
   (hf : ∀ v u s2 x y H2, Inv X pins σ H2 s2 → RelV x v → RelV y u → R x y H2 → wpAny (model X.prog X.w) X.A (f v u) Q X.xe s2) :
   wpAny (model X.prog X.w) X.A (eval a X.env) (fun v s₁ => wpAny (model X.prog X.w) X.A (eval b X.env) (fun u s₂ => wpAny (model X.prog X.w) X.A (f v u) Q X.xe s₂) X.xe s₁) X.xe s := by
 refine thn (ha pins s σ H _ I h) fun v s1 ⟨x, H1, I1, r1, q1⟩ => ?_
 refine thn (hb pins s1 σ H1 _ I1 q1) fun u s2 ⟨y, H2, I2, r2, q2⟩ => ?_
 exact hf v u s2 x y H2 I2 r1 r2 q2
noncomputable def tVar (i : Nat) : TE := fun σ H Q => ∃ v, σ[i]? = some (some v) ∧ Q v H
noncomputable def tC (v : V) : TE := fun _ H Q => Q v H
theorem pe_var {i : Nat} {x : Str} {pos : Pos} (hN : X.N[i]? = some x) (hv : Vis X.env.scope x) (hd : (x == ("__debug__" : Str)) = false := by decide) (hcd : (x == ("__classdict__" : Str)) = false := by decide) : PE X (.Name x pos) (tVar i) := by
 intro pins s σ H Q I h
 obtain ⟨v, e, h⟩ := h
 obtain ⟨m, hn, hl⟩ := I.loc
 obtain ⟨u, r, l⟩ := hl i x v hN e hv
 have fin : EP X pins σ Q u s := ⟨v, H, I, r, h⟩
 rcases l with ⟨hk, hm⟩ | ⟨hk, c, hc, hcell⟩
 · exact wpAny_Name (wpAny_loadName_local I.ok.kind hk hn hm fin) hd
 · rcases hk with hk | hk
   · exact wpAny_Name (wpAny_loadName_cell I.ok.kind hk hc hcell fin) hd
   · exact wpAny_Name (wpAny_loadName_free I.ok.kind hk hc hcell fin hcd) hd
theorem pe_int {i j pos} : PE X (.Constant (.int i) j pos) (tC (.int i)) := fun _ _ _ H _ I h => wpAny_Constant_int ⟨.int i, H, I.tok _, ⟨_, rfl⟩, h⟩
theorem pe_bl {b j pos} : PE X (.Constant (.bool b) j pos) (tC (.bl b)) := fun _ _ _ H _ I h => Constant_bool ⟨.bl b, H, I, rfl, h⟩
theorem pe_non {j pos} : PE X (.Constant .none j pos) (tC .non) := fun _ _ _ H _ I h => Constant_none ⟨.non, H, I, rfl, h⟩
theorem pe_str {x j pos} : PE X (.Constant (.str x) j pos) (tC (.str x)) := fun _ _ _ H _ I h => Calls.Constant_str ⟨.str x, H, I.tok _, ⟨_, rfl⟩, h⟩
noncomputable def Gl (X : Cx) (x : Str) : Prop := X.env.kindOf x = some .globalImplicit
theorem ld_glob {E : Value → Shared → Prop} {pins : List (Addr × Obj)} {s : Shared} {σ : St} {H : Hp} {x : Str} {u : Value} {pos : Pos} {Q : Value → Shared → Prop} (I : Inv X pins σ H s) (hg : Gl X x) (hm : X.mg x = some u) (h : Q u s)
   (hd : (x == ("__debug__" : Str)) = false := by decide) : wpAny (model X.prog X.w) X.A (eval (.Name x pos) X.env) Q E s :=
 Calls.Name_function_global I.ok.kind hg (Calls.loadGlobal_global (by rw [I.ok.glob]; exact I.mod.glob.keeps I.bk) hm h) hd
theorem ld_blt {E : Value → Shared → Prop} {pins : List (Addr × Obj)} {s : Shared} {σ : St} {H : Hp} {x : Str} {u : Value} {pos : Pos} {Q : Value → Shared → Prop} (I : Inv X pins σ H s) (hg : Gl X x) (hm : X.mg x = none) (hv : bootBuiltins x = some u) (h : Q u s)
   (hn : x ≠ "__name__" := by decide) (hd : (x == ("__debug__" : Str)) = false := by decide) : wpAny (model X.prog X.w) X.A (eval (.Name x pos) X.env) Q E s := by
 obtain ⟨mb, h1, h2⟩ := I.mod.blt
 exact Calls.Name_function_global I.ok.kind hg (Calls.loadGlobal_builtin (by rw [I.ok.glob]; exact I.mod.glob.keeps I.bk) hm (by rw [I.ok.blt]; exact h1.keeps I.bk) ((h2 x hn).trans hv) h) hd
theorem pe_glob {x : Str} {v : V} {u : Value} {pos : Pos} (hg : Gl X x) (hm : X.mg x = some u) (r : RelV v u) (hd : (x == ("__debug__" : Str)) = false := by decide) : PE X (.Name x pos) (tC v) :=
 fun _ _ _ H _ I h => ld_glob I hg hm ⟨v, H, I, r, h⟩ hd
theorem pe_bltn {x : Str} {v : V} {u : Value} {pos : Pos} (hg : Gl X x) (hm : X.mg x = none) (hv : bootBuiltins x = some u) (r : RelV v u) (hn : x ≠ "__name__" := by decide) (hd : (x == ("__debug__" : Str)) = false := by decide) : PE X (.Name x pos) (tC v) :=
 fun _ _ _ H _ I h => ld_blt I hg hm hv ⟨v, H, I, r, h⟩ hn hd
variable {a b : Expr} {ta tb : TE} {pos : Pos}
noncomputable def PC (X : Cx) (op : CmpOp) (a b : Expr) (t : TE) : Prop :=
 ∀ (pins : List (Addr × Obj)) (s : Shared) (σ : St) (H : Hp) (Q : VK), Inv X pins σ H s → t σ H Q →
   wpAny (model X.prog X.w) X.A (eval a X.env) (fun v s₁ => wpAny (model X.prog X.w) X.A (eval b X.env) (fun u s₂ => wpAny (model X.prog X.w) X.A (compareOp op v u) (EP X pins σ Q) X.xe s₂) X.xe s₁) X.xe s
theorem nobehind (b : Expr) {op : CmpOp} (h : op ≠ .In) (h2 : op ≠ .NotIn) : behindInMarks op b = false := by
 have e1 : (op == CmpOp.In) = false := by cases op <;> first | rfl | exact absurd rfl h
 have e2 : (op == CmpOp.NotIn) = false := by cases op <;> first | rfl | exact absurd rfl h2
 cases b <;> simp [behindInMarks, e1, e2]
noncomputable def tB (t : TE) : TT := fun σ H Q => t σ H fun x H1 => ∃ c, x = .bl c ∧ Q c H1
theorem pt_cmp {op : CmpOp} {t : TE} (h : PC X op a b t) (h1 : behindInMarks op b = false := by first | exact nobehind _ (by decide) (by decide) | rfl) : PT X (.Compare a [op] [b] pos) (tB t) := by
 intro pins s σ H Q I hw
 refine wpAny_isTrue_Compare1 (thn (h pins s σ H _ I hw) fun v s1 h1 => thn h1 fun u s2 h2 => thn h2 fun c s3 ⟨x, H1, I1, r1, q1⟩ => ?_) h1
 obtain ⟨d, rfl, q⟩ := q1
 cases r1
 exact wpAny_truthy_bool ⟨H1, I1, q⟩
theorem pt_val {e : Expr} {t : TE} (h : PE X e t) (he : ∀ whole, isTrue e X.env whole = (do let v ← whole; standAt e.pos; holding [v] (truthy v)) := by intro _; rfl) : PT X e (tB t) := by
 intro pins s σ H Q I hw
 refine isTrue_plain (thn (h pins s σ H _ I hw) fun v s1 ⟨x, H1, I1, r1, q1⟩ => ?_) (he _)
 obtain ⟨d, rfl, q⟩ := q1
 cases r1
 exact wpAny_truthy_bool ⟨H1, I1, q⟩
variable {tA tB' : TT} {rest : List Expr}
noncomputable def tAnd (t u : TT) : TT := fun σ H Q => t σ H fun c H1 => if c = true then u σ H1 Q else Q false H1
noncomputable def tOr (t u : TT) : TT := fun σ H Q => t σ H fun c H1 => if c = true then Q true H1 else u σ H1 Q
noncomputable def tNot (t : TT) : TT := fun σ H Q => t σ H fun c H1 => Q (!c) H1
theorem pw_and1 (ha : PT X a tA) : PW X (.BoolOp .And [a] pos) tA := by
 intro wh pins s σ H Q I h
 refine isTrue_and (thn (ha pins s σ H Q I h) fun c s1 e => ?_)
 cases c with
 | true => exact isTrue_and_nil e
 | false => exact e
theorem pw_or1 (ha : PT X a tA) : PW X (.BoolOp .Or [a] pos) tA := by
 intro wh pins s σ H Q I h
 refine isTrue_or (thn (ha pins s σ H Q I h) fun c s1 e => ?_)
 cases c with
 | false => exact isTrue_or_nil e
 | true => exact e
theorem pw_and (ha : PT X a tA) (hb : PW X (.BoolOp .And (b :: rest) pos) tB') : PW X (.BoolOp .And (a :: b :: rest) pos) (tAnd tA tB') := by
 intro wh pins s σ H Q I h
 refine isTrue_and (thn (ha pins s σ H _ I h) fun c s1 ⟨H1, I1, q1⟩ => ?_)
 cases c with
 | true => exact hb wh pins s1 σ H1 Q I1 q1
 | false => exact ⟨H1, I1, q1⟩
theorem pw_or (ha : PT X a tA) (hb : PW X (.BoolOp .Or (b :: rest) pos) tB') : PW X (.BoolOp .Or (a :: b :: rest) pos) (tOr tA tB') := by
 intro wh pins s σ H Q I h
 refine isTrue_or (thn (ha pins s σ H _ I h) fun c s1 ⟨H1, I1, q1⟩ => ?_)
 cases c with
 | true => exact ⟨H1, I1, q1⟩
 | false => exact hb wh pins s1 σ H1 Q I1 q1
theorem pt_not (ha : PT X a tA) : PT X (.UnaryOp .Not a pos) (tNot tA) := by
 intro pins s σ H Q I h
 exact isTrue_not (ha pins s σ H (fun c H1 => Q (!c) H1) I h)
noncomputable def tAndV (ta tb : TE) : TE := fun σ H Q => ta σ H fun x H1 => ∃ c, x = .bl c ∧ if c = true then tb σ H1 Q else Q (.bl false) H1
noncomputable def tNotV (ta : TE) : TE := fun σ H Q => ta σ H fun x H1 => ∃ c, x = .bl c ∧ Q (.bl (!c)) H1
theorem pe_one {op} {t : TE} (h : PE X a t) : PE X (.BoolOp op [a] pos) t := fun pins s σ H Q I hw => BoolOp_one (h pins s σ H Q I hw)
theorem pe_and (ha : PE X a ta) (hb : PE X (.BoolOp .And (b :: rest) pos) tb) : PE X (.BoolOp .And (a :: b :: rest) pos) (tAndV ta tb) := by
 intro pins s σ H Q I h
 refine BoolOp_and (thn (ha pins s σ H _ I h) fun v s1 ⟨x, H1, I1, r1, q1⟩ => ?_)
 obtain ⟨c, rfl, q1⟩ := q1
 cases r1
 refine wpAny_truthy_bool ?_
 cases c with
 | true => exact hb pins s1 σ H1 Q I1 q1
 | false => exact ⟨.bl false, H1, I1, rfl, q1⟩
theorem pe_not (ha : PE X a ta) : PE X (.UnaryOp .Not a pos) (tNotV ta) := by
 intro pins s σ H Q I h
 refine UnaryOp_ (thn (ha pins s σ H _ I h) fun v s1 ⟨x, H1, I1, r1, q1⟩ => ?_)
 obtain ⟨c, rfl, q1⟩ := q1
 cases r1
 exact not_of (wpAny_truthy_bool ⟨.bl (!c), H1, I1, rfl, q1⟩)
end
end L2
namespace L2
open PySem PySem.Spec PyProof.Rows
noncomputable def SqL (K : PySem.W.Frag) (H : Hp) (a : Addr) (xs : List V) : Prop :=
 Rd H a (.lst xs) ∨
   ∃ (o : Obj) (its : Array Value) (n : Nat), K.lookup a = some o ∧ o.cls = .type "list" ∧ o.dict = none ∧ o.data = .seq its n ∧ its.size ≤ sizeLine ∧ Vals xs its.toList
noncomputable def SqT (K : PySem.W.Frag) (H : Hp) (a : Addr) (xs : List V) : Prop :=
 Rd H a (.tup xs) ∨
   ∃ (o : Obj) (its : Array Value) (n : Nat), K.lookup a = some o ∧ o.cls = .type "tuple" ∧ o.dict = none ∧ o.data = .seq its n ∧ its.size ≤ sizeLine ∧ Vals xs its.toList
noncomputable def absV : Value → Option V
 | .none => some .non
 | .bool b => some (.bl b)
 | .int i _ => some (.int i)
 | .str x _ => some (.str x)
 | .bytes b _ => some (.byt b)
 | .float b _ => some (.flt b)
 | .ref a => some (.ref a)
 | .type n => some (.ty n)
 | _ => none
theorem RelV.abs {x : V} {u : Value} (r : RelV x u) : absV u = some x := by
 cases x with
 | non => cases r; rfl
 | bl _ => cases r; rfl
 | int _ => obtain ⟨t, rfl⟩ := r; rfl
 | str _ => obtain ⟨t, rfl⟩ := r; rfl
 | byt _ => obtain ⟨t, rfl⟩ := r; rfl
 | flt _ => obtain ⟨t, rfl⟩ := r; rfl
 | ref _ => cases r; rfl
 | ty _ => cases r; rfl
theorem RelV.inj {x y : V} {u : Value} (r : RelV x u) (q : RelV y u) : x = y := Option.some.inj (r.abs.symm.trans q.abs)
theorem Vals.inj : ∀ {xs ys : List V} {us : List Value}, Vals xs us → Vals ys us → xs = ys
 | _, _, _, .nil, .nil => rfl
 | _, _, _, .cons r t, .cons r' t' => by rw [r.inj r', Vals.inj t t']
section
variable {X : Cx} {pins : List (Addr × Obj)} {σ : St} {H : Hp} {s : Shared} {a : Addr} {xs ys : List V}
theorem SqL.of {K : PySem.W.Frag} (h : H a = some (.lst xs)) : SqL K H a xs := .inl (.inl h)
theorem SqT.of {K : PySem.W.Frag} (h : H a = some (.tup xs)) : SqT K H a xs := .inl (.inl h)
theorem Inv.list (I : Inv X pins σ H s) (h : SqL X.K H a xs) : ∃ its : List Value, Vals xs its ∧ PlainL s.heap a its.toArray ∧ xs.length ≤ sizeLine := by
 rcases h with h | ⟨o, its, n, hk, hc, hd, hs, hz, r⟩
 · obtain ⟨z, its, n, r, e⟩ := h.ok I.hok
   exact ⟨its, r, ⟨_, n, e, rfl, rfl, rfl⟩, z⟩
 · refine ⟨its.toList, r, ⟨o, n, I.kIn a o hk, hc, hd, by simpa using hs⟩, ?_⟩
   have e := r.length
   simp only [Array.length_toList] at e
   omega
theorem Inv.tuple (I : Inv X pins σ H s) (h : SqT X.K H a xs) : ∃ its : List Value, Vals xs its ∧ IsTup s.heap a its.toArray ∧ xs.length ≤ sizeLine := by
 rcases h with h | ⟨o, its, n, hk, hc, _, hs, hz, r⟩
 · obtain ⟨z, its, r, p⟩ := h.ok I.hok
   exact ⟨its, r, p.tup, z⟩
 · refine ⟨its.toList, r, ⟨o, I.kIn a o hk, hc, n, by simpa using hs⟩, ?_⟩
   have e := r.length
   simp only [Array.length_toList] at e
   omega
theorem Inv.list_inj (I : Inv X pins σ H s) (h : SqL X.K H a xs) (h' : SqL X.K H a ys) : xs = ys := by
 obtain ⟨its, r, ⟨o, n, e, _, _, d⟩, _⟩ := I.list h
 obtain ⟨its', r', ⟨o', n', e', _, _, d'⟩, _⟩ := I.list h'
 rw [e] at e'; cases e'
 rw [d] at d'
 injection d' with d1 _
 have : its = its' := by simpa using congrArg Array.toList d1
 subst this
 exact r.inj r'
theorem Inv.tuple_inj (I : Inv X pins σ H s) (h : SqT X.K H a xs) (h' : SqT X.K H a ys) : xs = ys := by
 obtain ⟨its, r, ⟨o, e, _, n, d⟩, _⟩ := I.tuple h
 obtain ⟨its', r', ⟨o', e', _, n', d'⟩, _⟩ := I.tuple h'
 rw [e] at e'; cases e'
 rw [d] at d'
 injection d' with d1 _
 have : its = its' := by simpa using congrArg Array.toList d1
 subst this
 exact r.inj r'
end
noncomputable abbrev Cx.wish (X : Cx) (E : Value → Shared → Prop) : Cx := { X with xe := E }
noncomputable abbrev Cx.nox (X : Cx) : Cx := X.wish fun _ _ => False
theorem Cx.Ok.wish {X : Cx} (ok : X.Ok) (E : Value → Shared → Prop) : (X.wish E).Ok :=
 ⟨ok.mod, ok.kind, ok.glob, ok.blt, ok.above, ok.inj, ok.has, ok.cab, ok.hd, ok.frames, ok.stk, ok.exf, ok.bs, ok.bsz, ok.noex, ok.exfs, ok.funs, ok.frf⟩
theorem Cx.Ok.unwish {X : Cx} {E : Value → Shared → Prop} (ok : (X.wish E).Ok) : X.Ok :=
 ⟨ok.mod, ok.kind, ok.glob, ok.blt, ok.above, ok.inj, ok.has, ok.cab, ok.hd, ok.frames, ok.stk, ok.exf, ok.bs, ok.bsz, ok.noex, ok.exfs, ok.funs, ok.frf⟩
section
variable {X : Cx} {pins : List (Addr × Obj)} {σ : St} {H : Hp} {s : Shared} {E : Value → Shared → Prop}
theorem Inv.wish (I : Inv X pins σ H s) (E : Value → Shared → Prop) : Inv (X.wish E) pins σ H s := ⟨I.ok.wish E, I.os, I.bare, I.base, I.loc, I.cell, I.free, I.freeC, I.pin, I.hok, I.len⟩
theorem Inv.unwish (I : Inv (X.wish E) pins σ H s) : Inv X pins σ H s := ⟨I.ok.unwish, I.os, I.bare, I.base, I.loc, I.cell, I.free, I.freeC, I.pin, I.hok, I.len⟩
theorem SP.unwish {D : Ends} {f : Flow} {s' : Shared} (h : SP (X.wish E) pins D f s') : SP X pins D f s' := by
 cases f with
 | next => obtain ⟨σ', H', I, q⟩ := h; exact ⟨σ', H', I.unwish, q⟩
 | brk => obtain ⟨σ', H', I, q⟩ := h; exact ⟨σ', H', I.unwish, q⟩
 | cont => obtain ⟨σ', H', I, q⟩ := h; exact ⟨σ', H', I.unwish, q⟩
 | ret u => obtain ⟨v, σ', H', I, r, q⟩ := h; exact ⟨v, σ', H', I.unwish, r, q⟩
theorem PSs.nox {st : List Stmt} {t : TS} (h : PSs X.nox st t) : PSs X st t := fun pins s σ H D I hw =>
 wpAny_mono (h pins s σ H D (I.wish _) hw) (fun _ _ q => q.unwish) fun _ _ z => False.elim z
end
section
variable {X : Cx} {st : Stmt} {rest : List Stmt} {t u : TS} {e : Expr} {te : TE} {pos : Pos}
noncomputable def tNext : TS := fun D σ H => D.nx σ H
noncomputable def tSeq (t u : TS) : TS := fun D σ H => t { D with nx := u D } σ H
theorem pss_nil : PSs X [] tNext := fun _ _ σ H _ I h => wpAny_execs_nil ⟨σ, H, I, h⟩
theorem pss_cons (h1 : PS X st t) (h2 : PSs X rest u) : PSs X (st :: rest) (tSeq t u) := by
 intro pins s σ H D I h
 refine wpAny_execs_cons (thn (h1 pins s σ H { D with nx := u D } I h) fun f s1 q => ?_)
 cases f with
 | next =>
   obtain ⟨σ', H', I', q⟩ := q
   exact h2 pins s1 σ' H' D I' q
 | ret v => exact q
 | brk => exact q
 | cont => exact q
theorem pss_one (h1 : PS X st t) : PSs X [st] t := by
 intro pins s σ H D I h
 refine wpAny_execs_cons (thn (h1 pins s σ H D I h) fun f s1 q => ?_)
 cases f with
 | next => exact wpAny_execs_nil q
 | ret v => exact q
 | brk => exact q
 | cont => exact q
theorem Inv.quiet {pins : List (Addr × Obj)} {σ : St} {H : Hp} {s : Shared} (I : Inv X pins σ H s) : interactive X.env = false := by simp [interactive, I.ok.kind]
noncomputable def tDrop (te : TE) : TS := fun D σ H => te σ H fun _ H1 => D.nx σ H1
theorem ps_expr (he : PE X e te) (hs : swapsWith e none pos.line X.env = pure false := by rfl) : PS X (.Expr e pos) (tDrop te) := by
 intro pins s σ H D I h
 exact wpAny_Expr_any (thn (he pins s σ H _ I h) fun v s1 ⟨x, H1, I1, r1, q1⟩ => ⟨σ, H1, I1, q1⟩) I.quiet hs
noncomputable def tRet (te : TE) : TS := fun D σ H => te σ H D.rt
theorem ps_ret (he : PE X e te) : PS X (.Return (some e) pos) (tRet te) := by
 intro pins s σ H D I h
 exact wpAny_Return_some (thn (he pins s σ H _ I h) fun v s1 ⟨x, H1, I1, r1, q1⟩ => ⟨x, σ, H1, I1, r1, q1⟩)
noncomputable def tIfS (c : TT) (t u : TS) : TS := fun D σ H => c σ H fun b H1 => if b = true then t D σ H1 else u D σ H1
theorem ps_if {c : Expr} {a b : List Stmt} {tc : TT} (hc : PT X c tc) (ha : PSs X a t) (hb : PSs X b u) : PS X (.If c a b pos) (tIfS tc t u) := by
 intro pins s σ H D I h
 refine wpAny_If (thn (hc pins s σ H _ I h) fun d s1 ⟨H1, I1, q1⟩ => ?_)
 cases d with
 | true => exact ha pins s1 σ H1 D I1 q1
 | false => exact hb pins s1 σ H1 D I1 q1
end
noncomputable abbrev TG := V → St → Hp → (St → Hp → Prop) → Prop
noncomputable abbrev TGs := List V → St → Hp → (St → Hp → Prop) → Prop
noncomputable def PG (X : Cx) (target : Expr) (t : TG) : Prop :=
 ∀ (pins : List (Addr × Obj)) (s : Shared) (σ : St) (H : Hp) (v : V) (u : Value) (Q : St → Hp → Prop), Inv X pins σ H s → RelV v u → t v σ H Q →
   wpAny (model X.prog X.w) X.A (assign target X.env u) (fun _ s' => ∃ σ' H', Inv X pins σ' H' s' ∧ Q σ' H') X.xe s
noncomputable def PGs (X : Cx) (ts : List Expr) (t : TGs) : Prop :=
 ∀ (pins : List (Addr × Obj)) (s : Shared) (σ : St) (H : Hp) (vs : List V) (us : List Value) (Q : St → Hp → Prop), Inv X pins σ H s → Vals vs us → t vs σ H Q →
   wpAny (model X.prog X.w) X.A (assignInOrder ((assignEach ts X.env).map (·.2)) us) (fun _ s' => ∃ σ' H', Inv X pins σ' H' s' ∧ Q σ' H') X.xe s
section
variable {X : Cx} {pos : Pos}
noncomputable def gName (i : Nat) : TG := fun v σ H Q => Q (σ.set i (some v)) H
theorem pg_name {i : Nat} {x : Str} (hN : X.N.Nodup) (hi : X.N[i]? = some x) (hx : Loc X.env.scope x) (hf : X.fn x = true ∨ X.env.scope.names.lookup x = some .local := by first | exact .inl rfl | exact .inr rfl | assumption) : PG X (.Name x pos) (gName i) := by
 intro pins s σ H v u Q I r h
 exact wpAny_assign_Name (store_ok I hN hi hx r (fun s' I' => ⟨_, H, I', h⟩) hf)
noncomputable def gNil : TGs := fun vs σ H Q => vs = [] ∧ Q σ H
noncomputable def gCons (t : TG) (u : TGs) : TGs := fun vs σ H Q => ∃ v r, vs = v :: r ∧ t v σ H fun σ' H' => u r σ' H' Q
theorem pgs_nil : PGs X [] gNil := by
 intro pins s σ H vs us Q I r h
 obtain ⟨e, h⟩ := h
 subst e
 cases r
 exact assignInOrder_nil ⟨σ, H, I, h⟩
theorem pgs_cons {e : Expr} {es : List Expr} {t : TG} {u : TGs} (h1 : PG X e t) (h2 : PGs X es u)
   (hs : (assignEach (e :: es) X.env).map (·.2) = assign e X.env :: (assignEach es X.env).map (·.2) := by rfl) : PGs X (e :: es) (gCons t u) := by
 intro pins s σ H vs us Q I r h
 obtain ⟨v, vr, e1, h⟩ := h
 subst e1
 cases r with
 | cons r rr =>
   rw [hs]
   refine assignInOrder_cons (thn (h1 pins s σ H _ _ _ I r h) fun _ s1 ⟨σ1, H1, I1, q1⟩ => ?_)
   exact h2 pins s1 σ1 H1 _ _ Q I1 rr q1
noncomputable def gTup (K : PySem.W.Frag) (n : Nat) (t : TGs) : TG := fun v σ H Q => ∃ a xs, v = .ref a ∧ SqT K H a xs ∧ xs.length = n ∧ t xs σ H Q
theorem pg_tup {es : List Expr} {k : Nat} {t : TGs} {n : Nat} (hc : X.calm = true) (h : PGs X es t)
   (hn : (assignEach es X.env).length = n := by rfl) (hst : (assignEach es X.env).findIdx? (·.1) = none := by rfl) : PG X (.Tuple es k pos) (gTup X.K n t) := by
 intro pins s σ H v u Q I r hw
 obtain ⟨a, xs, e1, hq, hl, hw⟩ := hw
 subst e1
 cases r
 obtain ⟨its, rv, ht, hz⟩ := I.tuple hq
 refine assign_Tuple_tuple (I.ok.hd hc) ht (by simp [hn, ← hl, rv.length]) hst fun h' hx => ?_
 have I1 : Inv X pins σ H { s with heap := h' } := I.kept (t' := s.toks) fun b o e => hx b o (Nat.ne_of_lt (Heap.lt_size e)) e
 exact h pins _ σ H xs _ Q I1 (by simpa using rv) hw
noncomputable def tAsg (te : TE) (g : TG) : TS := fun D σ H => te σ H fun x H1 => g x σ H1 D.nx
theorem ps_set {i : Nat} {x : Str} {e : Expr} {te : TE} {pos' : Pos} (hN : X.N.Nodup) (hi : X.N[i]? = some x) (hx : Loc X.env.scope x) (he : PE X e te) (hs : swapsWith e (some (.Name x pos')) pos.line X.env = pure false := by rfl) (hf : X.fn x = true ∨ X.env.scope.names.lookup x = some .local := by first | exact .inl rfl | exact .inr rfl | assumption) :
   PS X (.Assign [.Name x pos'] e pos) (tAsg te (gName i)) := by
 intro pins s σ H D I h
 refine wpAny_Assign_Name (thn (he pins s σ H _ I h) fun v s1 ⟨y, H1, I1, r1, q1⟩ => ?_) hs
 exact store_ok I1 hN hi hx r1 (fun s2 I2 => ⟨_, H1, I2, q1⟩) hf
end
section
variable {X : Cx} {pos : Pos}
end
structure It where
 go : Nat → Hp → Prop
 yld : Nat → Hp → V → Hp → Prop
 stop : Nat → Hp → Prop
noncomputable def FpOk (X : Cx) (pins : List (Addr × Obj)) (H : Hp) (b : Addr) : Prop :=
 H b = none ∧ b ≠ X.env.locals ∧ b ∉ X.fs ∧ (b ∈ X.ex ∨ X.s₀.heap.objs.size ≤ b) ∧ (∀ x c, X.env.cells.lookup x = some c → c ≠ b) ∧ ∀ p ∈ X.pn ++ pins, p.1 ≠ b
theorem Inv.fpOk {X : Cx} {pins : List (Addr × Obj)} {σ : St} {H H' : Hp} {s : Shared} {b : Addr} (I : Inv X pins σ H s) (hb : s.heap.objs.size ≤ b) (hn : H' b = none) : FpOk X pins H' b := by
 refine ⟨hn, Nat.ne_of_gt (Nat.lt_of_lt_of_le I.lt hb), I.nofs hb, .inr (Nat.le_trans I.sz hb), fun x c e z => ?_, fun p hp z => ?_⟩
 · obtain ⟨v, q⟩ := I.cell x c e
   exact absurd (Nat.lt_of_lt_of_le q.lt (by rw [z]; exact hb)) (Nat.lt_irrefl _)
 · exact absurd (Nat.lt_of_lt_of_le (Heap.lt_size (I.pin p hp).1) (by rw [z]; exact hb)) (Nat.lt_irrefl _)
structure Turn (P : Program) (w : World) (K : PySem.W.Frag) (tg : Expr) (J : It) (fp : List Addr) (it : Addr) (tn : Nat → Heap → Prop) : Prop where
 mem : it ∈ fp
 obj : ∀ i h, tn i h → ∀ b ∈ fp, ∃ o, h.get? b = some o ∧ ∀ v, o.data ≠ .cell v
 keep : ∀ i h h', tn i h → (∀ b ∈ fp, ∀ o, h.get? b = some o → h'.get? b = some o) → tn i h'
 item : ∀ (X : Cx), X.prog = P → X.w = w → X.K = K → X.calm = true → ∀ (i : Nat) (pins : List (Addr × Obj)) (s : Shared) (σ : St) (H : Hp) (E : Value → Shared → Prop), Inv X pins σ H s → (∀ b ∈ fp, FpOk X pins H b) → tn i s.heap → J.go i H →
   wpAny (model P w) X.A (pyNext (.ref it)) (fun r s1 => ∃ u, r = some u ∧
     wpAny (model P w) X.A (letOwnedTupleGo tg (.ref it) u) (fun _ s2 => ∃ x H', Inv X pins σ H' s2 ∧ RelV x u ∧ J.yld i H x H' ∧ tn (i + 1) s2.heap ∧ ∀ b ∈ fp, H' b = none) E s1) E s
 done : ∀ (X : Cx), X.prog = P → X.w = w → X.K = K → X.calm = true → ∀ (i : Nat) (pins : List (Addr × Obj)) (s : Shared) (σ : St) (H : Hp) (E : Value → Shared → Prop), Inv X pins σ H s → (∀ b ∈ fp, FpOk X pins H b) → tn i s.heap → J.stop i H →
   wpAny (model P w) X.A (pyNext (.ref it)) (fun r s1 => r = none ∧ Inv X pins σ H s1) E s
 self : ∀ (A : Around) (i : Nat) (s : Shared) (Q : Value → Shared → Prop) (E : Value → Shared → Prop), tn i s.heap → Q (.ref it) s → wpAny (model P w) A (pyIter (.ref it)) Q E s
noncomputable abbrev TI := St → Hp → (It → Hp → Prop) → Prop
noncomputable def PIE (X : Cx) (pins : List (Addr × Obj)) (σ : St) (tg : Expr) (R : It → Hp → Prop) (itv : Value) (s2 : Shared) : Prop :=
 ∃ (it : Addr) (fp : List Addr) (tn : Nat → Heap → Prop) (J : It) (H' : Hp), itv = .ref it ∧ Inv X pins σ H' s2 ∧ Turn X.prog X.w X.K tg J fp it tn ∧ tn 0 s2.heap ∧ (∀ b ∈ fp, FpOk X pins H' b) ∧ R J H'
noncomputable def PI (X : Cx) (tg iter : Expr) (wi : TI) : Prop :=
 ∀ (pins : List (Addr × Obj)) (s : Shared) (σ : St) (H : Hp) (R : It → Hp → Prop), Inv X pins σ H s → wi σ H R →
   wpAny (model X.prog X.w) X.A (eval iter X.env) (fun v s1 => wpAny (model X.prog X.w) X.A (pyIter v) (PIE X pins σ tg R) X.xe s1) X.xe s
theorem go_of {M : Model} {A : Around} {E : Value → Shared → Prop} {s : Shared} {tg : Expr} {it : Addr} {u : Value} {o : Obj} {n : String} {vs : Array Value} {Q : Unit → Shared → Prop} (ho : s.heap.get? it = some o) (hc : o.cls = .type n) (hd : o.data = .fields vs)
   (hn : ["enumerate", "zip", "dict_itemiterator", "dict_reverseitemiterator", "odict_iterator", "itertools.zip_longest", "itertools.pairwise"].contains n = false) (hQ : Q () s) : wpAny M A (letOwnedTupleGo tg (.ref it) u) Q E s := by
 unfold letOwnedTupleGo
 cases tg <;> first
   | exact wpAny_pure hQ
   | (cases u <;> first
       | exact wpAny_pure hQ
       | (refine wpAny_bind (wpAny_load ho ?_)
          rw [hc, hd]
          show wpAny M A (if (["enumerate", "zip", "dict_itemiterator", "dict_reverseitemiterator", "odict_iterator", "itertools.zip_longest", "itertools.pairwise"].contains n && vs[0]? == some (rawInt _)) = true then _ else _) Q E s
          rw [if_neg (by intro h; rw [hn, Bool.false_and] at h; cases h)]
          exact wpAny_pure hQ))
noncomputable def Itl (K : PySem.W.Frag) (a : Addr) : It :=
 ⟨fun i H => ∃ xs x, SqL K H a xs ∧ xs[i]? = some x, fun i H x H' => H' = H ∧ ∀ xs, SqL K H a xs → xs[i]? = some x, fun i H => ∃ xs, SqL K H a xs ∧ xs.length ≤ i⟩
noncomputable def Itt (K : PySem.W.Frag) (a : Addr) : It :=
 ⟨fun i H => ∃ xs x, SqT K H a xs ∧ xs[i]? = some x, fun i H x H' => H' = H ∧ ∀ xs, SqT K H a xs → xs[i]? = some x, fun i H => ∃ xs, SqT K H a xs ∧ xs.length ≤ i⟩
noncomputable def Itr (lo : Int) (n : Nat) : It := ⟨fun i _ => i < n, fun i H x H' => H' = H ∧ x = .int (lo + i), fun i _ => n ≤ i⟩
theorem turn_list {P : Program} {w : World} {K : PySem.W.Frag} {tg : Expr} (a it : Addr) : Turn P w K tg (Itl K a) [it] it (fun i h => h.IsListIter it a i) where
 mem := by simp
 obj := fun i h st b hb => by
   have e : b = it := by simpa using hb
   subst e
   obtain ⟨o, e, c, d⟩ := st
   exact ⟨o, e, fun v z => by rw [d] at z; cases z⟩
 keep := fun i h h' st k => st.at fun o e => k it (by simp) o e
 item := by
   intro X hP hw hK hc i pins s σ H E I hf st hg
   subst hP hw hK
   obtain ⟨xs, x, hq, hx⟩ := hg
   obtain ⟨its, rv, p, hz⟩ := I.list hq
   obtain ⟨u, hu, ru⟩ := rv.get hx
   obtain ⟨f0, f1, f2, f3, f4, f5⟩ := hf it (by simp)
   refine wpAny_pyNext_list_item st p.isList (x := u) (by simpa using hu) fun h' st' sb => ?_
   have I1 : Inv X pins σ H { s with heap := h' } := I.turned (t' := s.toks) (fun b o hb e => (sb.2 b hb).trans e) f0 f1 f3 f4 f5
   obtain ⟨o, e, c, d⟩ := id st'
   exact ⟨u, rfl, go_of (s := { s with heap := h' }) e c d (by decide) ⟨x, H, I1, ru, ⟨rfl, fun ys hy => by rw [I.list_inj hy hq]; exact hx⟩, st', fun b hb => (hf b hb).1⟩⟩
 done := by
   intro X hP hw hK hc i pins s σ H E I hf st hg
   subst hP hw hK
   obtain ⟨xs, hq, hx⟩ := hg
   obtain ⟨its, rv, p, hz⟩ := I.list hq
   obtain ⟨f0, f1, f2, f3, f4, f5⟩ := hf it (by simp)
   have hl := rv.length
   exact wpAny_pyNext_list_end (I.ok.hd hc) st p.isList (by simp; omega) fun h' eb => ⟨rfl, I.turned (t' := s.toks) (fun b o hb e => eb b o hb e) f0 f1 f3 f4 f5⟩
 self := fun _ _ _ _ _ st h => wpAny_pyIter_listiter st h
theorem turn_tuple {P : Program} {w : World} {K : PySem.W.Frag} {tg : Expr} (a it : Addr) : Turn P w K tg (Itt K a) [it] it (fun i h => h.IsTupleIter it a i) where
 mem := by simp
 obj := fun i h st b hb => by
   have e : b = it := by simpa using hb
   subst e
   obtain ⟨o, e, c, d⟩ := st
   exact ⟨o, e, fun v z => by rw [d] at z; cases z⟩
 keep := fun i h h' st k => st.at fun o e => k it (by simp) o e
 item := by
   intro X hP hw hK hc i pins s σ H E I hf st hg
   subst hP hw hK
   obtain ⟨xs, x, hq, hx⟩ := hg
   obtain ⟨its, rv, p, hz⟩ := I.tuple hq
   obtain ⟨u, hu, ru⟩ := rv.get hx
   obtain ⟨f0, f1, f2, f3, f4, f5⟩ := hf it (by simp)
   refine wpAny_pyNext_tuple_item st (show s.heap.IsTuple a its.toArray from p) (x := u) (by simpa using hu) fun h' st' sb => ?_
   have I1 : Inv X pins σ H { s with heap := h' } := I.turned (t' := s.toks) (fun b o hb e => (sb.2 b hb).trans e) f0 f1 f3 f4 f5
   obtain ⟨o, e, c, d⟩ := id st'
   exact ⟨u, rfl, go_of (s := { s with heap := h' }) e c d (by decide) ⟨x, H, I1, ru, ⟨rfl, fun ys hy => by rw [I.tuple_inj hy hq]; exact hx⟩, st', fun b hb => (hf b hb).1⟩⟩
 done := by
   intro X hP hw hK hc i pins s σ H E I hf st hg
   subst hP hw hK
   obtain ⟨xs, hq, hx⟩ := hg
   obtain ⟨its, rv, p, hz⟩ := I.tuple hq
   obtain ⟨f0, f1, f2, f3, f4, f5⟩ := hf it (by simp)
   have hl := rv.length
   exact wpAny_pyNext_tuple_end (I.ok.hd hc) st (show s.heap.IsTuple a its.toArray from p) (by simp; omega) fun h' eb => ⟨rfl, I.turned (t' := s.toks) (fun b o hb e => eb b o hb e) f0 f1 f3 f4 f5⟩
 self := fun _ _ _ _ _ st h => wpAny_pyIter_tupleiter st h
theorem turn_range {P : Program} {w : World} {K : PySem.W.Frag} {tg : Expr} (it : Addr) (lo : Int) (n : Nat) : Turn P w K tg (Itr lo n) [it] it (fun i h => IsRangeIter h it (lo + (i : Nat) * 1) ((n : Int) - (i : Nat)) 1) where
 mem := by simp
 obj := fun i h st b hb => by
   have e : b = it := by simpa using hb
   subst e
   exact ⟨_, st, fun v z => by
     have z' : Data.fields _ = Data.cell v := z
     cases z'⟩
 keep := fun i h h' st k => k it (by simp) _ st
 item := by
   intro X hP hw hK hc i pins s σ H E I hf st hg
   subst hP hw hK
   obtain ⟨f0, f1, f2, f3, f4, f5⟩ := hf it (by simp)
   have W := Walks.range (prog := X.prog) (w := X.w) (I.ok.hd hc) it lo 1 n
   refine W.item i s _ _ hg st fun v h' tk hv st' kk => ?_
   obtain ⟨t, rfl⟩ := hv
   have I1 : Inv X pins σ H { s with heap := h', toks := tk } := I.turned (fun b o hb e => kk b o (by simpa using hb) e) f0 f1 f3 f4 f5
   refine ⟨_, rfl, go_of (s := { s with heap := h', toks := tk }) (n := "range_iterator") st' rfl rfl (by decide) ⟨.int (lo + i), H, I1, ⟨t, ?_⟩, ⟨rfl, rfl⟩, st', fun b hb => (hf b hb).1⟩⟩
   rw [Int.mul_one]
 done := by
   intro X hP hw hK hc i pins s σ H E I hf st hg
   subst hP hw hK
   obtain ⟨f0, f1, f2, f3, f4, f5⟩ := hf it (by simp)
   exact wpAny_pyNext_range_end (I.ok.hd hc) st (by have : n ≤ i := hg; omega) fun h' eb => ⟨rfl, I.turned (t' := s.toks) (fun b o hb e => eb b o hb e) f0 f1 f3 f4 f5⟩
 self := fun _ _ _ _ _ st h => wpAny_pyIter_rangeiter st h
end L2
namespace L2
open PySem PySem.Spec PyProof.Rows
section
variable {X : Cx} {tg : Expr}
noncomputable def iList (K : PySem.W.Frag) (tl : TE) : TI := fun σ H R => tl σ H fun x H1 => ∃ a, x = .ref a ∧ (∃ xs, SqL K H1 a xs) ∧ R (Itl K a) H1
noncomputable def iTup (K : PySem.W.Frag) (tl : TE) : TI := fun σ H R => tl σ H fun x H1 => ∃ a, x = .ref a ∧ (∃ xs, SqT K H1 a xs) ∧ R (Itt K a) H1
theorem pi_list {l : Expr} {tl : TE} (hl : PE X l tl) : PI X tg l (iList X.K tl) := by
 intro pins s σ H R I h
 refine thn (hl pins s σ H _ I h) fun v s1 ⟨x, H1, I1, r1, q1⟩ => ?_
 obtain ⟨a, e, ⟨xs, hq⟩, q⟩ := q1
 subst e
 cases r1
 obtain ⟨its, rv, p, hz⟩ := I1.list hq
 refine wpAny_pyIter_list p.isList ?_
 refine ⟨s1.heap.objs.size, [s1.heap.objs.size], _, _, H1, rfl, I1.kept (t' := s1.toks) fun b o e => Heap.get?_push_of_some _ e, turn_list a _, ⟨_, Heap.get?_push_size _ rfl, rfl, rfl⟩, fun b hb => ?_, q⟩
 have e : b = s1.heap.objs.size := by simpa using hb
 subst e
 exact I1.fpOk (Nat.le_refl _) (I1.hok.fresh (Nat.le_refl _))
theorem pi_tup {l : Expr} {tl : TE} (hl : PE X l tl) : PI X tg l (iTup X.K tl) := by
 intro pins s σ H R I h
 refine thn (hl pins s σ H _ I h) fun v s1 ⟨x, H1, I1, r1, q1⟩ => ?_
 obtain ⟨a, e, ⟨xs, hq⟩, q⟩ := q1
 subst e
 cases r1
 obtain ⟨its, rv, p, hz⟩ := I1.tuple hq
 refine wpAny_pyIter_tuple (show s1.heap.IsTuple a its.toArray from p) ?_
 refine ⟨s1.heap.objs.size, [s1.heap.objs.size], _, _, H1, rfl, I1.kept (t' := s1.toks) fun b o e => Heap.get?_push_of_some _ e, turn_tuple a _, ⟨_, Heap.get?_push_size _ rfl, rfl, rfl⟩, fun b hb => ?_, q⟩
 have e : b = s1.heap.objs.size := by simpa using hb
 subst e
 exact I1.fpOk (Nat.le_refl _) (I1.hok.fresh (Nat.le_refl _))
theorem range_it {pins : List (Addr × Obj)} {σ : St} {H : Hp} {s : Shared} {R : It → Hp → Prop} {E : Value → Shared → Prop} {lo hi : Int} {t u v : Tok} {tk : Nat} (I : Inv X pins σ H s) (h1 : -(2 ^ 62) ≤ lo) (h2 : lo < 2 ^ 62) (h3 : -(2 ^ 62) ≤ hi) (h4 : hi < 2 ^ 62)
   (q : R (Itr lo (hi - lo).toNat) H) : wpAny (model X.prog X.w) X.A (pyIter (.ref s.heap.objs.size)) (PIE X pins σ tg R) E { s with heap := s.heap.push { cls := .type "range", data := .fields #[.int lo t, .int hi u, .int 1 v] }, toks := tk } := by
 refine wpAny_pyIter_range (IsRange.new ..) (small_one h1 h2 h3 h4) ?_
 have I1 : Inv X pins σ H { s with heap := s.heap.push { cls := .type "range", data := .fields #[.int lo t, .int hi u, .int 1 v] }, toks := tk } := I.kept fun b o e => Heap.get?_push_of_some _ e
 refine ⟨(s.heap.push { cls := .type "range", data := .fields #[.int lo t, .int hi u, .int 1 v] }).objs.size, [(s.heap.push { cls := .type "range", data := .fields #[.int lo t, .int hi u, .int 1 v] }).objs.size], _, _, H, rfl,
   I1.kept (t' := tk) fun b o e => Heap.get?_push_of_some _ e, turn_range _ lo (hi - lo).toNat, ?_, fun b hb => ?_, q⟩
 · have e1 : lo + ((0 : Nat) : Int) * 1 = lo := by simp
   have e2 : (((hi - lo).toNat : Nat) : Int) - ((0 : Nat) : Int) = Builtin.Range.rangeSize lo hi 1 := by rw [rangeSize_one]; split <;> omega
   show IsRangeIter _ _ (lo + ((0 : Nat) : Int) * 1) ((((hi - lo).toNat : Nat) : Int) - ((0 : Nat) : Int)) 1
   rw [e1, e2]
   exact Heap.get?_push_size _ rfl
 · have e : b = (s.heap.push { cls := .type "range", data := .fields #[.int lo t, .int hi u, .int 1 v] }).objs.size := by simpa using hb
   subst e
   exact I1.fpOk (Nat.le_refl _) (I1.hok.fresh (Nat.le_refl _))
noncomputable def iRng1 (ta : TA) : TI := fun σ H R => ta σ H fun vs H1 => ∃ j : Int, vs = [.int j] ∧ -(2 ^ 62) ≤ j ∧ j < 2 ^ 62 ∧ R (Itr 0 j.toNat) H1
theorem pi_range1 {a : Expr} {ta : TA} {p pos : Pos} (hg : Gl X "range") (hm : X.mg "range" = none) (ha : PA X [a] ta) (hs : starEach [a] X.env = [(false, eval a X.env)] := by rfl) : PI X tg (.Call (.Name "range" p) [a] [] pos) (iRng1 ta) := by
 intro pins s σ H R I h
 refine Call_ (ld_blt I hg hm boot_range (PyProof.Rows.callWith_type1 (thn (ha pos pins s σ H _ I h) fun us s1 ⟨vs, H1, I1, r1, q1⟩ => ?_) hs rfl))
 obtain ⟨j, e, q1, q2, q⟩ := q1
 subst e
 cases r1 with
 | cons r rr =>
   cases rr
   obtain ⟨t, rfl⟩ := r
   exact call_range_1 (range_it I1 (by omega) (by omega) q1 q2 (by simpa using q))
noncomputable def tFor (wi : TI) (g : TG) (tb : TS) : TS := fun D σ H => wi σ H fun J H1 => ∃ W : Nat → Nat → St → Hp → Prop, (∃ m, W 0 m σ H1) ∧ ∀ i m σ H, W i m σ H →
 (J.stop i H ∧ D.nx σ H) ∨ (J.go i H ∧ ∃ N : St → Hp → Prop, (∀ σ' H', N σ' H' → ∃ m', m' < m ∧ W (i + 1) m' σ' H') ∧ ∀ x H', J.yld i H x H' → g x σ H' fun σ2 H2 => tb { D with nx := N, ct := N, bk := D.nx } σ2 H2)
noncomputable def pinsAt (fp : List Addr) (h : Heap) : List (Addr × Obj) := fp.filterMap fun b => (h.get? b).map fun o => (b, o)
theorem mem_pinsAt {fp : List Addr} {h : Heap} {b : Addr} {o : Obj} (hb : b ∈ fp) (e : h.get? b = some o) : (b, o) ∈ pinsAt fp h := List.mem_filterMap.mpr ⟨b, hb, by rw [e]; rfl⟩
theorem of_pinsAt {fp : List Addr} {h : Heap} {p : Addr × Obj} (hp : p ∈ pinsAt fp h) : p.1 ∈ fp ∧ h.get? p.1 = some p.2 := by
 obtain ⟨b, hb, e⟩ := List.mem_filterMap.mp hp
 cases q : h.get? b with
 | none => rw [q] at e; cases e
 | some o =>
   rw [q] at e
   have e' : (b, o) = p := Option.some.inj e
   subst e'
   exact ⟨hb, q⟩
theorem Inv.pinned {pins : List (Addr × Obj)} {σ : St} {H : Hp} {s : Shared} {fp : List Addr} (I : Inv X pins σ H s) (hf : ∀ b ∈ fp, FpOk X pins H b) (ho : ∀ b ∈ fp, ∃ o, s.heap.get? b = some o ∧ ∀ v, o.data ≠ .cell v) : Inv X (pins ++ pinsAt fp s.heap) σ H s :=
 I.pins_of fun p hp => (List.mem_append.mp hp).elim (fun z => I.pin p (List.mem_append_right _ z)) fun z => by
   obtain ⟨hb, e⟩ := of_pinsAt z
   obtain ⟨f0, f1, f2, _⟩ := hf p.1 hb
   obtain ⟨o, e', d⟩ := ho p.1 hb
   rw [e] at e'; cases e'
   exact ⟨e, f0, f1, f2, d⟩
theorem Inv.unpinned {pins pl : List (Addr × Obj)} {σ : St} {H : Hp} {s : Shared} (I : Inv X (pins ++ pl) σ H s) : Inv X pins σ H s := I.pins_of fun p hp => I.pin p (List.mem_append_right _ (List.mem_append_left _ hp))
theorem ps_for {iter : Expr} {body : List Stmt} {wi : TI} {g : TG} {tb : TS} {pos : Pos} (hp : PassesOwn (model X.prog X.w) X.A X.env X.xe) (hc : X.calm = true) (hi : PI X tg iter wi) (hg : PG X tg g) (hb : PSs X body tb)
   (hs : ∀ x, foldedSetIterable iter X.env x = pure x := by intro _; rfl) : PS X (.For tg iter body [] pos) (tFor wi g tb) := by
 intro pins s σ H D I h
 refine wpAny_For (thn (hi pins s σ H _ I h) fun v s1 h1 => thn h1 fun itv s2 h2 => ?_) hs
 obtain ⟨it, fp, tn, J, H2, e, I2, T, st2, f2, W, ⟨m0, w0⟩, turn⟩ := h2
 subst e
 have stat : ∀ {H' : Hp}, (∀ b ∈ fp, H' b = none) → ∀ b ∈ fp, FpOk X pins H' b := fun hn b hb => ⟨hn b hb, (f2 b hb).2⟩
 refine codeAny_forLoop_any (fun n s' => ∃ i σ' H', Inv X pins σ' H' s' ∧ tn i s'.heap ∧ (∀ b ∈ fp, H' b = none) ∧ W i n σ' H') ?_ m0 ⟨0, σ, H2, I2, st2, fun b hb => (f2 b hb).1, w0⟩
 rintro n s3 ⟨i, σ3, H3, I3, st3, fr3, w3⟩
 rcases turn i n σ3 H3 w3 with ⟨stop, qn⟩ | ⟨go, N, hN, step⟩
 · refine wpAny_passesOwn hp (thn (T.done X rfl rfl rfl hc i pins s3 σ3 H3 X.xe I3 (stat fr3) st3 stop) fun r s4 ⟨hr, I4⟩ => ?_)
   subst hr
   exact wpAny_execs_nil ⟨σ3, H3, I4, qn⟩
 · refine wpAny_passesOwn hp (thn (T.item X rfl rfl rfl hc i pins s3 σ3 H3 X.xe I3 (stat fr3) st3 go) fun r s4 ⟨u, hr, h4⟩ => ?_)
   subst hr
   refine wpAny_passesOwn hp (thn h4 fun _ s5 ⟨x, H5, I5, r5, y5, st5, fr5⟩ => ?_)
   have I5' := I5.pinned (stat fr5) (T.obj _ _ st5)
   refine wpAny_passesOwn hp (thn (hg _ s5 σ3 H5 x u _ I5' r5 (step x H5 y5)) fun _ s6 ⟨σ6, H6, I6, q6⟩ => ?_)
   refine wpAny_passesOwn hp (thn (hb _ s6 σ6 H6 _ I6 q6) fun f s7 q7 => ?_)
   have again : ∀ {σ7 : St} {H7 : Hp}, Inv X (pins ++ pinsAt fp s5.heap) σ7 H7 s7 → N σ7 H7 → ∃ m, m < n ∧ ∃ i σ' H', Inv X pins σ' H' s7 ∧ tn i s7.heap ∧ (∀ b ∈ fp, H' b = none) ∧ W i m σ' H' := fun {σ7 H7} I7 n7 => by
     obtain ⟨m', hm, w7⟩ := hN σ7 H7 n7
     refine ⟨m', hm, i + 1, σ7, H7, I7.unpinned, T.keep _ _ _ st5 fun b hb o e => (I7.pin (b, o) (List.mem_append_right _ (List.mem_append_right _ (mem_pinsAt hb e)))).1, fun b hb => ?_, w7⟩
     obtain ⟨o, e, d⟩ := T.obj _ _ st5 b hb
     exact (I7.pin (b, o) (List.mem_append_right _ (List.mem_append_right _ (mem_pinsAt hb e)))).2.1
   cases f with
   | next => obtain ⟨σ7, H7, I7, n7⟩ := q7; exact again I7 n7
   | cont => obtain ⟨σ7, H7, I7, n7⟩ := q7; exact again I7 n7
   | brk => obtain ⟨σ7, H7, I7, q7⟩ := q7; exact ⟨σ7, H7, I7.unpinned, q7⟩
   | ret v => obtain ⟨x7, σ7, H7, I7, r7, q7⟩ := q7; exact ⟨x7, σ7, H7, I7.unpinned, r7, q7⟩
end
theorem for_list {K : PySem.W.Frag} {a : Addr} {xs : List V} {g : TG} {tb : TS} {D : Ends} {σ : St} {H : Hp} (Pv : Nat → St → Hp → Prop) (h0 : Pv 0 σ H) (hl : ∀ i σ H, i ≤ xs.length → Pv i σ H → SqL K H a xs)
   (hs : ∀ i x σ H, xs[i]? = some x → Pv i σ H → g x σ H fun σ2 H2 => tb { D with nx := Pv (i + 1), ct := Pv (i + 1), bk := D.nx } σ2 H2) (hd : ∀ σ H, Pv xs.length σ H → D.nx σ H) :
   ∃ W : Nat → Nat → St → Hp → Prop, (∃ m, W 0 m σ H) ∧ ∀ i m σ H, W i m σ H →
     ((Itl K a).stop i H ∧ D.nx σ H) ∨ ((Itl K a).go i H ∧ ∃ N : St → Hp → Prop, (∀ σ' H', N σ' H' → ∃ m', m' < m ∧ W (i + 1) m' σ' H') ∧ ∀ x H', (Itl K a).yld i H x H' → g x σ H' fun σ2 H2 => tb { D with nx := N, ct := N, bk := D.nx } σ2 H2) := by
 refine ⟨fun i m σ H => m = xs.length - i ∧ i ≤ xs.length ∧ Pv i σ H, ⟨xs.length, by simp, Nat.zero_le _, h0⟩, ?_⟩
 rintro i m σ H ⟨rfl, hi, p⟩
 have q := hl i σ H hi p
 by_cases hlt : i < xs.length
 · refine .inr ⟨⟨xs, xs[i], q, by simp [hlt]⟩, Pv (i + 1), fun σ' H' p' => ⟨xs.length - (i + 1), by omega, rfl, hlt, p'⟩, fun x H' y => ?_⟩
   obtain ⟨e, y⟩ := y
   subst e
   exact hs i x σ _ (y xs q) p
 · have e : i = xs.length := by omega
   subst e
   exact .inl ⟨⟨xs, q, Nat.le_refl _⟩, hd σ H p⟩
theorem for_tup {K : PySem.W.Frag} {a : Addr} {xs : List V} {g : TG} {tb : TS} {D : Ends} {σ : St} {H : Hp} (Pv : Nat → St → Hp → Prop) (h0 : Pv 0 σ H) (hl : ∀ i σ H, i ≤ xs.length → Pv i σ H → SqT K H a xs)
   (hs : ∀ i x σ H, xs[i]? = some x → Pv i σ H → g x σ H fun σ2 H2 => tb { D with nx := Pv (i + 1), ct := Pv (i + 1), bk := D.nx } σ2 H2) (hd : ∀ σ H, Pv xs.length σ H → D.nx σ H) :
   ∃ W : Nat → Nat → St → Hp → Prop, (∃ m, W 0 m σ H) ∧ ∀ i m σ H, W i m σ H →
     ((Itt K a).stop i H ∧ D.nx σ H) ∨ ((Itt K a).go i H ∧ ∃ N : St → Hp → Prop, (∀ σ' H', N σ' H' → ∃ m', m' < m ∧ W (i + 1) m' σ' H') ∧ ∀ x H', (Itt K a).yld i H x H' → g x σ H' fun σ2 H2 => tb { D with nx := N, ct := N, bk := D.nx } σ2 H2) := by
 refine ⟨fun i m σ H => m = xs.length - i ∧ i ≤ xs.length ∧ Pv i σ H, ⟨xs.length, by simp, Nat.zero_le _, h0⟩, ?_⟩
 rintro i m σ H ⟨rfl, hi, p⟩
 have q := hl i σ H hi p
 by_cases hlt : i < xs.length
 · refine .inr ⟨⟨xs, xs[i], q, by simp [hlt]⟩, Pv (i + 1), fun σ' H' p' => ⟨xs.length - (i + 1), by omega, rfl, hlt, p'⟩, fun x H' y => ?_⟩
   obtain ⟨e, y⟩ := y
   subst e
   exact hs i x σ _ (y xs q) p
 · have e : i = xs.length := by omega
   subst e
   exact .inl ⟨⟨xs, q, Nat.le_refl _⟩, hd σ H p⟩
theorem for_range {lo : Int} {n : Nat} {g : TG} {tb : TS} {D : Ends} {σ : St} {H : Hp} (Pv : Nat → St → Hp → Prop) (h0 : Pv 0 σ H)
   (hs : ∀ i σ H, i < n → Pv i σ H → g (.int (lo + i)) σ H fun σ2 H2 => tb { D with nx := Pv (i + 1), ct := Pv (i + 1), bk := D.nx } σ2 H2) (hd : ∀ σ H, Pv n σ H → D.nx σ H) :
   ∃ W : Nat → Nat → St → Hp → Prop, (∃ m, W 0 m σ H) ∧ ∀ i m σ H, W i m σ H →
     ((Itr lo n).stop i H ∧ D.nx σ H) ∨ ((Itr lo n).go i H ∧ ∃ N : St → Hp → Prop, (∀ σ' H', N σ' H' → ∃ m', m' < m ∧ W (i + 1) m' σ' H') ∧ ∀ x H', (Itr lo n).yld i H x H' → g x σ H' fun σ2 H2 => tb { D with nx := N, ct := N, bk := D.nx } σ2 H2) := by
 refine ⟨fun i m σ H => m = n - i ∧ i ≤ n ∧ Pv i σ H, ⟨n, by simp, Nat.zero_le _, h0⟩, ?_⟩
 rintro i m σ H ⟨rfl, hi, p⟩
 by_cases hlt : i < n
 · refine .inr ⟨hlt, Pv (i + 1), fun σ' H' p' => ⟨n - (i + 1), by omega, rfl, hlt, p'⟩, fun x H' y => ?_⟩
   obtain ⟨e, y⟩ := y
   subst e y
   exact hs i σ _ hlt p
 · have e : i = n := by omega
   subst e
   exact .inl ⟨Nat.le_refl _, hd σ H p⟩
end L2
namespace L2
open PySem PySem.Spec PyProof.Rows
noncomputable abbrev R2 := V → V → Hp → VK → Prop
noncomputable def OpR (X : Cx) (f : Value → Value → Sem Value) (r : R2) : Prop :=
 ∀ (pins : List (Addr × Obj)) (s : Shared) (σ : St) (H : Hp) (x y : V) (v u : Value) (Q : VK), Inv X pins σ H s → RelV x v → RelV y u → r x y H Q →
   wpAny (model X.prog X.w) X.A (f v u) (EP X pins σ Q) X.xe s
noncomputable def UnR (X : Cx) (f : Value → Sem Value) (r : V → Hp → VK → Prop) : Prop :=
 ∀ (pins : List (Addr × Obj)) (s : Shared) (σ : St) (H : Hp) (x : V) (v : Value) (Q : VK), Inv X pins σ H s → RelV x v → r x H Q →
   wpAny (model X.prog X.w) X.A (f v) (EP X pins σ Q) X.xe s
noncomputable def CallR (X : Cx) (f : Value) (r : List V → Hp → VK → Prop) : Prop :=
 ∀ (pins : List (Addr × Obj)) (s : Shared) (σ : St) (H : Hp) (xs : List V) (us : List Value) (Q : VK), Inv X pins σ H s → Vals xs us → r xs H Q →
   wpAny (model X.prog X.w) X.A (call f us) (EP X pins σ Q) X.xe s
noncomputable def tOp (r : R2) (ta tb : TE) : TE := fun σ H Q => ta σ H fun x H1 => tb σ H1 fun y H2 => r x y H2 Q
noncomputable def tUn (r : V → Hp → VK → Prop) (ta : TE) : TE := fun σ H Q => ta σ H fun x H1 => r x H1 Q
noncomputable def rI (C : Int → Int → Prop) (g : Int → Int → V) : R2 := fun x y H Q => ∃ i j, x = .int i ∧ y = .int j ∧ C i j ∧ Q (g i j) H
noncomputable def rI0 (g : Int → Int → V) : R2 := fun x y H Q => ∃ i j, x = .int i ∧ y = .int j ∧ Q (g i j) H
noncomputable def rU (g : Int → V) : V → Hp → VK → Prop := fun x H Q => ∃ i, x = .int i ∧ Q (g i) H
section
variable {X : Cx} {a b c : Expr} {ta tb tc : TE} {pos : Pos}
theorem binT (ha : PE X a ta) (hb : PE X b tb) {pins : List (Addr × Obj)} {s : Shared} {σ : St} {H : Hp} {R : V → V → Hp → Prop} (I : Inv X pins σ H s)
   (h : ta σ H fun x H1 => tb σ H1 fun y H2 => R x y H2) {Q : Value → Shared → Prop} {f : Value → Value → Sem Value}
   (hf : ∀ v u s2 x y H2, Inv X pins σ H2 s2 → RelV x v → RelV y u → R x y H2 → wpAny (model X.prog X.w) X.A (f v u) Q X.xe s2) :
   wpAny (model X.prog X.w) X.A (eval a X.env) (fun v s₁ => wpAny (model X.prog X.w) X.A (eval b X.env) (fun u s₂ => wpAny (model X.prog X.w) X.A (f v u) Q X.xe s₂) X.xe s₁) X.xe s := by
 refine thn (ha pins s σ H _ I h) fun v s1 ⟨x, H1, I1, r1, q1⟩ => ?_
 refine thn (hb pins s1 σ H1 _ I1 q1) fun u s2 ⟨y, H2, I2, r2, q2⟩ => ?_
 exact hf v u s2 x y H2 I2 r1 r2 q2
theorem pe_op {op : Operator} {r : R2} (ho : OpR X (binaryOp op) r) (ha : PE X a ta) (hb : PE X b tb) : PE X (.BinOp a op b pos) (tOp r ta tb) := by
 intro pins s σ H Q I h
 exact wpAny_BinOp (binT ha hb I h fun v u s2 x y H2 I2 rx ry q => ho pins s2 σ H2 x y v u Q I2 rx ry q)
theorem pe_un {op : UnaryOp} {r : V → Hp → VK → Prop} (ho : UnR X (unaryOp op) r) (ha : PE X a ta) : PE X (.UnaryOp op a pos) (tUn r ta) := by
 intro pins s σ H Q I h
 exact UnaryOp_ (thn (ha pins s σ H _ I h) fun v s1 ⟨x, H1, I1, r1, q1⟩ => ho pins s1 σ H1 x v Q I1 r1 q1)
theorem opI {f : Value → Value → Sem Value} {C : Int → Int → Prop} {g : Int → Int → Int}
   (rule : ∀ (i j : Int) (t u : Tok) (s : Shared) (Q : Value → Shared → Prop) (E : Value → Shared → Prop), C i j → Q (.int (g i j) s.toks) { s with toks := s.toks + 1 } → wpAny (model X.prog X.w) X.A (f (.int i t) (.int j u)) Q E s) :
   OpR X f (rI C fun i j => .int (g i j)) := by
 intro pins s σ H x y v u Q I rx ry h
 obtain ⟨i, j, rfl, rfl, hc, q⟩ := h
 obtain ⟨t, rfl⟩ := rx
 obtain ⟨t', rfl⟩ := ry
 exact rule i j t t' s _ _ hc ⟨.int (g i j), H, I.tok _, ⟨_, rfl⟩, q⟩
theorem opI0 {f : Value → Value → Sem Value} {g : Int → Int → Int}
   (rule : ∀ (i j : Int) (t u : Tok) (s : Shared) (Q : Value → Shared → Prop) (E : Value → Shared → Prop), Q (.int (g i j) s.toks) { s with toks := s.toks + 1 } → wpAny (model X.prog X.w) X.A (f (.int i t) (.int j u)) Q E s) :
   OpR X f (rI0 fun i j => .int (g i j)) := by
 intro pins s σ H x y v u Q I rx ry h
 obtain ⟨i, j, rfl, rfl, q⟩ := h
 obtain ⟨t, rfl⟩ := rx
 obtain ⟨t', rfl⟩ := ry
 exact rule i j t t' s _ _ ⟨.int (g i j), H, I.tok _, ⟨_, rfl⟩, q⟩
theorem opB0 {f : Value → Value → Sem Value} {g : Int → Int → Bool}
   (rule : ∀ (i j : Int) (t u : Tok) (s : Shared) (Q : Value → Shared → Prop) (E : Value → Shared → Prop), Q (.bool (g i j)) s → wpAny (model X.prog X.w) X.A (f (.int i t) (.int j u)) Q E s) :
   OpR X f (rI0 fun i j => .bl (g i j)) := by
 intro pins s σ H x y v u Q I rx ry h
 obtain ⟨i, j, rfl, rfl, q⟩ := h
 obtain ⟨t, rfl⟩ := rx
 obtain ⟨t', rfl⟩ := ry
 exact rule i j t t' s _ _ ⟨.bl (g i j), H, I, rfl, q⟩
noncomputable def CDiv (i j : Int) : Prop := 0 < j ∧ j < 1073741824
noncomputable def CPow (i j : Int) : Prop := 0 ≤ j ∧ j ≤ 1000000 ∧ i.natAbs < 2 ^ 64
noncomputable def CMul (i j : Int) : Prop := (-(2 ^ 64) < i ∧ i < 2 ^ 64) ∨ (-(2 ^ 64) < j ∧ j < 2 ^ 64)
theorem CMul.ok {i j : Int} (h : CMul i j) : IntMulOk i j := by
 rcases h with ⟨h1, h2⟩ | ⟨h1, h2⟩
 · exact .of_left (intBits_le_64 h1 h2)
 · exact .of_right (intBits_le_64 h1 h2)
theorem op_add : OpR X (binaryOp .Add) (rI0 fun i j => .int (i + j)) := opI0 fun _ _ _ _ _ _ _ q => add_int q
theorem op_sub : OpR X (binaryOp .Sub) (rI0 fun i j => .int (i - j)) := opI0 fun _ _ _ _ _ _ _ q => sub_int q
theorem op_fdiv : OpR X (binaryOp .FloorDiv) (rI CDiv fun i j => .int (i / j)) := opI fun i j _ _ _ _ _ hc q => by
 have h1 : (0 : Int) < j := hc.1
 have h2 : j < 1073741824 := hc.2
 exact floordiv_int (by omega) (by rw [Int.fdiv_eq_ediv_of_nonneg i (by omega)]; exact q) (.inl (PyProof.noPylong_small (by omega)))
theorem op_mod : OpR X (binaryOp .Mod) (rI (fun _ j => 0 < j) fun i j => .int (i % j)) := opI fun i j _ _ _ _ _ hc q => by
 have h1 : (0 : Int) < j := hc
 exact mod_int' (by omega) (by rw [Int.fmod_eq_emod_of_nonneg i (by omega)]; exact q)
theorem op_pow : OpR X (binaryOp .Pow) (rI CPow fun i j => .int (i ^ j.toNat)) := opI fun _ _ _ _ _ _ _ hc q => pow_int_small hc.1 hc.2.1 hc.2.2 q
theorem unI {f : Value → Sem Value} {g : Int → Int}
   (rule : ∀ (i : Int) (t : Tok) (s : Shared) (Q : Value → Shared → Prop) (E : Value → Shared → Prop), Q (.int (g i) s.toks) { s with toks := s.toks + 1 } → wpAny (model X.prog X.w) X.A (f (.int i t)) Q E s) :
   UnR X f (rU fun i => .int (g i)) := by
 intro pins s σ H x v Q I rx h
 obtain ⟨i, rfl, q⟩ := h
 obtain ⟨t, rfl⟩ := rx
 exact rule i t s _ _ ⟨.int (g i), H, I.tok _, ⟨_, rfl⟩, q⟩
theorem un_neg : UnR X (unaryOp .USub) (rU fun i => .int (-i)) := unI fun _ _ _ _ _ q => neg_int q
end
noncomputable def scal : V → V → Bool
 | .non, .non => true | .non, .int _ => true | .int _, .non => true | .non, .bl _ => true | .bl _, .non => true | .non, .str _ => true | .str _, .non => true
 | .int _, .int _ => true | .bl _, .bl _ => true | .str _, .str _ => true | .byt _, .byt _ => true
 | .int _, .str _ => true | .str _, .int _ => true | .bl _, .str _ => true | .str _, .bl _ => true
 | _, _ => false
noncomputable def rEq : R2 := fun x y H Q => scal x y = true ∧ Q (.bl (decide (x = y))) H
noncomputable def rNe : R2 := fun x y H Q => scal x y = true ∧ Q (.bl (!decide (x = y))) H
theorem dec_int {i j : Int} : decide (V.int i = V.int j) = (i == j) := by
 rw [Bool.eq_iff_iff]
 simp
theorem dec_bl {i j : Bool} : decide (V.bl i = V.bl j) = (i == j) := by
 rw [Bool.eq_iff_iff]
 simp
theorem dec_str {i j : Str} : decide (V.str i = V.str j) = (i == j) := by
 rw [Bool.eq_iff_iff]
 simp
theorem dec_byt {i j : Array UInt8} : decide (V.byt i = V.byt j) = (i.toList == j.toList) := by
 rw [Bool.eq_iff_iff]
 cases i
 cases j
 simp
section
variable {X : Cx} {a b c : Expr} {ta tb tc : TE} {pos : Pos}
theorem fin_bl {pins : List (Addr × Obj)} {σ : St} {H : Hp} {s : Shared} {Q : VK} {k k' : Bool} (I : Inv X pins σ H s) (q : Q (.bl k) H) (e : k = k') : EP X pins σ Q (.bool k') s := by
 subst e
 exact ⟨.bl k, H, I, rfl, q⟩
theorem op_eq : OpR X (compareOp .Eq) rEq := by
 intro pins s σ H x y v u Q I rx ry h
 obtain ⟨hs, q⟩ := h
 cases x with
 | non =>
   cases rx
   cases y with
   | non => cases ry; exact PySem.EqNone.eq_none_none (fin_bl I q (by simp))
   | bl j => cases ry; exact PySem.EqNone.eq_none_bool (fin_bl I q (by simp))
   | int j => obtain ⟨t', rfl⟩ := ry; exact PySem.EqNone.eq_none_int (fin_bl I q (by simp))
   | str j => obtain ⟨t', rfl⟩ := ry; exact PySem.EqNone.eq_none_str (fin_bl I q (by simp))
   | _ => exact absurd (show false = true from hs) Bool.false_ne_true
 | bl i =>
   cases rx
   cases y with
   | non => cases ry; exact PySem.EqNone.eq_bool_none (fin_bl I q (by simp))
   | bl j => cases ry; exact eq_bool (fin_bl I q dec_bl)
   | str j => obtain ⟨t', rfl⟩ := ry; exact PySem.EqMixed.eq_bool_str (fin_bl I q (by simp))
   | _ => exact absurd (show false = true from hs) Bool.false_ne_true
 | int i =>
   obtain ⟨t, rfl⟩ := rx
   cases y with
   | non => cases ry; exact PySem.EqNone.eq_int_none (fin_bl I q (by simp))
   | int j => obtain ⟨t', rfl⟩ := ry; exact eq_int (fin_bl I q dec_int)
   | str j => obtain ⟨t', rfl⟩ := ry; exact PySem.EqMixed.eq_int_str (fin_bl I q (by simp))
   | _ => exact absurd (show false = true from hs) Bool.false_ne_true
 | str i =>
   obtain ⟨t, rfl⟩ := rx
   cases y with
   | non => cases ry; exact PySem.EqNone.eq_str_none (fin_bl I q (by simp))
   | bl j => cases ry; exact PySem.EqMixed.eq_str_bool (fin_bl I q (by simp))
   | int j => obtain ⟨t', rfl⟩ := ry; exact PySem.EqMixed.eq_str_int (fin_bl I q (by simp))
   | str j => obtain ⟨t', rfl⟩ := ry; exact eq_str (fin_bl I q dec_str)
   | _ => exact absurd (show false = true from hs) Bool.false_ne_true
 | byt i =>
   obtain ⟨t, rfl⟩ := rx
   cases y with
   | byt j => obtain ⟨t', rfl⟩ := ry; exact PySem.W.eq_bytes (fin_bl I q dec_byt)
   | _ => exact absurd (show false = true from hs) Bool.false_ne_true
 | _ => cases y <;> exact absurd (show false = true from hs) Bool.false_ne_true
theorem op_ne : OpR X (compareOp .NotEq) rNe := by
 intro pins s σ H x y v u Q I rx ry h
 obtain ⟨hs, q⟩ := h
 cases x with
 | non =>
   cases rx
   cases y with
   | non => cases ry; exact PySem.EqNone.ne_none_none (fin_bl I q (by simp))
   | bl j => cases ry; exact PySem.EqNone.ne_none_bool (fin_bl I q (by simp))
   | int j => obtain ⟨t', rfl⟩ := ry; exact PySem.EqNone.ne_none_int (fin_bl I q (by simp))
   | str j => obtain ⟨t', rfl⟩ := ry; exact PySem.EqNone.ne_none_str (fin_bl I q (by simp))
   | _ => exact absurd (show false = true from hs) Bool.false_ne_true
 | bl i =>
   cases rx
   cases y with
   | non => cases ry; exact PySem.EqNone.ne_bool_none (fin_bl I q (by simp))
   | bl j => cases ry; exact ne_bool (fin_bl I q (congrArg not dec_bl))
   | str j => obtain ⟨t', rfl⟩ := ry; exact PySem.EqMixed.ne_bool_str (fin_bl I q (by simp))
   | _ => exact absurd (show false = true from hs) Bool.false_ne_true
 | int i =>
   obtain ⟨t, rfl⟩ := rx
   cases y with
   | non => cases ry; exact PySem.EqNone.ne_int_none (fin_bl I q (by simp))
   | int j => obtain ⟨t', rfl⟩ := ry; exact ne_int (fin_bl I q (congrArg not dec_int))
   | str j => obtain ⟨t', rfl⟩ := ry; exact PySem.EqMixed.ne_int_str (fin_bl I q (by simp))
   | _ => exact absurd (show false = true from hs) Bool.false_ne_true
 | str i =>
   obtain ⟨t, rfl⟩ := rx
   cases y with
   | non => cases ry; exact PySem.EqNone.ne_str_none (fin_bl I q (by simp))
   | bl j => cases ry; exact PySem.EqMixed.ne_str_bool (fin_bl I q (by simp))
   | int j => obtain ⟨t', rfl⟩ := ry; exact PySem.EqMixed.ne_str_int (fin_bl I q (by simp))
   | str j => obtain ⟨t', rfl⟩ := ry; exact ne_str (fin_bl I q (congrArg not dec_str))
   | _ => exact absurd (show false = true from hs) Bool.false_ne_true
 | byt i =>
   obtain ⟨t, rfl⟩ := rx
   cases y with
   | byt j => obtain ⟨t', rfl⟩ := ry; exact PySem.W.ne_bytes (fin_bl I q (congrArg not dec_byt))
   | _ => exact absurd (show false = true from hs) Bool.false_ne_true
 | _ => cases y <;> exact absurd (show false = true from hs) Bool.false_ne_true
theorem op_lt : OpR X (compareOp .Lt) (rI0 fun i j => .bl (decide (i < j))) := opB0 fun _ _ _ _ _ _ _ q => lt_int q
theorem op_le : OpR X (compareOp .LtE) (rI0 fun i j => .bl (decide (i ≤ j))) := opB0 fun _ _ _ _ _ _ _ q => le_int q
theorem op_gt : OpR X (compareOp .Gt) (rI0 fun i j => .bl (decide (j < i))) := opB0 fun _ _ _ _ _ _ _ q => gt_int q
theorem nomark (b : Expr) {op : CmpOp} (h : op ≠ .In := by decide) (h2 : op ≠ .NotIn := by decide) : behindInMarks op b = false := by
 have e1 : (op == CmpOp.In) = false := by cases op <;> first | rfl | exact absurd rfl h
 have e2 : (op == CmpOp.NotIn) = false := by cases op <;> first | rfl | exact absurd rfl h2
 cases b <;> simp [behindInMarks, e1, e2]
theorem pe_cmpR {op : CmpOp} {r : R2} (ho : OpR X (compareOp op) r) (ha : PE X a ta) (hb : PE X b tb) (hm : behindInMarks op b = false) : PE X (.Compare a [op] [b] pos) (tOp r ta tb) := by
 intro pins s σ H Q I h
 exact wpAny_Compare1 (binT ha hb I h fun v u s2 x y H2 I2 rx ry q => ho pins s2 σ H2 x y v u Q I2 rx ry q) hm
noncomputable def tTest (t : TE) : TT := fun σ H Q => t σ H fun x H' => ∃ k, x = .bl k ∧ Q k H'
theorem pt_cmpR {op : CmpOp} {r : R2} (ho : OpR X (compareOp op) r) (ha : PE X a ta) (hb : PE X b tb) (hm : behindInMarks op b = false) : PT X (.Compare a [op] [b] pos) (tTest (tOp r ta tb)) := by
 intro pins s σ H Q I h
 refine wpAny_isTrue_Compare1 (thn (ha pins s σ H _ I h) fun v s1 ⟨x, H1, I1, r1, q1⟩ => thn (hb pins s1 σ H1 _ I1 q1) fun u s2 ⟨y, H2, I2, r2, q2⟩ =>
   thn (ho pins s2 σ H2 x y v u _ I2 r1 r2 q2) fun c s3 ⟨z, H3, I3, r3, k, e, q3⟩ => ?_) hm
 subst e
 cases r3
 exact wpAny_truthy_bool ⟨H3, I3, q3⟩
noncomputable def tChain (r r' : R2) (ta tb tc : TE) : TE := fun σ H Q => ta σ H fun x H1 => tb σ H1 fun y H2 => r x y H2 fun z H3 => ∃ k, z = .bl k ∧
 (if k = true then tc σ H3 fun w' H4 => r' y w' H4 Q else Q (.bl false) H3)
theorem pe_chain {op op' : CmpOp} {r r' : R2} (ho : OpR X (compareOp op) r) (ho' : OpR X (compareOp op') r') (ha : PE X a ta) (hb : PE X b tb) (hc : PE X c tc)
   (hm : lastMarks [op, op'] [b, c] = false := by with_unfolding_all rfl) : PE X (.Compare a [op, op'] [b, c] pos) (tChain r r' ta tb tc) := by
 intro pins s σ H Q I h
 refine Compare_chain (thn (ha pins s σ H _ I h) fun v s1 ⟨x, H1, I1, r1, q1⟩ => chain_link (thn (hb pins s1 σ H1 _ I1 q1) fun u s2 ⟨y, H2, I2, r2, q2⟩ =>
   thn (ho pins s2 σ H2 x y v u _ I2 r1 r2 q2) fun d s3 ⟨z, H3, I3, r3, k, e, q3⟩ => ?_)) hm
 subst e
 cases r3
 refine wpAny_truthy_bool ?_
 cases k with
 | false => exact ite_ff ⟨.bl false, H3, I3, rfl, q3⟩
 | true => exact ite_tt (chain_last (thn (hc pins s3 σ H3 _ I3 q3) fun w' s4 ⟨z', H4, I4, r4, q4⟩ => ho' pins s4 σ H4 y z' u w' Q I4 r2 r4 q4))
theorem line63 : (sizeLine : Nat) < 2 ^ 63 := by rw [sizeLine_eq]; decide
theorem vals1 {x : V} {us : List Value} (r : Vals [x] us) : ∃ u, us = [u] ∧ RelV x u := by
 cases r with
 | cons r1 r2 => cases r2; exact ⟨_, rfl, r1⟩
theorem vals2 {x y : V} {us : List Value} (r : Vals [x, y] us) : ∃ u w', us = [u, w'] ∧ RelV x u ∧ RelV y w' := by
 cases r with
 | cons r1 r2 =>
   cases r2 with
   | cons r3 r4 => cases r4; exact ⟨_, _, rfl, r1, r3⟩
theorem call_max2 (hc : X.calm = true) : CallR X (.builtin "max") (fun xs H Q => ∃ i j, xs = [.int i, .int j] ∧ Q (.int (if j > i then j else i)) H) := by
 intro pins s σ H xs us Q I r h
 obtain ⟨i, j, rfl, q⟩ := h
 obtain ⟨u, w', rfl, ⟨t, rfl⟩, ⟨t', rfl⟩⟩ := vals2 r
 refine max_two_ints (I.ok.hd hc) fun h' tk k => ⟨_, H, I.kept k, ?_, q⟩
 by_cases hj : j > i
 · rw [if_pos hj, if_pos hj]; exact ⟨_, rfl⟩
 · rw [if_neg hj, if_neg hj]; exact ⟨_, rfl⟩
end
end L2
namespace L2
open PySem PySem.Spec PyProof.Rows
section
variable {prog : Program} {w : World} {A : Around} {E : Value → Shared → Prop} {s : Shared} {K : PySem.W.Frag} {x dx C f : Addr} {mA : Str → Option Value} {name : Str} {v : Value}
end
theorem RelO.some_of {v : V} {o : Option Value} (r : RelO (some v) o) : ∃ u, o = some u ∧ RelV v u := by
 cases o with
 | none => exact (show False from r).elim
 | some u => exact ⟨u, rfl, r⟩
section
variable {P : Program} {w : World} {H H' : Hp} {h h' : Heap} {a C dx : Addr} {fs fs' : List (Str × V)}
end
section
variable {X : Cx} {pins : List (Addr × Obj)} {σ : St} {H : Hp} {s : Shared} {a C dx : Addr} {fs : List (Str × V)} {f : Str} {v : V} {A : Around} {E : Value → Shared → Prop}
end
section
variable {X : Cx} {o e value : Expr} {f : Str} {pos pos' tpos : Pos} {ta tv : TE}
end
section
variable {X : Cx} {pins : List (Addr × Obj)} {σ : St} {H : Hp} {s : Shared} {A : Around} {E : Value → Shared → Prop} {Q : Value → Shared → Prop} {c : Value} {b : Bool}
end
end L2
namespace L2
open PySem PySem.Spec PyProof.Rows
structure Room (k : Nat) (A : Around) : Prop where
 hd : A.handled = none
 dp : A.depth + 3 * k + 5 < recursionLimit
 un : A.units + 16 * k + 200 < cLine
 gd : A.guards = some []
theorem Room.mono {j k : Nat} {A : Around} (r : Room k A) (h : j ≤ k) : Room j A := ⟨r.hd, by have := r.dp; omega, by have := r.un; omega, r.gd⟩
theorem Room.deeper {k : Nat} {A : Around} (r : Room (k + 1) A) (env : Env) : Room k (A.deeper env) :=
 ⟨r.hd, by have := r.dp; show A.depth + 1 + 3 * k + 5 < _; omega, by have := r.un; show A.units + 3 + 16 * k + 200 < _; omega, r.gd⟩
theorem Room.depth {k : Nat} {A : Around} (r : Room k A) : A.depth < recursionLimit := by have := r.dp; omega
theorem Room.units {k : Nat} {A : Around} (r : Room k A) : A.units + 64 < cLine := by have := r.un; omega
noncomputable def tNil : TA := fun _ H Q => Q [] H
noncomputable def tCons (ta : TE) (tr : TA) : TA := fun σ H Q => ta σ H fun x H1 => tr σ H1 fun xs H2 => Q (x :: xs) H2
section
variable {X : Cx} {e : Expr} {es : List Expr} {te : TE} {t : TA} {pos : Pos}
theorem pa_nil : PA X [] tNil := fun _ _ _ _ H Q I h => Calls.spliced_nil ⟨[], H, I, .nil, h⟩
theorem pa_cons (ha : PE X e te) (hr : PA X es t) (hs : starEach (e :: es) X.env = (false, eval e X.env) :: starEach es X.env := by rfl) : PA X (e :: es) (tCons te t) := by
 intro pos pins s σ H Q I h
 rw [hs]
 show wpAny _ _ (spliced ((false, eval e X.env) :: backTo pos (starEach es X.env))) _ _ s
 refine Calls.spliced_cons (thn (ha pins s σ H _ I h) fun u s1 ⟨x, H1, I1, r1, q1⟩ => ?_)
 exact thn (hr pos pins s1 σ H1 _ I1 q1) fun us s2 ⟨xs, H2, I2, r2, q2⟩ => ⟨x :: xs, H2, I2, .cons r1 r2, q2⟩
noncomputable def tTup (t : TA) : TE := fun σ H Q => t σ H fun xs H1 => xs.length ≤ sizeLine ∧ ∀ p, H1 p = none → Q (.ref p) (upd H1 p (.tup xs))
noncomputable def tLst (t : TA) : TE := fun σ H Q => t σ H fun xs H1 => xs.length ≤ sizeLine ∧ ∀ p, H1 p = none → Q (.ref p) (upd H1 p (.lst xs))
theorem pe_tup {x1} (h : PA X es t) : PE X (.Tuple es x1 pos) (tTup t) := by
 intro pins s σ H Q I hq
 refine wpAny_Tuple_spliced (thn (h pos pins s σ H _ I hq) fun us s1 ⟨xs, H1, I1, r, z, q⟩ => ⟨by rw [← r.length]; exact z, ?_⟩)
 have hf : H1 s1.heap.objs.size = none := I1.hok.fresh (Nat.le_refl _)
 refine ⟨.ref s1.heap.objs.size, upd H1 s1.heap.objs.size (.tup xs), I1.laid (t' := s1.toks) (fun b u e => Heap.get?_push_of_some _ e) (Nat.le_refl _) ?_, rfl, q _ hf⟩
 exact ⟨z, us, r, ⟨_, Heap.get?_push_size _ rfl, rfl, rfl, _, rfl⟩⟩
theorem pe_lst (h : PA X es t) : PE X (.List es pos) (tLst t) := by
 intro pins s σ H Q I hq
 refine wpAny_List_spliced (thn (h pos pins s σ H _ I hq) fun us s1 ⟨xs, H1, I1, r, z, q⟩ => ⟨by rw [← r.length]; exact z, ?_⟩)
 have hf : H1 s1.heap.objs.size = none := I1.hok.fresh (Nat.le_refl _)
 refine ⟨.ref s1.heap.objs.size, upd H1 s1.heap.objs.size (.lst xs), I1.laid (t' := s1.toks) (fun b u e => Heap.get?_push_of_some _ e) (Nat.le_refl _) ?_, rfl, q _ hf⟩
 exact ⟨z, us, 0, r, Heap.get?_push_size _ rfl⟩
end
noncomputable abbrev Sp := List V → Hp → VK → XK → Prop
noncomputable abbrev CXT := List Env → Hp → Shared → XK → Value → Shared → Prop
structure Env0 (P : Program) (w : World) (K : PySem.W.Frag) (mg : Str → Option Value) (base : Heap) (A : Around) (outer : List Env) (s : Shared) (H : Hp) : Prop where
 frames : A.frames = some outer
 mod : Mod K mg base
 bs : ∀ b o, base.get? b = some o → s.heap.get? b = some o ∧ H b = none
 bsz : base.objs.size ≤ s.heap.objs.size
 funs : s.heap.FunFrames base outer
 frf : ∀ b ∈ frs outer, H b = none
 hok : HOk P w H s.heap
 bare : AllBare s.gens
noncomputable def CE (outer : List Env) (P : Program) (w : World) (H : Hp) (s : Shared) (Q : VK) (u : Value) (s' : Shared) : Prop :=
 ∃ v H', s'.os = s.os ∧ AllBare s'.gens ∧ Un (frs outer) [] H H' s.heap s'.heap ∧ HOk P w H' s'.heap ∧ RelV v u ∧ Q v H'
noncomputable def CR (CX : CXT) (outer : List Env) (P : Program) (w : World) (H : Hp) (s : Shared) (Q : VK) (E : XK) (r : Result) (s' : Shared) : Prop :=
 match r with
 | .ok (.ret u) => CE outer P w H s Q u s'
 | .ok _ => False
 | .error e => CX outer H s E e s'
structure FnOk (P : Program) (w : World) (K : PySem.W.Frag) (mg : Str → Option Value) (base : Heap) (CX : CXT) (k : Nat) (f : Addr) (fd : FuncData) (ps : List Str) (sp : Sp) : Prop where
 len : ∀ vs H Q E, sp vs H Q E → vs.length = ps.length
 run : ∀ (A : Around) (outer : List Env) (s : Shared) (H : Hp) (args : Args) (us : List Value) (vs : List V) (Q : VK) (E : XK), Room k A → Env0 P w K mg base A outer s H → BindsTo s fd args (ps.zip us) → Vals vs us → sp vs H Q E →
   codeAny (model P w) A (.call (.ref f) args) (CR CX outer P w H s Q E) s
section
variable {X : Cx} {pins : List (Addr × Obj)} {σ : St} {H : Hp} {s s' : Shared}
theorem Inv.env0 (I : Inv X pins σ H s) : Env0 X.prog X.w X.K X.mg X.base X.A X.stack s H :=
 ⟨I.ok.frames, I.ok.mod, I.bs, Nat.le_trans I.ok.bsz I.sz, I.stack, I.stkFree, I.hok, I.bare⟩
theorem Inv.after {Q : VK} {u : Value} (I : Inv X pins σ H s) (h : CE X.stack X.prog X.w H s Q u s') : EP X pins σ Q u s' := by
 obtain ⟨v, H', os, bare, un, hok, r, q⟩ := h
 obtain ⟨hh, g, d, t, os'⟩ := s'
 obtain rfl : os' = s.os := os
 exact ⟨v, H', I.call (h' := hh) (g' := g) (d' := d) (t' := t) (ch := []) un hok bare (fun b z => absurd z (by simp)), r, q⟩
end
noncomputable def tCall (sp : Sp) (dvs : List V) (E : XK) (t : TA) : TE := fun σ H Q => t σ H fun vs H1 => sp (vs ++ dvs) H1 Q E
noncomputable def Binds (K : PySem.W.Frag) (fd : FuncData) (ps : List Str) (ds : List Value) : Prop :=
 ∀ (s : Shared) (us : List Value), K.In s.heap → (us ++ ds).length = ps.length → BindsTo s fd ⟨us, []⟩ (ps.zip (us ++ ds))
theorem Binds.all {K : PySem.W.Frag} {fd : FuncData} {ps : List Str} (h : ∀ us : List Value, us.length = ps.length → bindArgs fd ⟨us, []⟩ = pure (ps.zip us)) : Binds K fd ps [] := fun s us _ hl => by
 rw [List.append_nil] at hl ⊢
 exact .of_eq (h us hl)
noncomputable def Passes (CX : CXT) (X : Cx) (E : XK) : Prop := ∀ (pins : List (Addr × Obj)) (σ : St) (H : Hp) (s : Shared) (e : Value) (s' : Shared), Inv X pins σ H s → CX X.stack H s E e s' → X.xe e s'
section
variable {X : Cx} {CX : CXT} {k : Nat} {f C : Addr} {fd : FuncData} {ps : List Str} {sp : Sp} {dvs : List V} {ds : List Value} {E : XK} {x m : Str} {p pos apos : Pos} {e o : Expr} {es : List Expr} {ta : TE} {t : TA}
theorem run_fn {pins : List (Addr × Obj)} {σ : St} {H : Hp} {s : Shared} {Q : VK} {us : List Value} {vs : List V} (F : FnOk X.prog X.w X.K X.mg X.base CX k f fd ps sp) (hr : Room k X.A) (hb : Binds X.K fd ps ds) (hd : Vals dvs ds) (hx : Passes CX X E)
   (I : Inv X pins σ H s) (r : Vals vs us) (h : sp (vs ++ dvs) H Q E) : wpAny (model X.prog X.w) X.A (call (.ref f) us) (EP X pins σ Q) X.xe s := by
 have r2 : Vals (vs ++ dvs) (us ++ ds) := r.append hd
 have hl : (us ++ ds).length = ps.length := by rw [← r2.length]; exact F.len _ _ _ _ h
 refine wpAny_call (codeAny_mono (F.run X.A X.stack s H ⟨us, []⟩ (us ++ ds) (vs ++ dvs) Q E hr I.env0 (hb s us I.kIn hl) r2 h) fun r s' hq => ?_)
 cases r with
 | error e => exact hx pins σ H s e s' I hq
 | ok fl =>
   cases fl with
   | ret u => exact I.after hq
   | next => exact False.elim hq
   | brk => exact False.elim hq
   | cont => exact False.elim hq
theorem pe_call (F : FnOk X.prog X.w X.K X.mg X.base CX k f fd ps sp) (hr : Room k X.A) (hg : Gl X x) (hm : X.mg x = some (.ref f)) (hk : PySem.W.keepIn X.K (.ref f) = true) (hb : Binds X.K fd ps ds) (hd : Vals dvs ds) (hx : Passes CX X E)
   (ha : PA X (e :: es) t) (hdb : (x == ("__debug__" : Str)) = false := by decide) (he : starEach (e :: es) X.env = (false, eval e X.env) :: starEach es X.env := by rfl) (hpl : (backTo pos (starEach es X.env)).any (·.1) = false := by rfl) :
   PE X (.Call (.Name x p) (e :: es) [] pos) (tCall sp dvs E t) := by
 intro pins s σ H Q I h
 refine wpAny_Call_Name_kw (ld_glob I hg hm ?_ hdb)
 refine PySem.W.callWith_K (h₀ := X.base) I.ok.mod.kin hk (thn (ha pos pins s σ H _ I h) fun us s1 ⟨vs, H1, I1, r, q⟩ => ⟨I1.kIn, ?_⟩) he hpl
 exact run_fn F hr hb hd hx I1 r q
end
section
variable {X : Cx} {CX : CXT} {k : Nat} {f C : Addr} {fd : FuncData} {ps ks : List Str} {sp : Sp} {E : XK} {x m : Str} {p pos apos kpos : Pos} {e o : Expr} {es : List Expr} {kws : List Keyword} {te ta : TE} {t tk : TA} {nm : Option Str}
variable {g : List Value → List Value → List Value} {gV : List V → List V → List V}
end
structure FnScope (N P : List Str) (sc : Scope) : Prop where
 kind : sc.kind = .function
 co : sc.isCoroutine = false
 gen : sc.isGenerator = false
 nd : N.Nodup
 pre : N.take P.length = P
 par : ∀ x ∈ P, sc.names.lookup x = some .local ∨ sc.names.lookup x = some .cell
 nofree : ∀ y ∈ sc.names, y.2 ≠ .free
theorem bindL_out {kindOf : Str → Option NameKind} {x : Str} : ∀ {binds : List (Str × Value)} {m : Str → Option Value}, (∀ v, (x, v) ∉ binds) → bindL kindOf binds m x = m x
 | [], _, _ => rfl
 | (n, v) :: r, m, h => by
   unfold bindL
   rw [bindL_out fun w hw => h w (List.mem_cons_of_mem _ hw)]
   split
   · have : x ≠ n := by rintro rfl; exact h v List.mem_cons_self
     simp [this]
   · rfl
theorem bindC_out {kindOf : Str → Option NameKind} {x : Str} : ∀ {binds : List (Str × Value)} {m : Str → Option Value}, (∀ v, (x, v) ∉ binds) → bindC kindOf binds m x = m x
 | [], _, _ => rfl
 | (n, v) :: r, m, h => by
   unfold bindC
   rw [bindC_out fun w hw => h w (List.mem_cons_of_mem _ hw)]
   split
   · rfl
   · have : x ≠ n := by rintro rfl; exact h v List.mem_cons_self
     simp [this]
theorem bindL_get {kindOf : Str → Option NameKind} {x : Str} {v : Value} : ∀ {P : List Str} {vs : List Value} {i : Nat} {m : Str → Option Value}, P.Nodup → P[i]? = some x → vs[i]? = some v → kindOf x = some .local →
   bindL kindOf (P.zip vs) m x = some v
 | [], _, _, _, _, h, _, _ => by simp at h
 | _ :: _, [], _, _, _, _, h, _ => by simp at h
 | p :: P, w :: vs, 0, m, nd, h1, h2, hk => by
   simp at h1 h2; subst h1; subst h2
   show bindL kindOf ((p, w) :: P.zip vs) m p = _
   unfold bindL
   rw [bindL_out fun v hv => (List.nodup_cons.mp nd).1 (List.of_mem_zip hv).1, if_pos hk]
   simp
 | p :: P, w :: vs, i + 1, m, nd, h1, h2, hk => by
   show bindL kindOf ((p, w) :: P.zip vs) m x = _
   unfold bindL
   exact bindL_get (i := i) (List.nodup_cons.mp nd).2 (by simpa using h1) (by simpa using h2) hk
theorem bindC_get {kindOf : Str → Option NameKind} {x : Str} {v : Value} : ∀ {P : List Str} {vs : List Value} {i : Nat} {m : Str → Option Value}, P.Nodup → P[i]? = some x → vs[i]? = some v → kindOf x ≠ some .local →
   bindC kindOf (P.zip vs) m x = some v
 | [], _, _, _, _, h, _, _ => by simp at h
 | _ :: _, [], _, _, _, _, h, _ => by simp at h
 | p :: P, w :: vs, 0, m, nd, h1, h2, hk => by
   simp at h1 h2; subst h1; subst h2
   show bindC kindOf ((p, w) :: P.zip vs) m p = _
   unfold bindC
   rw [bindC_out fun v hv => (List.nodup_cons.mp nd).1 (List.of_mem_zip hv).1, if_neg hk]
   simp
 | p :: P, w :: vs, i + 1, m, nd, h1, h2, hk => by
   show bindC kindOf ((p, w) :: P.zip vs) m x = _
   unfold bindC
   exact bindC_get (i := i) (List.nodup_cons.mp nd).2 (by simpa using h1) (by simpa using h2) hk
noncomputable def start (N : List Str) (vs : List V) : St := vs.map some ++ List.replicate (N.length - vs.length) none
noncomputable def cxOf (CX : CXT) (P : Program) (w : World) (K : PySem.W.Frag) (mg : Str → Option Value) (base : Heap) (N : List Str) (qual : Str) (scope : Scope) (f : Addr) (cd : Value) (A : Around) (outer : List Env) (s : Shared) (H : Hp) (E : XK) : Cx where
 prog := P
 w := w
 K := K
 mg := mg
 base := base
 A := A.deeper (envOfC qual scope s.heap.objs.size f cd)
 N := N
 s₀ := s
 H₀ := H
 env := envOfC qual scope s.heap.objs.size f cd
 outer := outer
 stack := envOfC qual scope s.heap.objs.size f cd :: outer
 ex := []
 calm := true
 fn := fun _ => true
 pn := []
 xe := fun e s' => wpAny (model P w) (A.deeper (envOfC qual scope s.heap.objs.size f cd)) (leaving (envOfC qual scope s.heap.objs.size f cd) e) (fun _ s'' => CX outer H s E e s'') (fun e' s'' => CX outer H s E e' s'') s'
theorem cell_has {sc : Scope} {n : Nat} {x : Str} (h : sc.names.lookup x = some .cell) : ∃ c, (cellsFrom n sc.names []).lookup x = some c := by
 have q := PySem.W.cellsFrom_some sc.names n [] (.inl h)
 exact Option.isSome_iff_exists.mp q
theorem inv_start {CX : CXT} {P : Program} {w : World} {K : PySem.W.Frag} {mg : Str → Option Value} {base : Heap} {N ps : List Str} {qual : Str} {scope : Scope} {f : Addr} {cd : Value} {A : Around} {outer : List Env} {s s1 : Shared} {H : Hp} {E : XK} {us : List Value} {vs : List V}
   (S : FnScope N ps scope) (hd : A.handled = none) (e0 : Env0 P w K mg base A outer s H) (hl : vs.length = ps.length) (r : Vals vs us)
   (x : InCallC s s.heap.objs.size (bindL (envOfC qual scope s.heap.objs.size f cd).kindOf (ps.zip us) fun _ => none) (cellsFrom (s.heap.objs.size + 1) scope.names []) (bindC (envOfC qual scope s.heap.objs.size f cd).kindOf (ps.zip us) fun _ => none) s1) :
   Inv (cxOf CX P w K mg base N qual scope f cd A outer s H E) [] (start N vs) H s1 := by
 have hpl : ps.length ≤ N.length := by have := congrArg List.length S.pre; rw [List.length_take] at this; omega
 obtain ⟨h1, tk, rfl, hk⟩ := x.done
 have noA : ∀ b : Addr, b ∉ (cxOf CX P w K mg base N qual scope f cd A outer s H E).ex := fun b z => absurd (show b ∈ ([] : List Addr) from z) (by simp)
 refine ⟨⟨e0.mod, S.kind, rfl, rfl, Nat.le_refl _, fun y z c h1 h2 => ?_, fun y hy => ?_, fun y c _ h => ?_, fun _ => hd, Around.frames_deeper e0.frames, .inr ⟨rfl, rfl⟩, fun b z => absurd z (noA b), e0.bs, e0.bsz, fun b _ _ => noA b, fun b z => absurd z (noA b), e0.funs, e0.frf⟩,
   rfl, e0.bare, Un.kept hk, ⟨_, x.toInCall.ns, fun i y v h1 h2 h3 => ?_⟩, fun y c h => ⟨_, x.cell y c h⟩, e0.hok.fresh (Nat.le_refl _), fun y c h => ?_, fun p hp => absurd (show p ∈ ([] : List (Addr × Obj)) from hp) (by simp), e0.hok.kept hk, ?_⟩
 · exact name_of_addr x.apart (PySem.mem_of_lookup h1) (PySem.mem_of_lookup h2)
 · have hy : scope.names.lookup y = some .cell ∨ scope.names.lookup y = some .free := hy
   rcases hy with hy | hy
   · exact cell_has hy
   · exact absurd rfl (S.nofree _ (PySem.mem_of_lookup hy))
 · exact Nat.le_of_lt (x.above y c (PySem.mem_of_lookup h))
 · have hi : i < vs.length := by
     unfold start at h2
     by_cases hi : i < vs.length
     · exact hi
     · rw [List.getElem?_append_right (by simpa using hi)] at h2
       rw [List.getElem?_replicate] at h2
       split at h2 <;> cases h2
   have ha : vs[i]? = some v := by
     unfold start at h2
     rw [List.getElem?_append_left (by simpa using hi), List.getElem?_map] at h2
     cases e : vs[i]? with
     | none => rw [e] at h2; cases h2
     | some a => rw [e] at h2; cases h2; rfl
   obtain ⟨u, hu, rv⟩ := r.get ha
   have hp : ps[i]? = some y := by
     rw [← S.pre, List.getElem?_take_of_lt (by omega)]; exact h1
   have ndP : ps.Nodup := by rw [← S.pre]; exact S.nd.sublist (List.take_sublist _ _)
   refine ⟨u, rv, ?_⟩
   rcases S.par y (List.mem_of_getElem? hp) with k | k
   · exact .inl ⟨k, bindL_get ndP hp hu k⟩
   · obtain ⟨c, e⟩ := cell_has (n := s.heap.objs.size + 1) k
     refine .inr ⟨.inl k, c, e, ?_⟩
     have q := x.cell y c e
     rw [bindC_get ndP hp hu (by show scope.names.lookup y ≠ _; rw [k]; decide)] at q
     exact q
 · exact e0.hok.fresh (Nat.le_of_lt (x.above y c (PySem.mem_of_lookup h)))
 · unfold start
   show _ = N.length
   rw [List.length_append, List.length_map, List.length_replicate]
   omega
theorem fn_of {CX : CXT} {P : Program} {w : World} {K : PySem.W.Frag} {mg : Str → Option Value} {base : Heap} {k : Nat} {f : Addr} {name qual : Str} {params : Arguments} {body : List Stmt} {scope : Scope} {dV kV doc pm cdv ct oc : Value} {an od : Option Addr}
   {osl : Array (Option Value)} {N ps : List Str} {sp : Sp} (lk : K.lookup f = some ⟨oc, od, .func (PySem.W.fnOf name qual params body scope dV kV doc pm an cdv ct), osl⟩) (hcd : PySem.W.codeIn K cdv qual = true) (S : FnScope N ps scope)
   (len : ∀ vs H Q E, sp vs H Q E → vs.length = ps.length)
   (hbody : ∀ (A : Around) (outer : List Env) (s : Shared) (H : Hp) (vs : List V) (Q : VK) (E : XK), Room k (A.deeper (envOfC qual scope s.heap.objs.size f cdv)) → sp vs H Q E →
     ∃ t, PSs (cxOf CX P w K mg base N qual scope f cdv A outer s H E) body t ∧ t { nx := fun _ H' => Q .non H', rt := Q } (start N vs) H) :
   FnOk P w K mg base CX (k + 1) f (PySem.W.fnOf name qual params body scope dV kV doc pm an cdv ct) ps sp := by
 refine ⟨len, fun A outer s H args us vs Q E hr e0 hb r hsp => ?_⟩
 have hl := len _ _ _ _ hsp
 have KX : K.In s.heap := e0.mod.kin.keeps fun b o e => (e0.bs b o e).1
 have lim : s.heap.NoLimit := e0.mod.nolimit.keeps fun b o e => (e0.bs b o e).1
 have hkind : ∀ y ∈ ps.zip us, scope.names.lookup y.1 = some .local ∨ (scope.names.lookup y.1 = some .cell ∧ ((cellsFrom (s.heap.objs.size + 1) scope.names []).lookup y.1).isSome = true) := fun ⟨n, v⟩ hy => by
   rcases S.par n (List.of_mem_zip hy).1 with q | q
   · exact .inl q
   · exact .inr ⟨q, PySem.W.cellsFrom_some _ _ _ (.inl q)⟩
 refine codeAny_call_function hr.depth (KX _ _ lk) rfl S.co S.gen rfl (PySem.W.codeRec_of KX hcd) (hb _ _ _ _ ?_)
 refine wpAny_newFunctionEnv_cells S.kind hkind fun env he s1 x => ?_
 subst he
 refine ⟨lim.keeps x.toInCall.keep, codeAny_func ?_⟩
 obtain ⟨t, ht, hq⟩ := hbody A outer s H vs Q E (hr.deeper _) hsp
 have I : Inv (cxOf CX P w K mg base N qual scope f cdv A outer s H E) [] (start N vs) H s1 := inv_start S hr.hd e0 hl r x
 refine wpAny_mono (ht [] s1 (start N vs) H _ I hq) (fun fl s' hs => ?_) fun e s' hs => hs
 have fin : ∀ {σ' : St} {H' : Hp} {v : V} {u : Value}, Inv (cxOf CX P w K mg base N qual scope f cdv A outer s H E) [] σ' H' s' → RelV v u → Q v H' → CE outer P w H s Q u s' :=
   fun {σ' H' v u} J rv q => ⟨v, H', J.os, J.bare, J.base, J.hok, rv, q⟩
 cases fl with
 | ret u =>
   obtain ⟨v, σ', H', J, rv, q⟩ := hs
   exact fin J rv q
 | next =>
   obtain ⟨σ', H', J, q⟩ := hs
   exact fin (v := V.non) (u := Value.none) J rfl q
 | brk =>
   obtain ⟨_, _, _, q⟩ := hs
   exact False.elim q
 | cont =>
   obtain ⟨_, _, _, q⟩ := hs
   exact False.elim q
end L2
namespace L2
open PySem PySem.Spec PyProof.Rows
section
variable {X : Cx} {x : Str} {p pos : Pos} {e : Expr} {es : List Expr} {t : TA} {id T : String} {r : List V → Hp → VK → Prop}
noncomputable def tCB (r : List V → Hp → VK → Prop) (t : TA) : TE := fun σ H Q => t σ H fun vs H1 => r vs H1 Q
theorem pe_callB (hc : CallR X (.builtin id) r) (hg : Gl X x) (hm : X.mg x = none) (hv : bootBuiltins x = some (.builtin id)) (ha : PA X (e :: es) t) (hn : x ≠ "__name__" := by decide) (hdb : (x == ("__debug__" : Str)) = false := by decide)
   (he : starEach (e :: es) X.env = (false, eval e X.env) :: starEach es X.env := by rfl) (hpl : (backTo pos (starEach es X.env)).any (·.1) = false := by rfl) : PE X (.Call (.Name x p) (e :: es) [] pos) (tCB r t) := by
 intro pins s σ H Q I h
 refine wpAny_Call_Name_kw (ld_blt I hg hm hv ?_ hn hdb)
 exact PyProof.Rows.callWith_builtin1 (thn (ha pos pins s σ H _ I h) fun us s1 ⟨vs, H1, I1, r1, q1⟩ => hc pins s1 σ H1 vs us Q I1 r1 q1) he hpl
theorem pe_callTy (hc : CallR X (.type T) r) (hg : Gl X x) (hm : X.mg x = none) (hv : bootBuiltins x = some (.type T)) (ha : PA X (e :: es) t) (hn : x ≠ "__name__" := by decide) (hdb : (x == ("__debug__" : Str)) = false := by decide)
   (he : starEach (e :: es) X.env = (false, eval e X.env) :: starEach es X.env := by rfl) (hpl : (backTo pos (starEach es X.env)).any (·.1) = false := by rfl) : PE X (.Call (.Name x p) (e :: es) [] pos) (tCB r t) := by
 intro pins s σ H Q I h
 refine wpAny_Call_Name_kw (ld_blt I hg hm hv ?_ hn hdb)
 exact PyProof.Rows.callWith_type1 (thn (ha pos pins s σ H _ I h) fun us s1 ⟨vs, H1, I1, r1, q1⟩ => hc pins s1 σ H1 vs us Q I1 r1 q1) he hpl
end
end L2
namespace HT
open PySem PyProof.Rows
section
open PySem.SeqAt
open PySem.AutoSeq1 (wpAny_loadPart')
open PySem.MeetsSeq PySem.MeetsSeq2 PySem.MeetsSeq3
end
section
variable {prog : Program} {w : World} {A : Around} {E : Value → Shared → Prop} {s : Shared}
theorem cat_tup {t b : Addr} {vs ws : List Value} {Q : Value → Shared → Prop} (ht : IsTup s.heap t vs.toArray) (hb : IsTup s.heap b ws.toArray) (hv : vs ≠ [])
   (h1 : ws = [] → Q (.ref t) s) (h2 : ws ≠ [] → Q (.ref s.heap.objs.size) { s with heap := s.heap.push { cls := .type "tuple", data := .seq (vs ++ ws).toArray } })
   (hsz : vs.length + ws.length ≤ sizeLine) : wpAny (model prog w) A (binaryOp .Add (.ref t) (.ref b)) Q E s := by
 obtain ⟨⟨cls, dd, data, sl⟩, ho, hc, n, hd⟩ := id ht
 obtain ⟨⟨cls2, dd2, data2, sl2⟩, ho2, hc2, n2, hd2⟩ := id hb
 simp only at hc hd hc2 hd2
 subst hc hd hc2 hd2
 have e : vs.toArray ++ ws.toArray = (vs ++ ws).toArray := by simp
 by_cases hw : ws = []
 · exact concat_meets ⟨_, ho, rfl⟩ ⟨_, ho2, rfl⟩ noFill_tuple_add seq_tuple_add PySem.F.slot_tuple_add PySem.F.entry_tuple_add (PySem.F.args_tuple_add_2 _ _)
     (tuple_addW1 t b vs.toArray ws.toArray n n2 dd dd2 sl sl2 (by simpa using hv) (by simp [hw])) ⟨ho, ho2, h1 hw⟩
 · refine concat_meets ⟨_, ho, rfl⟩ ⟨_, ho2, rfl⟩ noFill_tuple_add seq_tuple_add PySem.F.slot_tuple_add PySem.F.entry_tuple_add (PySem.F.args_tuple_add_2 _ _)
     (tuple_addW2 t b vs.toArray ws.toArray n n2 dd dd2 sl sl2 (by simpa using hv) (by simpa using hw) (by rw [List.size_toArray, List.size_toArray]; exact hsz)) ⟨ho, ho2, ?_⟩
   rw [e]
   exact h2 hw
noncomputable def sIx (n d : Nat) : Option Int → Nat
 | none => d
 | some v => if v < 0 then (v + (n : Int)).toNat else min v.toNat n
theorem sIx_none (n d : Nat) : sIx n d none = d := rfl
theorem sIx_nat (n d k : Nat) : sIx n d (some (k : Int)) = min k n := by
 show (if (k : Int) < 0 then ((k : Int) + (n : Int)).toNat else min (k : Int).toNat n) = min k n
 rw [if_neg (by omega), Int.toNat_natCast]
theorem sIx_le (n d : Nat) (hd : d ≤ n) (o : Option Int) : sIx n d o ≤ n := by
 cases o with
 | none => exact hd
 | some v =>
   show (if v < 0 then (v + (n : Int)).toNat else min v.toNat n) ≤ n
   by_cases hv : v < 0
   · rw [if_pos hv]; omega
   · rw [if_neg hv]; exact Nat.min_le_right _ _
theorem clip_eq (v : Int) (n d : Nat) : (if v < 0 then max (v + (n : Int)) 0 else min v (n : Int)) = ((sIx n d (some v) : Nat) : Int) := by
 show (if v < 0 then max (v + (n : Int)) 0 else min v (n : Int)) = (((if v < 0 then (v + (n : Int)).toNat else min v.toNat n) : Nat) : Int)
 by_cases hv : v < 0
 · simp only [if_pos hv]; omega
 · simp only [if_neg hv]; omega
theorem adjust_gen (lo hi : Option Int) (n : Nat) : Builtin.Slice.sliceAdjust lo hi 1 (n : Int) = (((sIx n 0 lo : Nat) : Int), ((sIx n n hi : Nat) : Int)) := by
 have h1 : ¬ ((1 : Int) < 0) := by omega
 unfold Builtin.Slice.sliceAdjust
 simp only [h1, if_false]
 refine Prod.ext ?_ ?_
 · cases lo with
   | none => rfl
   | some v => exact clip_eq v n 0
 · cases hi with
   | none => rfl
   | some v => exact clip_eq v n n
theorem places_gen (i j : Nat) : Builtin.Slice.slicePlaces (i : Int) (j : Int) 1 = j - i := by
 unfold Builtin.Slice.slicePlaces
 have h1 : (1 : Int) > 0 := by omega
 simp only [h1, if_true, Int.ediv_one]
 split <;> omega
theorem slicePart_ {v : Value} {o : Option Int} {Q : Option Int → Shared → Prop} (p : IsPart v o) (h : Q o s) : wpAny (model prog w) A (Builtin.Slice.slicePartIndex v) Q E s := by
 cases p with
 | none => exact slicePart_none h
 | int i t => exact slicePart_int h
theorem sliceApplied_gen {sl : Addr} {vl vu : Value} {lo hi : Option Int} {n : Nat} {Q : Int × Int × Nat → Shared → Prop} (hs : s.heap.IsSliceOf sl vl vu .none) (pl : IsPart vl lo) (pu : IsPart vu hi)
   (h : Q (((sIx n 0 lo : Nat) : Int), 1, sIx n n hi - sIx n 0 lo) s) : wpAny (model prog w) A (Builtin.Slice.sliceApplied (.ref sl) (pure (n : Int))) Q E s := by
 obtain ⟨os, hos, hcs, hds⟩ := id hs
 unfold Builtin.Slice.sliceApplied Builtin.Slice.sliceFields
 refine wpAny_bind (wpAny_bind (wpAny_field hos hds (x := vl) rfl (wpAny_bind (wpAny_field hos hds (x := vu) rfl (wpAny_bind (wpAny_field hos hds (x := .none) rfl (wpAny_pure ?_)))))))
 refine wpAny_bind (slicePart_none ?_)
 show wpAny _ _ (if ((1 : Int) == 0) = true then _ else _) _ _ s
 rw [if_neg (by decide)]
 refine wpAny_bind (slicePart_ pl (wpAny_bind (slicePart_ pu (wpAny_bind (wpAny_pure ?_)))))
 show wpAny _ _ (match Builtin.Slice.sliceAdjust lo hi 1 (n : Int) with | (lo, hi) => pure (lo, (1 : Int), Builtin.Slice.slicePlaces lo hi 1)) _ _ s
 rw [adjust_gen lo hi n]
 show wpAny _ _ (pure (((sIx n 0 lo : Nat) : Int), (1 : Int), Builtin.Slice.slicePlaces ((sIx n 0 lo : Nat) : Int) ((sIx n n hi : Nat) : Int) 1)) _ _ s
 rw [places_gen]
 exact wpAny_pure h
theorem pick_gen (xs : Array Value) (i k : Nat) : ((List.range k).filterMap fun (m : Nat) => xs[((i : Int) + (m : Int) * 1).toNat]?).toArray = ((xs.toList.drop i).take k).toArray := by
 have e : (fun (m : Nat) => xs[((i : Int) + (m : Int) * 1).toNat]?) = fun m => xs[i + m]? := by
   funext m
   have : ((i : Int) + (m : Int) * 1).toNat = i + m := by omega
   rw [this]
 rw [e]
 have := pick_run xs i k
 rw [List.filterMap_map] at this
 have e2 : ((fun x => xs[x]?) ∘ fun x => i + x) = fun m => xs[i + m]? := rfl
 rw [e2] at this
 rw [this]
theorem getItem_tuple_cut {t sl : Addr} {items : Array Value} {vl vu : Value} {lo hi : Option Int} {Q : Value → Shared → Prop} (ht : IsTup s.heap t items) (hs : s.heap.IsSliceOf sl vl vu .none) (pl : IsPart vl lo) (pu : IsPart vu hi)
   (hw : ¬ (sIx items.size 0 lo = 0 ∧ sIx items.size items.size hi = items.size))
   (h : Q (.ref s.heap.objs.size) { s with heap := s.heap.push { cls := .type "tuple", data := .seq ((items.toList.drop (sIx items.size 0 lo)).take (sIx items.size items.size hi - sIx items.size 0 lo)).toArray } })
   (hsz : items.size ≤ sizeLine) : wpAny (model prog w) A (getItem (.ref t) (.ref sl)) Q E s := by
 have htake : sizeOk (.seq ((items.toList.drop (sIx items.size 0 lo)).take (sIx items.size items.size hi - sIx items.size 0 lo)).toArray) := by
   show ((items.toList.drop (sIx items.size 0 lo)).take (sIx items.size items.size hi - sIx items.size 0 lo)).toArray.size ≤ sizeLine
   rw [List.size_toArray, List.length_take, List.length_drop, Array.length_toList]
   omega
 have hj : sIx items.size items.size hi ≤ items.size := sIx_le _ _ (Nat.le_refl _) hi
 obtain ⟨os, hos, hcs, hds⟩ := id hs
 have hTs : s.TypeIs (.ref sl) "slice" := ⟨os, hos, hcs⟩
 unfold getItem
 try with_reducible refine wpAny_holding ?_
 first | refine wpAny_bind (wpAny_pure ?_) | skip
 refine wpAny_bind (wpAny_sequenceKey ht.typeIs (by decide) ?_)
 refine wpAny_bind (wpAny_callSpecial?_slot (name := Str.ofString "__getitem__") ht.typeIs PyProof.Rows.slot_tuple_getitem
   (wpAny_call_entry PyProof.Rows.slot_tuple_getitem ht.typeIs entry_tuple_getitem ?_ (args_tuple_getitem _ _)))
 show wpAny _ _ (Builtin.Tuple.tupleItemsOf (.ref t) >>= _) _ _ s
 refine wpAny_bind (tupleItemsOf_ ht ?_)
 refine wpAny_bind (wpAny_typeOf hTs ?_)
 rw [if_pos (by decide)]
 refine wpAny_bind (sliceApplied_gen hs pl pu ?_)
 have hno : ¬ ((((sIx items.size 0 lo : Nat) : Int) == 0 && (1 : Int) == 1 && (sIx items.size items.size hi - sIx items.size 0 lo) == items.size) = true) := by
   intro q
   rw [Bool.and_eq_true, Bool.and_eq_true] at q
   have q1 : ((sIx items.size 0 lo : Nat) : Int) = 0 := eq_of_beq q.1.1
   have q2 : sIx items.size items.size hi - sIx items.size 0 lo = items.size := eq_of_beq q.2
   exact hw ⟨by omega, by omega⟩
 show wpAny _ _ (if (((sIx items.size 0 lo : Nat) : Int) == 0 && (1 : Int) == 1 && (sIx items.size items.size hi - sIx items.size 0 lo) == items.size) = true then _ else _) _ _ s
 rw [if_neg hno, pick_gen]
 first
   | exact wpAny_bind (m := Builtin.Tuple.tupleExact _) (wpAny_newObj_type (wpAny_pure ⟨_, rfl, wpAny_pure h⟩) htake)
   | exact wpAny_bind (m := Builtin.Tuple.tupleExact _) (wpAny_newObj_type (wpAny_bind (wpAny_pure (wpAny_pure ⟨_, rfl, wpAny_pure h⟩))) htake)
   | exact wpAny_bind (wpAny_bind (m := Builtin.Tuple.tupleExact _) (wpAny_newObj_type (wpAny_pure (wpAny_pure ⟨_, rfl, wpAny_pure h⟩)) htake))
   | exact wpAny_bind (wpAny_bind (m := Builtin.Tuple.tupleExact _) (wpAny_newObj_type (wpAny_pure ⟨_, rfl, wpAny_pure h⟩) htake))
end
end HT
namespace L2
open PySem PySem.Spec PyProof.Rows
noncomputable abbrev TO := St → Hp → (Option Int → Hp → Prop) → Prop
noncomputable def PO (X : Cx) (e : Option Expr) (t : TO) : Prop :=
 ∀ (pins : List (Addr × Obj)) (s : Shared) (σ : St) (H : Hp) (Q : Option Int → Hp → Prop), Inv X pins σ H s → t σ H Q →
   wpAny (model X.prog X.w) X.A (evalPart e X.env) (fun u s' => ∃ o H', Inv X pins σ H' s' ∧ IsPart u o ∧ Q o H') X.xe s
noncomputable def tNoPart : TO := fun _ H Q => Q none H
noncomputable def tPart (t : TE) : TO := fun σ H Q => t σ H fun x H1 => ∃ i, x = .int i ∧ Q (some i) H1
section
variable {X : Cx} {e : Expr} {te : TE} {lo hi : Option Expr} {tl th : TO} {pos p2 : Pos}
theorem po_none : PO X none tNoPart := by
 intro pins s σ H Q I h
 rw [evalPart_none]
 exact wpAny_pure ⟨none, H, I, .none, h⟩
theorem po_some (h : PE X e te) : PO X (some e) (tPart te) := by
 intro pins s σ H Q I hw
 rw [evalPart_some]
 refine thn (h pins s σ H _ I hw) fun u s1 ⟨x, H1, I1, r1, q1⟩ => ?_
 obtain ⟨i, rfl, q⟩ := q1
 obtain ⟨t, rfl⟩ := r1
 exact ⟨some i, H1, I1, .int i t, q⟩
noncomputable def SlR (X : Cx) (r : V → Option Int → Option Int → Hp → VK → Prop) : Prop :=
 ∀ (pins : List (Addr × Obj)) (s : Shared) (σ : St) (H : Hp) (x : V) (v vl vu : Value) (lo hi : Option Int) (sl : Addr) (Q : VK), Inv X pins σ H s → RelV x v → s.heap.IsSliceOf sl vl vu .none → IsPart vl lo → IsPart vu hi → r x lo hi H Q →
   ∃ T id, typeLookup (.type T) "__getitem__" = pure (some (.builtin id)) ∧ s.TypeIs v T ∧ wpAny (model X.prog X.w) X.A (getItem v (.ref sl)) (EP X pins σ Q) X.xe s
noncomputable def tSl (r : V → Option Int → Option Int → Hp → VK → Prop) (te : TE) (tl th : TO) : TE := fun σ H Q => te σ H fun x H1 => tl σ H1 fun l H2 => th σ H2 fun u H3 => r x l u H3 Q
theorem pe_slice {r : V → Option Int → Option Int → Hp → VK → Prop} (hr : SlR X r) (he : PE X e te) (hl : PO X lo tl) (hu : PO X hi th) : PE X (.Subscript e (.Slice lo hi none p2) pos) (tSl r te tl th) := by
 intro pins s σ H Q I h
 refine Subscript_ (thn (he pins s σ H _ I h) fun v s1 ⟨x, H1, I1, r1, q1⟩ => ?_)
 refine wpAny_Slice (thn (hl pins s1 σ H1 _ I1 q1) fun vl s2 ⟨l, H2, I2, pl, q2⟩ => thn (hu pins s2 σ H2 _ I2 q2) fun vu s3 ⟨u, H3, I3, pu, q3⟩ => ?_)
 rw [evalPart_none]
 refine wpAny_pure ?_
 have I4 : Inv X pins σ H3 { s3 with heap := s3.heap.push { cls := .type "slice", data := .fields #[vl, vu, .none] } } := I3.kept (t' := s3.toks) fun b ob q => Heap.get?_push_of_some _ q
 obtain ⟨T, id, hT, ht, hg⟩ := hr pins { s3 with heap := s3.heap.push { cls := .type "slice", data := .fields #[vl, vu, .none] } } σ H3 x v vl vu l u s3.heap.objs.size Q I4 r1 (Heap.IsSliceOf.new ..) pl pu q3
 show wpAny (model X.prog X.w) X.A (subscriptTail e (.Slice lo hi none p2) v (.ref s3.heap.objs.size)) (EP X pins σ Q) X.xe { s3 with heap := s3.heap.push { cls := .type "slice", data := .fields #[vl, vu, .none] } }
 exact tail_any (ops := [.ref s3.heap.objs.size, v]) ht hT hg (by with_unfolding_all rfl)
noncomputable def cutV (xs : List V) (lo hi : Option Int) : List V := (xs.drop (HT.sIx xs.length 0 lo)).take (HT.sIx xs.length xs.length hi - HT.sIx xs.length 0 lo)
theorem cutV_length (xs : List V) (lo hi : Option Int) : (cutV xs lo hi).length ≤ xs.length := by
 unfold cutV
 rw [List.length_take, List.length_drop]
 omega
noncomputable def rSlT (K : PySem.W.Frag) : V → Option Int → Option Int → Hp → VK → Prop := fun x lo hi H Q => ∃ a xs, x = .ref a ∧ SqT K H a xs ∧
 ¬ (HT.sIx xs.length 0 lo = 0 ∧ HT.sIx xs.length xs.length hi = xs.length) ∧ ∀ p, H p = none → Q (.ref p) (upd H p (.tup (cutV xs lo hi)))
theorem sl_tup : SlR X (rSlT X.K) := by
 intro pins s σ H x v vl vu lo hi sl Q I rx hs pl pu h
 obtain ⟨a, xs, rfl, hx, hw, q⟩ := h
 cases rx
 obtain ⟨its, r, ht, hz⟩ := I.tuple hx
 have hlen : its.toArray.size = xs.length := by rw [List.size_toArray]; exact r.length.symm
 refine ⟨"tuple", _, PyProof.Rows.slot_tuple_getitem.lookup, ht.typeIs, ?_⟩
 refine HT.getItem_tuple_cut ht hs pl pu (by rw [hlen]; exact hw) ?_ (by rw [hlen]; exact hz)
 rw [hlen]
 refine ⟨.ref s.heap.objs.size, _, I.laid (t' := s.toks) (o := .tup (cutV xs lo hi)) (fun b ob q => Heap.get?_push_of_some _ q) (Nat.le_refl _) ?_, rfl, q _ (I.hok.fresh (Nat.le_refl _))⟩
 exact ⟨Nat.le_trans (cutV_length xs lo hi) hz, _, (r.drop (HT.sIx xs.length 0 lo)).take (HT.sIx xs.length xs.length hi - HT.sIx xs.length 0 lo), IsTupN.new _ _⟩
noncomputable def rCatT (K : PySem.W.Frag) : R2 := fun x y H Q => ∃ a b xs ys, x = .ref a ∧ y = .ref b ∧ SqT K H a xs ∧ SqT K H b ys ∧ xs ≠ [] ∧ xs.length + ys.length ≤ sizeLine ∧
 (ys = [] → Q (.ref a) H) ∧ (ys ≠ [] → ∀ p, H p = none → Q (.ref p) (upd H p (.tup (xs ++ ys))))
theorem Vals.nil_iff {xs : List V} {us : List Value} (r : Vals xs us) : us = [] ↔ xs = [] := by
 cases r with
 | nil => simp
 | cons _ _ => simp
theorem op_catT : OpR X (binaryOp .Add) (rCatT X.K) := by
 intro pins s σ H x y v u Q I rx ry h
 obtain ⟨a, b, xs, ys, rfl, rfl, ha, hb, hx, hz, q1, q2⟩ := h
 cases rx
 cases ry
 obtain ⟨its, r1, p1, _⟩ := I.tuple ha
 obtain ⟨its2, r2, p2, _⟩ := I.tuple hb
 refine HT.cat_tup p1 p2 (fun z => hx (r1.nil_iff.mp z)) (fun z => ⟨.ref a, H, I, rfl, q1 (r2.nil_iff.mp z)⟩) (fun z => ?_) (by rw [← r1.length, ← r2.length]; exact hz)
 refine ⟨.ref s.heap.objs.size, _, I.laid (t' := s.toks) (o := .tup (xs ++ ys)) (fun b ob q => Heap.get?_push_of_some _ q) (Nat.le_refl _) ?_, rfl, q2 (fun w => z (r2.nil_iff.mpr w)) _ (I.hok.fresh (Nat.le_refl _))⟩
 exact ⟨by rw [List.length_append]; exact hz, _, r1.append r2, IsTupN.new _ _⟩
end
end L2
namespace L2
open PySem PySem.Spec PyProof.Rows
noncomputable def ixN (n : Nat) (i : Int) : Option Nat := if 0 ≤ i then (if i < n then some i.toNat else none) else if -(n : Int) ≤ i then some (i + n).toNat else none
noncomputable def atI {α : Type} (xs : List α) (i : Int) : Option α := (ixN xs.length i).bind fun j => xs[j]?
theorem ixN_seq {n : Nat} {i : Int} {j : Nat} (h : ixN n i = some j) : seqIndex? i n = some j ∧ j < n ∧ -(n : Int) ≤ i ∧ i < n := by
 unfold ixN at h
 by_cases h0 : 0 ≤ i
 · rw [if_pos h0] at h
   by_cases h1 : i < n
   · rw [if_pos h1] at h
     have e : i.toNat = j := Option.some.inj h
     exact ⟨by rw [seqIndex_of h0 h1, e], by omega, by omega, h1⟩
   · rw [if_neg h1] at h; cases h
 · rw [if_neg h0] at h
   by_cases h1 : -(n : Int) ≤ i
   · rw [if_pos h1] at h
     have e : (i + n).toNat = j := Option.some.inj h
     exact ⟨by rw [seqIndex_neg (by omega) h1, e], by omega, h1, by omega⟩
   · rw [if_neg h1] at h; cases h
theorem atI_get {α : Type} {xs : List α} {i : Int} {v : α} (h : atI xs i = some v) : ∃ j, seqIndex? i xs.length = some j ∧ xs[j]? = some v ∧ j < xs.length ∧ -(xs.length : Int) ≤ i ∧ i < xs.length := by
 unfold atI at h
 cases e : ixN xs.length i with
 | none => rw [e] at h; cases h
 | some j =>
   rw [e] at h
   obtain ⟨h1, h2, h3, h4⟩ := ixN_seq e
   exact ⟨j, h1, h, h2, h3, h4⟩
theorem atI_nat {α : Type} {xs : List α} {j : Nat} {v : α} (h : xs[j]? = some v) : atI xs (j : Int) = some v := by
 have hj : j < xs.length := (List.getElem?_eq_some_iff.mp h).1
 have e : ixN xs.length (j : Int) = some j := by
   unfold ixN
   rw [if_pos (by omega), if_pos (by omega)]; simp
 unfold atI; rw [e]; exact h
noncomputable def PlainIx (b : Expr) : Prop := ∀ o i, subscripted b false o i = operate [o, i] (getItem o i)
noncomputable def IxR (X : Cx) (r : R2) : Prop :=
 ∀ (value slice : Expr) (pins : List (Addr × Obj)) (s : Shared) (σ : St) (H : Hp) (x y : V) (v u : Value) (Q : VK), Inv X pins σ H s → RelV x v → RelV y u → r x y H Q →
   subscripted slice false v u = operate [v, u] (getItem v u) → wpAny (model X.prog X.w) X.A (subscriptTail value slice v u) (EP X pins σ Q) X.xe s
noncomputable def MtR (X : Cx) (id : String) (r : V → List V → Hp → VK → Prop) : Prop :=
 ∀ (pins : List (Addr × Obj)) (s : Shared) (σ : St) (H : Hp) (x : V) (xs : List V) (v : Value) (us : List Value) (Q : VK), Inv X pins σ H s → RelV x v → Vals xs us → r x xs H Q →
   wpAny (model X.prog X.w) X.A (call (.builtin id) (v :: us)) (EP X pins σ Q) X.xe s
section
variable {X : Cx} {a b : Expr} {ta tb : TE} {pos : Pos}
theorem pe_ix {r : R2} (hr : IxR X r) (ha : PE X a ta) (hb : PE X b tb) (hs : PlainIx b) : PE X (.Subscript a b pos) (tOp r ta tb) := by
 intro pins s σ H Q I h
 exact Subscript_ (binT ha hb I h fun v u s2 x y H2 I2 rx ry q => hr a b pins s2 σ H2 x y v u Q I2 rx ry q (hs _ _))
noncomputable def rIxL (K : PySem.W.Frag) : R2 := fun x y H Q => ∃ p xs i v, x = .ref p ∧ y = .int i ∧ SqL K H p xs ∧ atI xs i = some v ∧ Q v H
noncomputable def rIxT (K : PySem.W.Frag) : R2 := fun x y H Q => ∃ p xs i v, x = .ref p ∧ y = .int i ∧ SqT K H p xs ∧ atI xs i = some v ∧ Q v H
theorem ix_list : IxR X (rIxL X.K) := by
 intro value slice pins s σ H x y v u Q I rx ry h hs
 obtain ⟨p, xs, i, z, rfl, rfl, hq, he, q⟩ := h
 cases rx
 obtain ⟨t, rfl⟩ := ry
 obtain ⟨its, r, pl, hz⟩ := I.list hq
 obtain ⟨j, h1, h2, h3, h4, h5⟩ := atI_get he
 obtain ⟨w, ew, rw'⟩ := r.get h2
 have hl := r.length
 have hn := line63
 have fin : EP X pins σ Q w s := ⟨z, H, I, rw', q⟩
 by_cases h0 : 0 ≤ i
 · have hj : i.toNat = j := by
     rw [seqIndex_of h0 h5] at h1
     exact Option.some.inj h1
   exact item_listR pl.isList h0 (by omega) (by rw [hj]; simpa using ew) fin hs
 · have hj : (i + (its.toArray.size : Int)).toNat = j := by
     rw [seqIndex_neg (by omega) h4] at h1
     rw [List.size_toArray, ← hl]
     exact Option.some.inj h1
   exact subscriptTail_builtinR (x := w) pl.isList.typeIs slot_list_getitem.lookup
     (wpAny_getItem_list_neg (Q := fun r s' => r = w ∧ EP X pins σ Q r s') pl.isList (by omega) (by rw [List.size_toArray] <;> omega) (by omega) (by rw [hj]; simpa using ew) ⟨rfl, fin⟩) hs
theorem ix_tup : IxR X (rIxT X.K) := by
 intro value slice pins s σ H x y v u Q I rx ry h hs
 obtain ⟨p, xs, i, z, rfl, rfl, hq, he, q⟩ := h
 cases rx
 obtain ⟨t, rfl⟩ := ry
 obtain ⟨its, r, pl, hz⟩ := I.tuple hq
 obtain ⟨j, h1, h2, h3, h4, h5⟩ := atI_get he
 obtain ⟨w, ew, rw'⟩ := r.get h2
 have hl := r.length
 have hn := line63
 have fin : EP X pins σ Q w s := ⟨z, H, I, rw', q⟩
 exact subscriptTail_builtinR (x := w) pl.typeIs slot_tuple_getitem.lookup
   (getItem_tuple (j := j) (Q := fun r s' => r = w ∧ EP X pins σ Q r s') pl (by omega) (by omega) (by rw [List.size_toArray, ← hl]; exact h1) (by simpa using ew) ⟨rfl, fin⟩) hs
theorem slice_bounds (lo hi : Option Int) (n : Nat) : (sliceBounds lo hi none n).1 = ((HT.sIx n 0 lo : Nat) : Int) ∧ (sliceBounds lo hi none n).2.1 = ((HT.sIx n n hi : Nat) : Int) ∧ (sliceBounds lo hi none n).2.2 = 1 := by
 refine ⟨?_, ?_, rfl⟩
 · cases lo with
   | none => simp [sliceBounds, HT.sIx]
   | some i =>
     simp only [sliceBounds, HT.sIx, Option.getD_none, show (1 : Int) > 0 by decide, if_true]
     by_cases h : i < 0
     · simp only [h, if_true] <;> omega
     · simp only [h, if_false] <;> omega
 · cases hi with
   | none => simp [sliceBounds, HT.sIx]
   | some i =>
     simp only [sliceBounds, HT.sIx, Option.getD_none, show (1 : Int) > 0 by decide, if_true]
     by_cases h : i < 0
     · simp only [h, if_true] <;> omega
     · simp only [h, if_false] <;> omega
theorem slicePick_cut (its : List Value) (lo hi : Option Int) : slicePick its.toArray lo hi none = ((its.drop (HT.sIx its.length 0 lo)).take (HT.sIx its.length its.length hi - HT.sIx its.length 0 lo)).toArray := by
 obtain ⟨h1, h2, h3⟩ := slice_bounds lo hi its.toArray.size
 unfold slicePick
 rw [h1, h2, h3]
 simp only [sliceRange_one, pick_run, List.size_toArray] <;> rfl
noncomputable def rSlL (K : PySem.W.Frag) : V → Option Int → Option Int → Hp → VK → Prop := fun x lo hi H Q => ∃ a xs, x = .ref a ∧ SqL K H a xs ∧ ∀ p, H p = none → Q (.ref p) (upd H p (.lst (cutV xs lo hi)))
theorem sl_list : SlR X (rSlL X.K) := by
 intro pins s σ H x v vl vu lo hi sl Q I rx hs pl pu h
 obtain ⟨a, xs, rfl, hx, q⟩ := h
 cases rx
 obtain ⟨its, r, ht, hz⟩ := I.list hx
 have hlen := r.length
 refine ⟨"list", _, slot_list_getitem.lookup, ht.isList.typeIs, ?_⟩
 refine wpAny_getItem_list_slice ht.isList hs pl pu .none (by simp) ?_ (by rw [List.size_toArray] <;> omega)
 rw [slicePick_cut, ← hlen]
 refine ⟨.ref s.heap.objs.size, _, I.laid (t' := s.toks) (o := .lst (cutV xs lo hi)) (fun b ob q => Heap.get?_push_of_some _ q) (Nat.le_refl _) ?_, rfl, q _ (I.hok.fresh (Nat.le_refl _))⟩
 exact ⟨Nat.le_trans (cutV_length xs lo hi) hz, _, 0, (r.drop (HT.sIx xs.length 0 lo)).take (HT.sIx xs.length xs.length hi - HT.sIx xs.length 0 lo), Heap.get?_push_size _ rfl⟩
theorem call_len_seq : CallR X (.builtin "len") (fun xs H Q => ∃ p ys, xs = [.ref p] ∧ (SqL X.K H p ys ∨ SqT X.K H p ys) ∧ Q (.int ys.length) H) := by
 intro pins s σ H xs us Q I r h
 obtain ⟨p, ys, rfl, hq, q⟩ := h
 obtain ⟨u, rfl, rx⟩ := vals1 r
 cases rx
 have hn := line63
 rcases hq with hq | hq
 · obtain ⟨its, r', pl, hz⟩ := I.list hq
   have hlen := r'.length
   exact Calls.call_len_list pl.isList (by simp only [List.size_toArray] <;> omega) ⟨.int ys.length, H, I.tok _, ⟨s.toks + 1, by rw [List.size_toArray, hlen]⟩, q⟩
 · obtain ⟨its, r', pl, hz⟩ := I.tuple hq
   have hlen := r'.length
   exact len_tuple pl (by simp only [List.size_toArray] <;> omega) ⟨.int ys.length, H, I.tok _, ⟨s.toks + 1, by rw [List.size_toArray, hlen]⟩, q⟩
theorem call_list_of : CallR X (.type "list") (fun xs H Q => ∃ p ys, xs = [.ref p] ∧ (SqL X.K H p ys ∨ SqT X.K H p ys) ∧ ∀ l, H l = none → Q (.ref l) (upd H l (.lst ys))) := by
 intro pins s σ H xs us Q I r h
 obtain ⟨p, ys, rfl, hq, q⟩ := h
 obtain ⟨u, rfl, rx⟩ := vals1 r
 cases rx
 have fin : ∀ (its : List Value), Vals ys its → ys.length ≤ sizeLine → ∀ (h' : Heap) (c' : Nat), (∀ b o', s.heap.get? b = some o' → h'.get? b = some o') →
     h'.get? s.heap.objs.size = some { cls := .type "list", dict := none, data := .seq its.toArray c', slots := #[] } → EP X pins σ Q (.ref s.heap.objs.size) { s with heap := h' } := fun its r' hz h' c' kp e =>
   ⟨.ref s.heap.objs.size, _, I.laid (t' := s.toks) kp (Nat.le_refl _) (show ObjOk X.prog X.w _ h' _ (.lst ys) from ⟨hz, its, c', r', e⟩), rfl, q _ (I.hok.fresh (Nat.le_refl _))⟩
 rcases hq with hq | hq
 · obtain ⟨its, r', pl, hz⟩ := I.list hq
   have hlen := r'.length
   obtain ⟨o, ho, hc, n, hd⟩ := pl.isList
   exact call_list_seq p (.inl rfl) ho hc hd (fun h' c' kp e => fin its r' hz h' c' kp e) (by simp only [List.size_toArray] <;> omega)
 · obtain ⟨its, r', pl, hz⟩ := I.tuple hq
   have hlen := r'.length
   obtain ⟨o, ho, hc, n, hd⟩ := pl
   exact call_list_seq p (.inr rfl) ho hc hd (fun h' c' kp e => fin its r' hz h' c' kp e) (by simp only [List.size_toArray] <;> omega)
theorem call_tuple_of : CallR X (.type "tuple") (fun xs H Q => ∃ p ys, xs = [.ref p] ∧ ((SqL X.K H p ys ∧ ∀ l, H l = none → Q (.ref l) (upd H l (.tup ys))) ∨ (SqT X.K H p ys ∧ Q (.ref p) H))) := by
 intro pins s σ H xs us Q I r h
 obtain ⟨p, ys, rfl, h⟩ := h
 obtain ⟨u, rfl, rx⟩ := vals1 r
 cases rx
 rcases h with ⟨hq, q⟩ | ⟨hq, q⟩
 · obtain ⟨its, r', pl, hz⟩ := I.list hq
   have hlen := r'.length
   refine call_tuple_list pl.isList (fun h' kp => ?_) (by simp only [List.size_toArray] <;> omega)
   have I1 : Inv X pins σ H { s with heap := h' } := I.kept (t' := s.toks) kp
   have I2 : Inv X pins σ (upd H h'.objs.size (.tup ys)) { s with heap := h'.push { cls := .type "tuple", data := .seq its.toArray } } :=
     I1.laid (t' := s.toks) (fun b o e => Heap.get?_push_of_some _ e) (Nat.le_refl _) (show ObjOk X.prog X.w _ _ _ (.tup ys) from ⟨hz, its, r', IsTupN.new _ _⟩)
   exact ⟨.ref h'.objs.size, _, I2, rfl, q _ (I1.hok.fresh (Nat.le_refl _))⟩
 · obtain ⟨its, r', pl, hz⟩ := I.tuple hq
   exact call_tuple_same pl ⟨.ref p, H, I, rfl, q⟩
noncomputable def tyV (K : PySem.W.Frag) (T : String) (x : V) (H : Hp) : Prop := match x with
 | .str _ => T = "str"
 | .int _ => T = "int"
 | .ref p => (T = "list" ∧ ∃ xs, SqL K H p xs) ∨ (T = "tuple" ∧ ∃ o, K.lookup p = some o ∧ o.cls = .type "tuple" ∧ o.dict = none) ∨
     (T = "dict" ∧ ((∃ kvs, H p = some (.dK kvs)) ∨ ∃ kvs, H p = some (.dT kvs))) ∨ (T = "set" ∧ ∃ S n, H p = some (.set S n))
 | _ => False
theorem tyV_is {pins : List (Addr × Obj)} {σ : St} {H : Hp} {s : Shared} {T : String} {x : V} {v : Value} (I : Inv X pins σ H s) (r : RelV x v) (ty : tyV X.K T x H) :
   s.TypeIs v T ∧ ∀ a, v = .ref a → ∃ ob, s.heap.get? a = some ob ∧ ob.dict = none := by
 cases x with
 | str z =>
   obtain ⟨t, rfl⟩ := r
   cases (show T = "str" from ty)
   exact ⟨typeIs_str s z t, fun _ e => nomatch e⟩
 | int i =>
   obtain ⟨t, rfl⟩ := r
   cases (show T = "int" from ty)
   exact ⟨typeIs_int s i t, fun _ e => nomatch e⟩
 | ref p =>
   cases r
   rcases ty with ⟨rfl, xs, hq⟩ | ⟨rfl, o, hk, hc, hd⟩ | ⟨rfl, hk⟩ | ⟨rfl, S, n, hk⟩
   · obtain ⟨its, _, pl, _⟩ := I.list hq
     refine ⟨pl.isList.typeIs, fun a e => ?_⟩
     cases e
     obtain ⟨o, n, e, c, hd, _⟩ := pl
     exact ⟨o, e, hd⟩
   · refine ⟨⟨o, I.kIn p o hk, hc⟩, fun a e => ?_⟩
     cases e
     exact ⟨o, I.kIn _ o hk, hd⟩
   · have z : ∃ o, s.heap.get? p = some o ∧ o.ExactDict := by
       rcases hk with ⟨kvs, hk⟩ | ⟨kvs, hk⟩
       · obtain ⟨_, _, _, _, o, _, _, e, ex, _⟩ := I.hok p _ hk
         exact ⟨o, e, ex⟩
       · obtain ⟨_, _, _, _, o, _, _, e, ex, _⟩ := I.hok p _ hk
         exact ⟨o, e, ex⟩
     obtain ⟨o, e, ex⟩ := z
     refine ⟨⟨o, e, ex.1⟩, fun a e2 => ?_⟩
     cases e2
     exact ⟨o, e, ex.2.1⟩
   · obtain ⟨o, _, _, _, e, ex, _⟩ := I.hok p _ hk
     refine ⟨⟨o, e, ex.1⟩, fun a e2 => ?_⟩
     cases e2
     exact ⟨o, e, ex.2.1⟩
 | _ => exact False.elim ty
noncomputable def tBM (K : PySem.W.Frag) (T : String) (r : V → List V → Hp → VK → Prop) (to : TE) (t : TA) : TE := fun σ H Q => to σ H fun x H1 => tyV K T x H1 ∧ t σ H1 fun xs H2 => r x xs H2 Q
variable {o e : Expr} {es : List Expr} {to : TE} {t : TA} {name : Str} {apos cpos : Pos} {T id : String} {r : V → List V → Hp → VK → Prop}
theorem pe_bm (pa : PlainAttrs T) (slot : Slot T name id) (hty : typeOf (.builtin id) = pure (.type "method_descriptor")) (hm : MtR X id r) (ho : PE X o to) (ha : PA X (e :: es) t)
   (hbase : attributeBase o name X.env (eval o X.env) = eval o X.env := by rfl)
   (hfew : ((backTo cpos (starEach (e :: es) X.env)).all (fun x => !x.1) && (backToKw cpos (keywordEach [] X.env)).all (fun x => x.1.isSome)
     && decide ((e :: es).length + ([] : List Keyword).length + (if ([] : List Keyword).isEmpty then 0 else 1) < 30)) = true := by rfl)
   (hline : (apos.endLine == cpos.line) = true := by rfl) (hs : starEach (e :: es) X.env = (false, eval e X.env) :: starEach es X.env := by rfl) (hplain : (backTo cpos (starEach es X.env)).any (·.1) = false := by rfl) :
   PE X (.Call (.Attribute o name apos) (e :: es) [] cpos) (tBM X.K T r to t) := by
 intro pins s σ H Q I h
 refine wpAny_Call_method_late hbase hfew hline rfl (thn (ho pins s σ H _ I h) fun v s1 ⟨x, H1, I1, r1, ty, q1⟩ => ?_)
 obtain ⟨h1, h2⟩ := tyV_is I1 r1 ty
 refine ⟨T, id, pa, slot, hty, h1, h2, ?_⟩
 have hA := ha cpos pins s1 σ H1 _ I1 q1
 rw [hs] at hA ⊢
 refine Calls.callWith_builtin (by show (false || (backTo cpos (starEach es X.env)).any (·.1)) = false; rw [hplain] <;> rfl) (Calls.evalArgs_plain ?_)
 exact thn hA fun us s2 ⟨vs, H2, I2, r2, q2⟩ => hm pins s2 σ H2 x vs v us Q I2 r1 r2 q2
end
end L2
namespace L2
open PySem PySem.Spec PyProof.Rows
noncomputable def MtM (X : Cx) (id : String) (r : V → List V → Hp → VK → Prop) : Prop :=
 ∀ (pins : List (Addr × Obj)) (s : Shared) (σ : St) (H : Hp) (x : V) (xs : List V) (v : Value) (us : List Value) (Q : VK), Inv X pins σ H s → RelV x v → Vals xs us → r x xs H Q →
   wpAny (model X.prog X.w) X.A (call (.builtin id) (v :: us)) (EP X pins σ Q) X.xe s
theorem Vals.one : ∀ {x : V} {us : List Value}, Vals [x] us → ∃ u, us = [u] ∧ RelV x u
 | _, _, .cons r .nil => ⟨_, rfl, r⟩
section
variable {X : Cx} {pins : List (Addr × Obj)} {σ : St} {H : Hp} {s : Shared} {l b : Addr} {xs ys zs : List V}
theorem Inv.lset {its its' : List Value} {n : Nat} {f : Array Value → Array Value} {t' : Nat} (I : Inv X pins σ H s) (hH : H l = some (.lst xs))
   (e : s.heap.get? l = some { cls := .type "list", data := .seq its.toArray n }) (hf : f its.toArray = its'.toArray) (hv : Vals ys its') (hz : ys.length ≤ sizeLine) :
   Inv X pins σ (upd H l (.lst ys)) { s with heap := s.heap.update l (Obj.mapSeq f), toks := t' } := by
 have q := PySem.IsL.update e f
 rw [hf] at q
 refine I.write (x := l) (e := l) (by rw [hH]; exact trivial) (.inl rfl) (fun b' u hb hu => (Heap.get?_update_other s.heap (Obj.mapSeq f) (Ne.symm hb)).trans hu) ⟨_, q⟩ ?_
 exact ⟨hz, its', _, hv, q⟩
theorem Inv.lnew {its : List Value} {t' : Nat} (I : Inv X pins σ H s) (hv : Vals ys its) (hz : ys.length ≤ sizeLine) :
   Inv X pins σ (upd H s.heap.objs.size (.lst ys)) { s with heap := s.heap.push { cls := .type "list", data := .seq its.toArray }, toks := t' } :=
 I.laid (fun _ _ q => Heap.get?_push_of_some _ q) (Nat.le_refl _) ⟨hz, its, 0, hv, Heap.get?_push_size _ rfl⟩
theorem Inv.fresh (I : Inv X pins σ H s) : H s.heap.objs.size = none := I.hok.fresh (Nat.le_refl _)
theorem Inv.lstM (I : Inv X pins σ H s) (hH : H l = some (.lst xs)) : xs.length ≤ sizeLine ∧ ∃ (its : List Value) (n : Nat), Vals xs its ∧ xs.length = its.length ∧ s.heap.get? l = some { cls := .type "list", data := .seq its.toArray n } := by
 obtain ⟨z, its, n, r, e⟩ := I.hok l _ hH
 exact ⟨z, its, n, r, r.length, e⟩
end
section
variable {X : Cx}
noncomputable def rAppend : V → List V → Hp → VK → Prop := fun x vs H Q => ∃ l xs y, x = .ref l ∧ vs = [y] ∧ H l = some (.lst xs) ∧ xs.length < sizeLine ∧ Q .non (upd H l (.lst (xs ++ [y])))
theorem mt_append : MtM X "list.append" rAppend := by
 intro pins s σ H x vs v us Q I rx rv h
 obtain ⟨l, xs, y, rfl, rfl, hH, hz, q⟩ := h
 cases rx
 obtain ⟨u, rfl, ru⟩ := rv.one
 obtain ⟨z, its, n, r, hl, e⟩ := I.lstM hH
 refine call_meets F.slot_list_append ⟨_, e, rfl⟩ F.entry_list_append (F.args_list_append_2 _ _) (PySem.list_append l its.toArray n u (by rw [List.size_toArray]; omega)) ⟨e, ?_⟩
 refine ⟨.non, _, I.lset (its' := its ++ [u]) hH e (by simp) (r.append (.cons ru .nil)) ?_, rfl, q⟩
 rw [List.length_append, List.length_singleton]
 omega
end
section
variable {prog : Program} {w : World} {A : Around} {E : Value → Shared → Prop} {s : Shared}
end
section
variable {X : Cx}
end
end L2
namespace Att
open PySem PySem.W PySem.Calls PyProof.Rows
theorem ints_of_wellAll {P : Params} {h : Heap} : ∀ (ns : List Int) (vs : List Value), WellAll P h vs (ns.map WData.int) → IntsAre vs ns := by
 intro ns
 induction ns with
 | nil =>
   intro vs w
   rw [List.map_nil] at w
   cases w
   exact .nil
 | cons n ns ih =>
   intro vs w
   rw [List.map_cons] at w
   cases w with
   | cons a b =>
     cases a
     exact .cons _ _ (ih _ b)
theorem script_of {l : OpenLaw} {n : Nat} (hn : l.most = some n) {P : Params} {h : Heap} {args : List WData} {vals : List Value}
   (hpre : l.row.toRowW.claim.pre args = true) (hwl : WellAll P h vals args) :
   ∃ a vs ns, vals = [Value.ref a] ∧ args = [WData.list (ns.map WData.int)] ∧ h.get? a = some { cls := .type "list", data := .seq vs.toArray } ∧ IntsAre vs ns ∧ ns.length ≤ n := by
 have hsh : WShape.hasAll [] args [.list .int] = true := (pre_splitW hpre).1
 have hc : l.pre.holds [] { args := args } = true := (pre_splitW hpre).2
 obtain ⟨d, r, rfl, h1, h2⟩ := hasAllW_cons hsh
 obtain rfl := hasAllW_nil h2
 obtain ⟨xs, rfl, h3⟩ := hasW_list h1
 obtain ⟨ns, rfl⟩ := items_int h3
 have hlen : ns.length ≤ n := by
   unfold OpenLaw.pre at hc
   have h4 : (WTm.not (.lt (.lit (.int (n : Int))) (.len (.arg 0)))).holds [] { args := [.list (ns.map .int)] } = true := by
     have h4 := (holds_andW hc).1
     rw [hn] at h4
     exact h4
   have h5 := condW_of h4 (w_not (w_lt w_lit (w_len_list (w_arg rfl))))
   rw [List.length_map] at h5
   refine Nat.le_of_not_lt fun q => ?_
   have q' : (n : Int) < ((ns.length : Nat) : Int) := by omega
   first
     | (rw [decide_eq_true q'] at h5; exact absurd h5 (by decide))
     | (simp at h5; omega)
 cases hwl with
 | cons w1 w2 =>
   cases w2
   cases w1 with
   | list ho hall => exact ⟨_, _, ns, rfl, rfl, ho, ints_of_wellAll ns _ hall, hlen⟩
theorem post_true (l : OpenLaw) (args : List WData) : l.row.toRowW.claim.post args (.bool true) args = true :=
 postW_of (r := l.row.toRowW) (X := (true == true))
   (show WShape.has [] (.bool true) .bool = true by first | rfl | decide | simp [WShape.has, WShape.arms, WShape.armsAll])
   (show (WTm.eq .res (.lit (.bool true))).value [] { args := args, res := some (.bool true), after := args } = some (.bool (true == true)) from w_eq_bool (w_res rfl) w_lit) rfl
theorem attach_call {l : OpenLaw} {n : Nat} {q : Program} {loose : List Str} {XP : (Str → Option Value) → Heap → Prop} {YP : World → Heap → Prop} {d : DefRec}
   (hn : l.most = some n) (hdf : d.params.defaults = [])
   (call : ∀ (w : World) (s₀ s₁ : Shared) (mg mb : Str → Option Value) (fa : Addr) (o : Obj) (pm cd doc : Value) (a : Addr) (vs : List Value) (ns : List Int),
     Ground q loose [] XP w s₀ mg mb s₁.heap → YP w s₁.heap →
     s₁.heap.get? fa = some o → o.data = .func (docDef d.name d.params d.body d.scope pm cd doc) → s₁.heap.CodeRec cd d.name → mg d.name = some (.ref fa) →
     s₁.heap.get? a = some { cls := .type "list", data := .seq vs.toArray } → IntsAre vs ns → ns.length ≤ n → s₁.gens = #[] →
     codeAny (model l.prog w) callerA (.call (.ref fa) ⟨[.ref a], []⟩) (fun r s' => r = .ok (.ret (.bool true)) ∧ OldK s₁.heap s'.heap ∧ s'.os = s₁.os ∧ AllBare s'.gens) s₁) :
   WalkO q loose XP YP l.row.toRowW d [] (fun f vs => PySem.call f vs) := by
 intro w s₀ s₁ mg mb G Y fa o pm cd doc dV kV ho hd hcd hD hmg hg args vals as hpre hlay hrd hwl hlo
 obtain rfl : dV = .none := Dflts.none hD hdf
 obtain rfl : kV = .none := Dflts.noKw hD
 obtain ⟨a, vs, ns, rfl, rfl, hobj, hints, hlen⟩ := script_of hn hpre hwl
 refine enter_call (codeAny_mono (call w s₀ s₁ mg mb fa o pm cd doc a vs ns G Y ho (fd_plain hd) hcd hmg hobj hints hlen hg) fun r s' hq => ?_)
 obtain ⟨rfl, h2, h3, h4⟩ := hq
 exact ⟨.inl ⟨.bool true, .bool true, [], rfl, fun _ => rfl, .bool true, post_true l _, fun _ => ⟨List.Pairwise.nil, fun _ hm => (nomatch hm)⟩⟩, h2, h3, h4⟩
section
variable {prog : Program} {w : World} {A : Around} {E : Value → Shared → Prop} {s : Shared} {K : Frag}
end
end Att
namespace L2
open PySem PySem.Spec PyProof.Rows
theorem vals_ints : ∀ {vs : List Value} {ns : List Int}, IntsAre vs ns → Vals (ns.map V.int) vs
 | _, _, .nil => .nil
 | _, _, .cons n t h => .cons ⟨t, rfl⟩ (vals_ints h)
noncomputable def Only (H : Hp) : Prop := ∀ b, H b = none ∨ ∃ o xs, H b = some (.frz o (.lst xs))
theorem law_call {P : Program} {w : World} {K : PySem.W.Frag} {mg mb : Str → Option Value} {CX : CXT} {k : Nat} {fa a : Addr} {fd : FuncData} {x : Str} {sp : Sp} {s₁ : Shared} {vs : List Value} {ns : List Int}
   (KX : K.In s₁.heap) (hns : s₁.heap.Ns mainGlobals mg) (hb : s₁.heap.Ns builtinsNs mb) (hbb : ∀ x : Str, x ≠ "__name__" → mb x = bootBuiltins x) (hlim : s₁.heap.NoLimit) (hg : s₁.gens = #[])
   (ha : s₁.heap.get? a = some { cls := .type "list", data := .seq vs.toArray }) (hi : IntsAre vs ns) (hl : ns.length ≤ sizeLine) (hr : Room k callerA)
   (F : ∀ base : Heap, K.In base → base.Ns mainGlobals mg → FnOk P w K mg base CX k fa fd [x] sp) (hbind : ∀ (s : Shared) (u : Value), BindsTo s fd ⟨[u], []⟩ [(x, u)])
   (hsp : ∀ H : Hp, Only H → SqL K H a (ns.map V.int) → sp [.ref a] H (fun v _ => v = .bl true) fun _ _ _ => False)
   (hCX : ∀ H e s', CX [] H s₁ (fun _ _ _ => False) e s' → False) :
   codeAny (model P w) callerA (.call (.ref fa) ⟨[.ref a], []⟩) (fun r s' => r = .ok (.ret (.bool true)) ∧ OldK s₁.heap s'.heap ∧ s'.os = s₁.os ∧ AllBare s'.gens) s₁ := by
 have rv := vals_ints hi
 have lenV := hi.length
 have core : ∀ H : Hp, Only H → SqL K H a (ns.map V.int) → HOk P w H s₁.heap → (∀ b, H b ≠ none → b = a) → (H a ≠ none → K.lookup a = none) →
     codeAny (model P w) callerA (.call (.ref fa) ⟨[.ref a], []⟩) (fun r s' => r = .ok (.ret (.bool true)) ∧ OldK s₁.heap s'.heap ∧ s'.os = s₁.os ∧ AllBare s'.gens) s₁ := by
   intro H hO hS hok hA hK
   have base_of : ∀ {b : Addr} {o : Obj}, s₁.heap.get? b = some o → H b = none → (hidT s₁.heap H).get? b = some o := fun e n => hidT_get e n
   have noA : ∀ {b : Addr} {o : Obj} {es : Array DictEntry} {ep : Nat}, s₁.heap.get? b = some o → o.data = .dict es ep → H b = none := fun {b o es ep} e d => by
     cases q : H b with
     | none => rfl
     | some u =>
       have e' : b = a := hA b (by rw [q]; simp)
       subst e'
       rw [ha] at e; cases e
       have d' : Data.seq vs.toArray _ = Data.dict es ep := d
       cases d'
   have nsK : ∀ {b : Addr} {m : Str → Option Value}, s₁.heap.Ns b m → (hidT s₁.heap H).Ns b m := fun {b m} ⟨o, es, ep, e, d, r⟩ => ⟨o, es, ep, base_of e (noA e d), d, r⟩
   have hKb : K.In (hidT s₁.heap H) := fun b o e => base_of (KX b o e) (by
     cases q : H b with
     | none => rfl
     | some u =>
       have e' : b = a := hA b (by rw [q]; simp)
       subst e'
       rw [hK (by rw [q]; simp)] at e; cases e)
   have hM : Mod K mg (hidT s₁.heap H) := ⟨hKb, nsK hns, ⟨mb, nsK hb, hbb⟩, let ⟨mc, h1, h2⟩ := hlim; ⟨mc, nsK h1, h2⟩⟩
   have e0 : Env0 P w K mg (hidT s₁.heap H) callerA [] s₁ H := ⟨rfl, hM, fun b o e => of_hidT e, Nat.le_of_eq (hidT_size _ _), trivial, fun b hb => absurd (show b ∈ ([] : List Addr) from hb) (by simp), hok, .of_eq hg⟩
   refine codeAny_mono ((F _ hKb (nsK hns)).run callerA [] s₁ H ⟨[.ref a], []⟩ [.ref a] [.ref a] _ _ hr e0 (hbind s₁ (.ref a)) (.cons rfl .nil) (hsp H hO hS)) fun r s' h => ?_
   cases r with
   | error e => exact (hCX H e s' h).elim
   | ok fl =>
     cases fl with
     | next => exact False.elim h
     | brk => exact False.elim h
     | cont => exact False.elim h
     | ret u =>
       obtain ⟨v, H', os, bare, un, hok', r', q⟩ := h
       have q' : v = .bl true := q
       subst q'
       obtain rfl : u = Value.bool true := r'
       refine ⟨rfl, OldK.of_keep fun b o e => ?_, os, bare⟩
       cases q : H b with
       | none => exact un.keep b o e q (by intro z; exact absurd (show b ∈ ([] : List Addr) from z) (by simp)) (by simp)
       | some u =>
         rcases hO b with z | ⟨ob, xs, z⟩
         · rw [q] at z; cases z
         · have z2 := un.frzs b ob _ z
           obtain ⟨e1, _⟩ := hok b _ z
           obtain ⟨e2, _⟩ := hok' b _ z2
           rw [e] at e1; cases e1
           exact e2
 cases hk : K.lookup a with
 | some o =>
   have e := KX a o hk
   rw [ha] at e
   cases e
   refine core (fun _ => none) (fun _ => .inl rfl) (.inr ⟨_, vs.toArray, _, hk, rfl, rfl, rfl, by rw [List.size_toArray, lenV]; exact hl, by simpa using rv⟩) (fun b u z => by have z' : (none : Option HO) = some u := z; cases z') (fun b z => absurd rfl z) fun z => absurd rfl z
 | none =>
   refine core (fun b => if b = a then some (.frz { cls := .type "list", data := .seq vs.toArray } (.lst (ns.map V.int))) else none) (fun b => ?_) (.inl (.inr ⟨{ cls := .type "list", data := .seq vs.toArray }, if_pos rfl⟩)) (fun b u z => ?_) (fun b z => ?_) fun _ => hk
   · by_cases hb : b = a
     · exact .inr ⟨_, _, if_pos hb⟩
     · exact .inl (if_neg hb)
   · by_cases hb : b = a
     · have z' := (if_pos hb).symm.trans z
       cases z'
       subst hb
       exact ⟨ha, by rw [List.length_map]; exact hl, vs, _, rv, ha⟩
     · have z' := (if_neg hb).symm.trans z
       cases z'
   · by_cases hb : b = a
     · exact hb
     · exact absurd (if_neg hb) z
end L2
namespace L2
open PySem PySem.Spec PyProof.Rows
theorem walk_of {l : PySem.W.OpenLaw} {n k : Nat} {q : Program} {loose : List Str} {XP : (Str → Option Value) → Heap → Prop} {YP : World → Heap → Prop} {d : DefRec} {K : Params → PySem.W.Frag} {CX : World → CXT} {sp : World → Sp} {x : Str}
   (hn : l.most = some n) (hn2 : n ≤ sizeLine) (hdf : d.params.defaults = []) (hr : Room k callerA)
   (hY : ∀ (w : World) (h : Heap), YP w h → (K w.params).In h)
   (F : ∀ (w : World) (mg : Str → Option Value) (fa : Addr) (h : Heap), (K w.params).In h → h.Ns mainGlobals mg → mg d.name = some (.ref fa) →
     ∃ fd : FuncData, (∀ (s : Shared) (u : Value), BindsTo s fd ⟨[u], []⟩ [(x, u)]) ∧
       ∀ base : Heap, (K w.params).In base → base.Ns mainGlobals mg → FnOk l.prog w (K w.params) mg base (CX w) k fa fd [x] (sp w))
   (hsp : ∀ (w : World) (H : Hp) (a : Addr) (ns : List Int), ns.length ≤ n → Only H → SqL (K w.params) H a (ns.map V.int) → sp w [.ref a] H (fun v _ => v = .bl true) fun _ _ _ => False)
   (hCX : ∀ (w : World) (H : Hp) (s : Shared) (e : Value) (s' : Shared), CX w [] H s (fun _ _ _ => False) e s' → False) :
   PySem.W.WalkO q loose XP YP l.row.toRowW d [] (fun f vs => PySem.call f vs) := by
 refine Att.attach_call hn hdf fun w s₀ s₁ mg mb fa o pm cd doc a vs ns G Y ho hd hcd hmg hobj hints hlen hg => ?_
 have KX := hY w _ Y
 obtain ⟨fd, hb, hF⟩ := F w mg fa _ KX G.T.g hmg
 exact law_call KX G.T.g G.T.b G.T.builtins G.T.nolimit hg hobj hints (Nat.le_trans hlen hn2) hr hF hb (fun H hO hS => hsp w H a ns hlen hO hS) fun H e s' => hCX w H s₁ e s'
end L2
namespace L2
open PySem PySem.Spec PyProof.Rows
noncomputable def defArgs (s : Stmt) : Arguments := match s with
 | .FunctionDef _ a _ _ _ _ _ _ _ _ => a
 | _ => { posonlyargs := [], args := [], vararg := none, kwonlyargs := [], kw_defaults := [], kwarg := none, defaults := [] }
noncomputable def defBody (s : Stmt) : List Stmt := match s with
 | .FunctionDef _ _ b _ _ _ _ _ _ _ => b
 | _ => []
noncomputable def defScope (s : Stmt) : Scope := match s with
 | .FunctionDef _ _ _ _ _ _ sc _ _ _ => sc
 | _ => { kind := .function, names := [], isGenerator := false, isCoroutine := false }
noncomputable abbrev CX0 : CXT := fun _ _ _ _ _ _ => False
noncomputable abbrev E0 : XK := fun _ _ _ => False
theorem pass0 {X : Cx} : Passes CX0 X E0 := fun _ _ _ _ _ _ _ h => h.elim
structure Fun (K : PySem.W.Frag) (x qual : Str) (st : Stmt) (f : Addr) (fd : FuncData) : Prop where
 ex : ∃ (oc : Value) (od : Option Addr) (kV doc pm : Value) (an : Option Addr) (cdv ct : Value) (osl : Array (Option Value)),
   fd = PySem.W.fnOf x qual (defArgs st) (defBody st) (defScope st) .none kV doc pm an cdv ct ∧ K.lookup f = some ⟨oc, od, .func fd, osl⟩ ∧ PySem.W.codeIn K cdv qual = true
 kp : PySem.W.keepIn K (.ref f) = true
section
variable {P : Program} {w : World} {K : PySem.W.Frag} {mg : Str → Option Value} {base : Heap}
theorem Fun.ok {x qual : Str} {st : Stmt} {f : Addr} {fd : FuncData} {N ps : List Str} {k : Nat} {sp : Sp} (F : Fun K x qual st f fd) (S : FnScope N ps (defScope st)) (len : ∀ vs H Q E, sp vs H Q E → vs.length = ps.length)
   (hbody : ∀ (cdv : Value) (A : Around) (outer : List Env) (s : Shared) (H : Hp) (vs : List V) (Q : VK) (E : XK), Room k (A.deeper (envOfC qual (defScope st) s.heap.objs.size f cdv)) → sp vs H Q E →
     ∃ t, PSs (cxOf CX0 P w K mg base N qual (defScope st) f cdv A outer s H E).nox (defBody st) t ∧ t { nx := fun _ H' => Q .non H', rt := Q } (start N vs) H) : FnOk P w K mg base CX0 (k + 1) f fd ps sp := by
 obtain ⟨oc, od, kV, doc, pm, an, cdv, ct, osl, rfl, lk, hcd⟩ := F.ex
 refine fn_of lk hcd S len fun A outer s H vs Q E hr hsp => ?_
 obtain ⟨t, h, q⟩ := hbody cdv A outer s H vs Q E hr hsp
 exact ⟨t, h.nox, q⟩
theorem Fun.binds {x qual : Str} {st : Stmt} {f : Addr} {fd : FuncData} {ps : List Str} (F : Fun K x qual st f fd)
   (h : ∀ (kV doc pm : Value) (an : Option Addr) (cdv ct : Value) (us : List Value), us.length = ps.length → bindArgs (PySem.W.fnOf x qual (defArgs st) (defBody st) (defScope st) .none kV doc pm an cdv ct) ⟨us, []⟩ = pure (ps.zip us)) : Binds K fd ps [] := by
 obtain ⟨oc, od, kV, doc, pm, an, cdv, ct, osl, rfl, lk, hcd⟩ := F.ex
 exact .all (h kV doc pm an cdv ct)
theorem fun_mk {x qual : Str} {st : Stmt} {f : Addr} {oc : Value} {od an : Option Addr} {osl : Array (Option Value)} {kV doc pm cdv ct : Value} (l : K.lookup f = some ⟨oc, od, .func (PySem.W.fnOf x qual (defArgs st) (defBody st) (defScope st) .none kV doc pm an cdv ct), osl⟩)
   (c : PySem.W.codeIn K cdv qual = true) (k : PySem.W.keepIn K (.ref f) = true) : Fun K x qual st f (PySem.W.fnOf x qual (defArgs st) (defBody st) (defScope st) .none kV doc pm an cdv ct) := ⟨⟨oc, od, kV, doc, pm, an, cdv, ct, osl, rfl, l, c⟩, k⟩
end
section
variable {X : Cx}
theorem pv (i : Nat) {x : Str} {pos : Pos} (hN : X.N[i]? = some x := by rfl) (hv : Vis X.env.scope x := by first | exact Or.inl rfl | exact Or.inr (Or.inl rfl) | exact Or.inr (Or.inr rfl)) (hd : (x == ("__debug__" : Str)) = false := by decide)
   (hcd : (x == ("__classdict__" : Str)) = false := by decide) : PE X (.Name x pos) (tVar i) := pe_var hN hv hd hcd
end
theorem ite2 {c A B : Prop} [Decidable c] (h1 : c → A) (h2 : ¬ c → B) : if c then A else B := by
 by_cases h : c
 · rw [if_pos h]
   exact h1 h
 · rw [if_neg h]
   exact h2 h
noncomputable def Same (H H' : Hp) : Prop := ∀ b o, H b = some o → H' b = some o
theorem Same.refl (H : Hp) : Same H H := fun _ _ h => h
theorem Same.trans {H H1 H2 : Hp} (a : Same H H1) (b : Same H1 H2) : Same H H2 := fun c o h => b c o (a c o h)
theorem Same.free {H H' : Hp} (e : Same H H') {l : Addr} (h : H' l = Option.none) : H l = Option.none := by
 cases q : H l with
 | none => rfl
 | some o =>
   rw [e l o q] at h
   cases h
theorem Same.seq {K : PySem.W.Frag} {H H' : Hp} {a : Addr} {xs : List V} (e : Same H H') (h : SqL K H a xs) : SqL K H' a xs := by
 rcases h with (h | ⟨o, h⟩) | h
 · exact .inl (.inl (e _ _ h))
 · exact .inl (.inr ⟨o, e _ _ h⟩)
 · exact .inr h
end L2
namespace L2
open PySem PySem.Spec PyProof.Rows
section
variable {κ : Type} [DecidableEq κ]
noncomputable def valV (kvs : List (κ × V)) (k : κ) : Option V := (kvs.find? fun kv => decide (kv.1 = k)).map (·.2)
noncomputable def putK (kvs : List (κ × V)) (k : κ) (v : V) : List (κ × V) :=
 if (kvs.any fun kv => decide (kv.1 = k)) = true then kvs.map (fun kv => if kv.1 = k then (kv.1, v) else kv) else kvs ++ [(k, v)]
theorem valV_pos {p : κ × V} {r : List (κ × V)} {k : κ} (e : p.1 = k) : valV (p :: r) k = some p.2 := by simp [valV, List.find?_cons, e]
theorem valV_neg {p : κ × V} {r : List (κ × V)} {k : κ} (e : ¬ p.1 = k) : valV (p :: r) k = valV r k := by simp [valV, List.find?_cons, e]
theorem valV_any (k : κ) : ∀ kvs : List (κ × V), (kvs.any fun kv => decide (kv.1 = k)) = (valV kvs k).isSome
 | [] => rfl
 | p :: r => by
   rw [List.any_cons]
   by_cases e : p.1 = k
   · simp only [valV_pos e, decide_eq_true e, Bool.true_or, Option.isSome_some]
   · rw [valV_neg e, decide_eq_false e, Bool.false_or]; exact valV_any k r
theorem length_putK (kvs : List (κ × V)) (k : κ) (v : V) : (putK kvs k v).length ≤ kvs.length + 1 := by
 unfold putK
 split
 · rw [List.length_map]; omega
 · rw [List.length_append, List.length_cons, List.length_nil]; omega
theorem RelO.isSome_eq {o : Option V} {u : Option Value} (r : RelO o u) : o.isSome = u.isSome := by
 cases o with
 | none => cases u with
   | none => rfl
   | some _ => exact (show False from r).elim
 | some _ => cases u with
   | none => exact (show False from r).elim
   | some _ => rfl
theorem RelO.getD {o : Option V} {u : Option Value} {d : V} {d' : Value} (r : RelO o u) (rd : RelV d d') : RelV (o.getD d) (u.getD d') := by
 cases o with
 | none => cases u with
   | none => exact rd
   | some _ => exact (show False from r).elim
 | some _ => cases u with
   | none => exact (show False from r).elim
   | some _ => exact r
theorem KV.val {kvs : List (κ × V)} {vs : List (κ × Value)} (r : KV kvs vs) (k : κ) : RelO (valV kvs k) (valueAt vs k) := by
 unfold KV at r
 induction r with
 | nil => exact True.intro
 | @cons p q ps qs h t ih =>
   obtain ⟨h1, h2⟩ := h
   by_cases e : p.1 = k
   · have e' : q.1 = k := h1.symm.trans e
     have b : valueAt (q :: qs) k = some q.2 := by simp [valueAt, List.find?_cons, e']
     rw [valV_pos e, b]; exact h2
   · have e' : ¬ q.1 = k := fun z => e (h1.trans z)
     have b : valueAt (q :: qs) k = valueAt qs k := by simp [valueAt, List.find?_cons, e']
     rw [valV_neg e, b]; exact ih
theorem KV.any {kvs : List (κ × V)} {vs : List (κ × Value)} (r : KV kvs vs) (k : κ) : (kvs.any fun kv => decide (kv.1 = k)) = vs.any fun kv => decide (kv.1 = k) := by
 unfold KV at r
 induction r with
 | nil => rfl
 | cons h t ih => rw [List.any_cons, List.any_cons, ih, h.1]
theorem KV.repl {kvs : List (κ × V)} {vs : List (κ × Value)} (r : KV kvs vs) (k : κ) {y : V} {u : Value} (ry : RelV y u) :
   KV (kvs.map fun kv => if kv.1 = k then (kv.1, y) else kv) (vs.map fun kv => if kv.1 = k then (kv.1, u) else kv) := by
 unfold KV at r ⊢
 induction r with
 | nil => exact .nil
 | @cons p q ps qs h t ih =>
   rw [List.map_cons, List.map_cons]
   refine .cons ?_ ih
   obtain ⟨h1, h2⟩ := h
   by_cases e : p.1 = k
   · rw [if_pos e, if_pos (h1.symm.trans e)]; exact ⟨h1, ry⟩
   · rw [if_neg e, if_neg (fun z => e (h1.trans z))]; exact ⟨h1, h2⟩
theorem KV.put {kvs : List (κ × V)} {vs : List (κ × Value)} (r : KV kvs vs) (k : κ) {y : V} {u : Value} (ry : RelV y u) : KV (putK kvs k y) (stored vs k u) := by
 unfold putK stored
 rw [r.any k]
 by_cases e : (vs.any fun kv => decide (kv.1 = k)) = true
 · rw [if_pos e, if_pos e]; exact r.repl k ry
 · rw [if_neg e, if_neg e]; exact Paired.snoc r ⟨rfl, ry⟩
theorem KV.keys {kvs : List (κ × V)} {vs : List (κ × Value)} (r : KV kvs vs) : kvs.map (·.1) = vs.map (·.1) := by
 unfold KV at r
 induction r with
 | nil => rfl
 | cons h t ih => rw [List.map_cons, List.map_cons, ih, h.1]
theorem KV.length {kvs : List (κ × V)} {vs : List (κ × Value)} (r : KV kvs vs) : kvs.length = vs.length := Paired.length r
end
theorem kV_is {P : Program} {w : World} {k : Key} {u : Value} (r : RelV (kV k) u) : (mixKind P w).is k u = true := by
 cases k with
 | inl i => obtain ⟨t, e⟩ := (show ∃ t, u = Value.int i t from r); subst e; exact mixKind_int P w i t
 | inr x => obtain ⟨t, e⟩ := (show ∃ t, u = Value.str x t from r); subst e; exact mixKind_str P w x t
theorem items_are {P : Program} {w : World} : ∀ {ks : List Key} {us : List Value}, Vals (ks.map kV) us → ItemsAre (mixKind P w) ks us
 | [], _, r => by rw [List.map_nil] at r; cases r; exact .nil
 | k :: ks, _, r => by
   rw [List.map_cons] at r
   cases r with
   | cons h t => exact .cons (kV_is h) (items_are t)
noncomputable abbrev KT (H : Hp) : List (List Key × V) → List (List Key × Addr × Value) → Prop := Paired fun p q => p.1 = q.1 ∧ H q.2.1 = some (.tup (p.1.map kV)) ∧ RelV p.2 q.2.2
theorem KT.val {H : Hp} {kvs : List (List Key × V)} {xs : List (List Key × Addr × Value)} (r : KT H kvs xs) (k : List Key) : RelO (valV kvs k) ((atKey xs k).map (·.2)) := by
 induction r with
 | nil => exact True.intro
 | @cons p q ps qs h t ih =>
   obtain ⟨h1, _, h2⟩ := h
   by_cases e : p.1 = k
   · have e' : q.1 = k := h1.symm.trans e
     have b : atKey (q :: qs) k = some q.2 := by simp [atKey, List.find?_cons, e']
     rw [valV_pos e, b]; exact h2
   · have e' : ¬ q.1 = k := fun z => e (h1.trans z)
     have b : atKey (q :: qs) k = atKey qs k := by simp [atKey, List.find?_cons, e']
     rw [valV_neg e, b]; exact ih
theorem KT.repl {H : Hp} {kvs : List (List Key × V)} {xs : List (List Key × Addr × Value)} (r : KT H kvs xs) (k : List Key) {y : V} {u : Value} (ry : RelV y u) :
   KT H (kvs.map fun kv => if kv.1 = k then (kv.1, y) else kv) (xs.map (putAt k u)) := by
 induction r with
 | nil => exact .nil
 | @cons p q ps qs h t ih =>
   rw [List.map_cons, List.map_cons]
   refine .cons ?_ ih
   obtain ⟨h1, h2, h3⟩ := h
   unfold putAt
   by_cases e : p.1 = k
   · rw [if_pos e, if_pos (h1.symm.trans e)]; exact ⟨h1, h2, ry⟩
   · rw [if_neg e, if_neg (fun z => e (h1.trans z))]; exact ⟨h1, h2, h3⟩
theorem KT.put {H : Hp} {kvs : List (List Key × V)} {xs : List (List Key × Addr × Value)} (r : KT H kvs xs) (k : List Key) {b : Addr} {y : V} {u : Value} (hb : H b = some (.tup (k.map kV))) (ry : RelV y u) :
   KT H (putK kvs k y) (storedH xs k b u) := by
 have e : (kvs.any fun kv => decide (kv.1 = k)) = (atKey xs k).isSome := by
   rw [valV_any, (r.val k).isSome_eq, Option.isSome_map]
 unfold putK storedH
 rw [e]
 by_cases q : (atKey xs k).isSome = true
 · rw [if_pos q, if_pos q]; exact r.repl k ry
 · rw [if_neg q, if_neg q]; exact Paired.snoc r ⟨rfl, hb, ry⟩
theorem KT.keeps {H H' : Hp} {kvs : List (List Key × V)} {xs : List (List Key × Addr × Value)} (r : KT H kvs xs) (ht : ∀ b ys, H b = some (.tup ys) → H' b = some (.tup ys)) : KT H' kvs xs :=
 Paired.mapP r fun _ _ z => ⟨z.1, ht _ _ z.2.1, z.2.2⟩
section
variable {P : Program} {w : World} {H : Hp} {h : Heap} {a : Addr}
theorem rd_of {u : HO} (ok : HOk P w H h) (e : Rd H a u) : ObjOk P w H h a u := e.ok ok
theorem dk_rd {kvs : List (Key × V)} (ok : HOk P w H h) (e : Rd H a (.dK kvs)) : kvs.length ≤ sizeLine ∧ (a == sysModules) = false ∧ ∃ vs, KV kvs vs ∧ h.DictOf (mixKind P w) a vs :=
 show ObjOk P w H h a (.dK kvs) from rd_of ok e
theorem dk_of {kvs : List (Key × V)} (ok : HOk P w H h) (e : H a = some (.dK kvs)) : kvs.length ≤ sizeLine ∧ (a == sysModules) = false ∧ ∃ vs, KV kvs vs ∧ h.DictOf (mixKind P w) a vs := dk_rd ok (.inl e)
theorem key_of {ks : List Key} (ok : HOk P w H h) (e : H a = some (.tup (ks.map kV))) : (tupleKind (mixKind P w)).is h ks a := by
 obtain ⟨_, its, r, o, h1, h2, _, n, h3⟩ := (show ObjOk P w H h a (.tup (ks.map kV)) from ok a _ e)
 exact ⟨o, its.toArray, n, h1, h2, h3, by simpa using items_are r⟩
theorem dt_rd {kvs : List (List Key × V)} (ok : HOk P w H h) (e : Rd H a (.dT kvs)) : kvs.length ≤ sizeLine ∧ (a == sysModules) = false ∧
   ∃ xs, KT H kvs xs ∧ h.DictOfH (tupleKind (mixKind P w)) a xs := by
 obtain ⟨z, y, xs, r, o, es, ep, h1, h2, h3, h4, h5⟩ := (show ObjOk P w H h a (.dT kvs) from rd_of ok e)
 refine ⟨z, y, xs, r, o, es, ep, h1, h2, h3, h4, fun x hx => ?_, h5⟩
 have all : ∀ {l : List (List Key × V)} {m : List (List Key × Addr × Value)}, KT H l m → ∀ x ∈ m, (tupleKind (mixKind P w)).is h x.1 x.2.1 := by
   intro l m q
   induction q with
   | nil => intro x hx; exact nomatch hx
   | @cons p q ps qs hq t ih =>
     intro x hx
     rcases List.mem_cons.mp hx with e | hx
     · subst e
       exact key_of ok (by rw [← hq.1]; exact hq.2.1)
     · exact ih x hx
 exact all r x hx
theorem dt_of {kvs : List (List Key × V)} (ok : HOk P w H h) (e : H a = some (.dT kvs)) : kvs.length ≤ sizeLine ∧ (a == sysModules) = false ∧
   ∃ xs, KT H kvs xs ∧ h.DictOfH (tupleKind (mixKind P w)) a xs := dt_rd ok (.inl e)
end
noncomputable def DGet (H : Hp) (a : Addr) (y : V) (r : Option V) : Prop :=
 (∃ kvs k, Rd H a (.dK kvs) ∧ y = kV k ∧ r = valV kvs k) ∨ ∃ kvs k b, Rd H a (.dT kvs) ∧ y = .ref b ∧ H b = some (.tup (k.map kV)) ∧ r = valV kvs k
noncomputable def DPut (H : Hp) (a : Addr) (y v : V) (H' : Hp) : Prop :=
 (∃ kvs k, H a = some (.dK kvs) ∧ y = kV k ∧ kvs.length < sizeLine ∧ H' = upd H a (.dK (putK kvs k v))) ∨
 ∃ kvs k b, H a = some (.dT kvs) ∧ y = .ref b ∧ H b = some (.tup (k.map kV)) ∧ kvs.length < sizeLine ∧ H' = upd H a (.dT (putK kvs k v))
theorem DGet.k {H : Hp} {a : Addr} {kvs : List (Key × V)} {k : Key} (e : H a = some (.dK kvs)) : DGet H a (kV k) (valV kvs k) := .inl ⟨kvs, k, .inl e, rfl, rfl⟩
theorem DPut.k {H : Hp} {a : Addr} {kvs : List (Key × V)} {k : Key} {v : V} (e : H a = some (.dK kvs)) (hl : kvs.length < sizeLine) : DPut H a (kV k) v (upd H a (.dK (putK kvs k v))) := .inl ⟨kvs, k, e, rfl, hl, rfl⟩
section
variable {X : Cx} {pins : List (Addr × Obj)} {σ : St} {H : Hp} {s : Shared} {a : Addr} {y v : V} {u r : Value} {o : Option V} {A : Around} {E : Value → Shared → Prop}
theorem Inv.big (I : Inv X pins σ H s) : sysModules < s.heap.objs.size := by
 have h : mainGlobals < s.heap.objs.size := (I.mod.glob.keeps I.bk).lt
 exact Nat.lt_trans (by decide) h
theorem d_getItem {Q : Value → Shared → Prop} (hu : A.units + 1 < cLine) (I : Inv X pins σ H s) (g : DGet H a y (some v)) (ry : RelV y u) (h : ∀ w' s', Inv X pins σ H s' → RelV v w' → Q w' s') :
   wpAny (model X.prog X.w) A (getItem (.ref a) u) Q E s := by
 rcases g with ⟨kvs, k, e, ey, l⟩ | ⟨kvs, k, b, e, ey, eb, l⟩
 · subst ey
   obtain ⟨z, hd, vs, rel, dd⟩ := dk_rd I.hok e
   obtain ⟨w', hw, rw'⟩ := RelO.some_of (v := v) (o := valueAt vs k) (by rw [l]; exact rel.val k)
   exact wpAny_getItem_of (kV_is ry) dd.mapOf hw (h w' _ (I.tok _) rw')
 · subst ey
   cases (show u = Value.ref b from ry)
   obtain ⟨z, hd, xs, rel, dd⟩ := dt_rd I.hok e
   obtain ⟨w', hw, rw'⟩ := RelO.some_of (v := v) (o := (atKey xs k).map (·.2)) (by rw [l]; exact rel.val k)
   obtain ⟨p, hp, hp2⟩ := Option.map_eq_some_iff.mp hw
   refine wpAny_getItem_heap (tupleKind_room_in1 hu) (key_of I.hok eb) dd hp ?_
   rw [hp2]
   exact h w' _ (I.tok _) rw'
theorem d_notIn {Q : Value → Shared → Prop} (hu : A.units + 1 < cLine) (I : Inv X pins σ H s) (g : DGet H a y o) (ry : RelV y u) (h : ∀ s', Inv X pins σ H s' → Q (.bool (!o.isSome)) s') :
   wpAny (model X.prog X.w) A (compareOp .NotIn u (.ref a)) Q E s := by
 rcases g with ⟨kvs, k, e, ey, l⟩ | ⟨kvs, k, b, e, ey, eb, l⟩
 · subst ey
   obtain ⟨z, hd, vs, rel, dd⟩ := dk_rd I.hok e
   refine wpAny_notIn_of (kV_is ry) hd dd.mapOf ?_
   rw [← (rel.val k).isSome_eq, ← l]
   exact h _ (I.tok _)
 · subst ey
   cases (show u = Value.ref b from ry)
   obtain ⟨z, hd, xs, rel, dd⟩ := dt_rd I.hok e
   refine wpAny_notIn_heap (tupleKind_room_in1 hu) (key_of I.hok eb) hd dd ?_
   have q := (rel.val k).isSome_eq
   rw [Option.isSome_map] at q
   rw [← q, ← l]
   exact h _ (I.tok _)
theorem d_write {h' : Heap} {t' : Nat} {ob : HO} (I : Inv X pins σ H s) (mu : Mut (H a)) (hs : Heap.SameBut a s.heap h') (he : ∃ q, h'.get? a = some q) (new : ObjOk X.prog X.w (upd H a ob) h' a ob) :
   Inv X pins σ (upd H a ob) { s with heap := h', toks := t' } :=
 I.write (x := a) (e := a) mu (.inl rfl) (fun b q hb z => (hs.2 b hb).trans z) he new
theorem dk_new {P : Program} {w : World} {H' : Hp} {h' : Heap} {kvs : List (Key × V)} {vs : List (Key × Value)} (z : kvs.length ≤ sizeLine) (hd : (a == sysModules) = false) (rel : KV kvs vs) (dd : h'.DictOf (mixKind P w) a vs) :
   ObjOk P w H' h' a (.dK kvs) := ⟨z, hd, vs, rel, dd⟩
theorem d_setItem {H' : Hp} {Q : Unit → Shared → Prop} (hu : A.units + 1 < cLine) (I : Inv X pins σ H s) (g : DPut H a y v H') (ry : RelV y u) (rv : RelV v r) (h : ∀ s', Inv X pins σ H' s' → Q () s') :
   wpAny (model X.prog X.w) A (setItem (.ref a) u r) Q E s := by
 rcases g with ⟨kvs, k, e, ey, l, eH⟩ | ⟨kvs, k, b, e, ey, eb, l, eH⟩
 · subst ey eH
   obtain ⟨z, hd, vs, rel, dd⟩ := dk_of I.hok e
   have hz : vs.length ≤ sizeLine := by rw [← rel.length]; exact z
   have hl : (putK kvs k v).length ≤ sizeLine := by have := length_putK kvs k v; omega
   refine wpAny_setItem_pairs (hsz := hz) (kV_is ry) dd fun h' dd' hs => h _ ?_
   have he : ∃ q, h'.get? a = some q := let ⟨q, _, _, hq, _⟩ := dd'; ⟨q, hq⟩
   exact d_write I (by rw [e]; exact True.intro) hs he (dk_new hl hd (rel.put k rv) dd')
 · subst ey eH
   cases (show u = Value.ref b from ry)
   obtain ⟨z, hd, xs, rel, dd⟩ := dt_of I.hok e
   have hz : xs.length ≤ sizeLine := by rw [← Paired.length rel]; exact z
   have hl : (putK kvs k v).length ≤ sizeLine := by have := length_putK kvs k v; omega
   refine wpAny_setItem_heap (hsz := hz) (tupleKind_room_in1 hu) (key_of I.hok eb) dd fun h' dd' hs => h _ ?_
   obtain ⟨q, es, ep, hq, h2, h3, h4, _, h5⟩ := dd'
   refine d_write I (by rw [e]; exact True.intro) hs ⟨q, hq⟩ ⟨hl, hd, _, (rel.put k eb rv).keeps fun c ys ec => ?_, q, es, ep, hq, h2, h3, h4, h5⟩
   rw [upd_ne (ne_of ec e (fun z => nomatch z))]
   exact ec
end
section
variable {X : Cx} {pins : List (Addr × Obj)} {σ : St} {H : Hp} {s : Shared} {a : Addr} {kvs : List (Key × V)} {k : Key} {u : Value} {A : Around} {E : Value → Shared → Prop}
theorem d_len {Q : Value → Shared → Prop} (I : Inv X pins σ H s) (e : Rd H a (.dK kvs)) (h : ∀ t s', Inv X pins σ H s' → Q (.int kvs.length t) s') : wpAny (model X.prog X.w) A (call (.builtin "len") [.ref a]) Q E s := by
 obtain ⟨z, hd, vs, rel, dd⟩ := dk_rd I.hok e
 refine call_len_dict hd dd (by rw [← rel.length]; rw [sizeLine_eq] at z; omega) ?_
 rw [← rel.length]
 exact h _ _ (I.tok _)
end
noncomputable def NoSl (i : Expr) : Prop := ∀ ov iv, subscripted i false ov iv = operate [ov, iv] (getItem ov iv)
theorem subD_of {prog : Program} {w : World} {A : Around} {E : Value → Shared → Prop} {s : Shared} {env : Env} {value slice : Expr} {pos : Pos} {T id : String} {Q : Value → Shared → Prop}
   (hl : typeLookup (.type T) "__getitem__" = pure (some (.builtin id))) (hs : NoSl slice)
   (h : wpAny (model prog w) A (eval value env) (fun o s₁ => wpAny (model prog w) A (eval slice env) (fun i s₂ => s₂.TypeIs o T ∧ wpAny (model prog w) A (getItem o i) Q E s₂) E s₁) E s) :
   wpAny (model prog w) A (eval (.Subscript value slice pos) env) Q E s := by
 refine Subscript_ (wpAny_mono h (fun o s₁ h₁ => wpAny_mono h₁ (fun i s₂ h₂ => ?_) fun _ _ x => x) fun _ _ x => x)
 obtain ⟨hT, h₂⟩ := h₂
 unfold subscriptTail
 refine wpAny_bind ?_
 rw [getitemInPython_of_ne hT.not_modules]
 refine wpAny_bind (wpAny_specialOf hT hl ?_)
 have fin : wpAny (model prog w) A (subscripted slice false o i) (fun r s₃ => wpAny (model prog w) A (letTemporaryGo value o r >>= fun _ => pure r) Q E s₃) E s₂ := by
   rw [hs o i]
   exact wpAny_operating (wpAny_mono h₂ (fun r s₃ h₃ => wpAny_bind (wpAny_letTemporaryGo (wpAny_pure h₃))) fun _ _ x => x)
 first
   | exact wpAny_pure (wpAny_bind fin)
   | exact wpAny_bind (wpAny_pure (wpAny_bind fin))
   | exact wpAny_bind fin
theorem dict_typeIs {X : Cx} {pins : List (Addr × Obj)} {σ : St} {H : Hp} {s : Shared} {a : Addr} {y : V} {o : Option V} (I : Inv X pins σ H s) (g : DGet H a y o) : s.TypeIs (.ref a) "dict" := by
 rcases g with ⟨kvs, k, e, _, _⟩ | ⟨kvs, k, b, e, _, _, _⟩
 · obtain ⟨_, _, vs, _, dd⟩ := dk_rd I.hok e
   exact dd.typeIs
 · obtain ⟨_, _, xs, _, dd⟩ := dt_rd I.hok e
   exact dd.typeIs
noncomputable def tDGet (td ty : TE) : TE := fun σ H Q => td σ H fun x H1 => ty σ H1 fun y H2 => ∃ a v, x = .ref a ∧ DGet H2 a y (some v) ∧ Q v H2
noncomputable def sDPut (td ty tv : TE) : TS := fun D σ H => tv σ H fun v H1 => td σ H1 fun x H2 => ty σ H2 fun y H3 => ∃ a H4, x = .ref a ∧ DPut H3 a y v H4 ∧ D.nx σ H4
section
variable {X : Cx} {o i e value : Expr} {pos pos' tpos : Pos} {td ty tv : TE}
theorem pe_dget (hu : X.A.units + 1 < cLine) (ho : PE X o td) (hi : PE X i ty) (hs : NoSl i) : PE X (.Subscript o i pos) (tDGet td ty) := by
 intro pins s σ H Q I h
 refine subD_of PySem.F.slot_dict_getitem.lookup hs (thn (ho pins s σ H _ I h) fun u s1 ⟨x, H1, I1, rx, q1⟩ => thn (hi pins s1 σ H1 _ I1 q1) fun iv s2 ⟨y, H2, I2, ry, a, v, ex, g, q2⟩ => ?_)
 subst ex
 obtain rfl : u = Value.ref a := rx
 exact ⟨dict_typeIs I2 g, d_getItem hu I2 g ry fun w' s3 I3 rw' => ⟨v, H2, I3, rw', q2⟩⟩
theorem ps_dput (hu : X.A.units + 1 < cLine) (ho : PE X o td) (hi : PE X i ty) (hv : PE X value tv) (hs : swapsWith value (some (.Subscript o i pos')) pos.line X.env = pure false) :
   PS X (.Assign [.Subscript o i pos'] value pos) (sDPut td ty tv) := by
 intro pins s σ H D I h
 refine wpAny_Assign_Subscript (thn (hv pins s σ H _ I h) fun r s1 ⟨v, H1, I1, rv, q1⟩ => thn (ho pins s1 σ H1 _ I1 q1) fun u s2 ⟨x, H2, I2, rx, q2⟩ => thn (hi pins s2 σ H2 _ I2 q2) fun iv s3 ⟨y, H3, I3, ry, a, H4, ex, g, q3⟩ => ?_) hs
 subst ex
 obtain rfl : u = Value.ref a := rx
 exact d_setItem hu I3 g ry rv fun s4 I4 => ⟨σ, H4, I4, q3⟩
end
theorem dk_empty {P : Program} {w : World} {H : Hp} (h : Heap) (hb : sysModules < h.objs.size) : ObjOk P w H (h.push { cls := .type "dict", data := .dict #[] }) h.objs.size (.dK []) :=
 ⟨Nat.zero_le _, beq_eq_false_iff_ne.mpr (Ne.symm (Nat.ne_of_lt hb)), [], .nil, Heap.DictOf.new h⟩
noncomputable def tDNewK : TE := fun _ H Q => ∀ p, H p = none → Q (.ref p) (upd H p (.dK []))
section
variable {X : Cx} {pos : Pos}
theorem pe_dnewK : PE X (.Dict [] [] pos) tDNewK := fun pins s σ H Q I h =>
 wpAny_Dict_empty ⟨.ref s.heap.objs.size, _, I.laid (a := s.heap.objs.size) (o := .dK []) (t' := s.toks) (fun _ _ q => Heap.get?_push_of_some _ q) (Nat.le_refl _) (dk_empty s.heap I.big), rfl, h _ (I.hok.fresh (Nat.le_refl _))⟩
end
noncomputable def tPairs : List (TE × TE) → St → Hp → (List (V × V) → Hp → Prop) → Prop
 | [], _, H, Q => Q [] H
 | (tk, tv) :: r, σ, H, Q => tk σ H fun x H1 => tv σ H1 fun y H2 => tPairs r σ H2 fun ps H3 => Q ((x, y) :: ps) H3
noncomputable abbrev VV : List (V × V) → List (Value × Value) → Prop := Paired fun p q => RelV p.1 q.1 ∧ RelV p.2 q.2
noncomputable def PPs (X : Cx) (pos : Pos) (keys : List (Option Expr)) (values : List Expr) (trs : List (TE × TE)) : Prop :=
 ∀ (pins : List (Addr × Obj)) (s : Shared) (σ : St) (H : Hp) (Q : List (V × V) → Hp → Prop), Inv X pins σ H s → tPairs trs σ H Q →
   wpAny (model X.prog X.w) X.A (evalPairs (pairTrees keys values X.env pos)) (fun vs s' => ∃ ps H', Inv X pins σ H' s' ∧ VV ps vs ∧ Q ps H') X.xe s
theorem pps_nil {X : Cx} {pos : Pos} : PPs X pos [] [] [] := fun pins s σ H Q I h => pairTrees_nil_walk ⟨[], H, I, .nil, h⟩
theorem pps_cons {X : Cx} {pos : Pos} {k v : Expr} {ks : List (Option Expr)} {vs : List Expr} {tk tv : TE} {trs : List (TE × TE)} (hk : PE X k tk) (hv : PE X v tv) (hr : PPs X pos ks vs trs) :
   PPs X pos (some k :: ks) (v :: vs) ((tk, tv) :: trs) := fun pins s σ H Q I h =>
 pairTrees_cons_walk (thn (hk pins s σ H _ I h) fun u s1 ⟨x, H1, I1, rx, q1⟩ => thn (hv pins s1 σ H1 _ I1 q1) fun w2 s2 ⟨y, H2, I2, ry, q2⟩ =>
   thn (hr pins s2 σ H2 _ I2 q2) fun ws s3 ⟨ps, H3, I3, rel, q3⟩ => ⟨(x, y) :: ps, H3, I3, .cons ⟨rx, ry⟩ rel, q3⟩)
noncomputable def mergeK (kvs more : List (Key × V)) : List (Key × V) := more.foldl (fun acc kv => putK acc kv.1 kv.2) kvs
theorem KV.merge : ∀ {more : List (Key × V)} {rs : List (Key × Value)} {kvs : List (Key × V)} {vs : List (Key × Value)}, KV more rs → KV kvs vs → KV (mergeK kvs more) (merged vs rs) := by
 intro more rs kvs vs r
 unfold KV at r
 induction r generalizing kvs vs with
 | nil => intro q; exact q
 | @cons p q ps qs h t ih =>
   intro r0
   have e : KV (putK kvs p.1 p.2) (stored vs q.1 q.2) := by
     have := r0.put p.1 h.2
     rw [← h.1]; exact this
   exact ih e
theorem length_mergeK : ∀ (more kvs : List (Key × V)), (mergeK kvs more).length ≤ kvs.length + more.length
 | [], kvs => by show kvs.length ≤ kvs.length + 0; omega
 | p :: r, kvs => by
   have h1 := length_mergeK r (putK kvs p.1 p.2)
   have h2 := length_putK kvs p.1 p.2
   show (mergeK (putK kvs p.1 p.2) r).length ≤ _
   rw [List.length_cons]; omega
theorem carries_of {P : Program} {w : World} : ∀ {kvs : List (Key × V)} {ws : List (Value × Value)}, VV (kvs.map fun kv => (kV kv.1, kv.2)) ws → ∃ rs, Carries (mixKind P w) ws rs ∧ KV kvs rs
 | [], _, r => by rw [List.map_nil] at r; cases r; exact ⟨[], True.intro, .nil⟩
 | p :: kvs, _, r => by
   rw [List.map_cons] at r
   cases r with
   | @cons a b as bs h t =>
     obtain ⟨rs, c, q⟩ := carries_of (P := P) (w := w) t
     obtain ⟨b1, b2⟩ := b
     exact ⟨(p.1, b2) :: rs, ⟨kV_is h.1, rfl, c⟩, .cons ⟨rfl, h.2⟩ q⟩
noncomputable def tDisp (trs : List (TE × TE)) : TE := fun σ H Q => ∀ p, H p = none → tPairs trs σ (upd H p (.dK [])) fun ps H2 => H2 p = some (.dK []) ∧ ∃ kvs : List (Key × V), ps = kvs.map (fun kv => (kV kv.1, kv.2)) ∧ kvs.length ≤ 15 ∧ Q (.ref p) (upd H2 p (.dK (mergeK [] kvs)))
theorem pe_disp {X : Cx} {pos : Pos} {keys : List (Option Expr)} {values : List Expr} {trs : List (TE × TE)} (h : PPs X pos keys values trs) (hall : keys.all (·.isSome) = true) (hl : keys.length = values.length) (h0 : keys ≠ [])
   (h15 : keys.length ≤ 15) : PE X (.Dict keys values pos) (tDisp trs) := by
 intro pins s σ H Q I q
 have hn := I.hok.fresh (Nat.le_refl s.heap.objs.size)
 have I1 := I.laid (a := s.heap.objs.size) (o := .dK []) (h' := s.heap.push { cls := .type "dict", data := .dict #[] }) (t' := s.toks) (fun _ _ q => Heap.get?_push_of_some _ q) (Nat.le_refl _) (dk_empty s.heap I.big)
 refine wpAny_Dict_walk (knd := mixKind X.prog X.w) hall hl h0 h15 (thn (h pins _ σ _ _ I1 (q _ hn)) fun ws s2 ⟨ps, H2, I2, rel, e, kvs, ep, lk, q2⟩ => ?_)
 subst ep
 obtain ⟨rs, c, rk⟩ := carries_of (P := X.prog) (w := X.w) rel
 obtain ⟨z, hd, vs0, r0, dd⟩ := dk_of I2.hok e
 cases r0
 refine ⟨rs, c, dd, fun h' dd' hs => ⟨.ref s.heap.objs.size, _, ?_, rfl, q2⟩⟩
 have hz : (mergeK [] kvs).length ≤ sizeLine := by
   have h1 := length_mergeK kvs []
   rw [List.length_nil] at h1
   rw [sizeLine_eq]; omega
 have he : ∃ q, h'.get? s.heap.objs.size = some q := let ⟨q, _, _, hq, _⟩ := dd'; ⟨q, hq⟩
 exact d_write I2 (by rw [e]; exact True.intro) hs he (dk_new hz hd (rk.merge .nil) dd')
structure M2 (X : Cx) (o : Expr) (m : Str) (apos : Pos) (e f : Expr) (cpos : Pos) : Prop where
 base : attributeBase o m X.env (eval o X.env) = eval o X.env
 few : ((backTo cpos (starEach [e, f] X.env)).all (fun x => !x.1) && (backToKw cpos (keywordEach [] X.env)).all (fun x => x.1.isSome)
   && decide (([e, f] : List Expr).length + ([] : List Keyword).length + (if ([] : List Keyword).isEmpty then 0 else 1) < 30)) = true
 line : (apos.endLine == cpos.line) = true
 trees : backTo cpos (starEach [e, f] X.env) = [(false, eval e X.env), (false, eval f X.env)]
noncomputable def IsD (H : Hp) (a : Addr) : Prop := (∃ kvs, Rd H a (.dK kvs)) ∨ ∃ kvs, Rd H a (.dT kvs)
theorem isD_at {X : Cx} {pins : List (Addr × Obj)} {σ : St} {H : Hp} {s : Shared} {a : Addr} (I : Inv X pins σ H s) (d : IsD H a) :
   s.TypeIs (.ref a) "dict" ∧ (∀ b, Value.ref a = .ref b → ∃ ob, s.heap.get? b = some ob ∧ ob.dict = none) ∧ (a == sysModules) = false := by
 rcases d with ⟨kvs, e⟩ | ⟨kvs, e⟩
 · obtain ⟨_, hd, vs, _, dd⟩ := dk_rd I.hok e
   refine ⟨dd.typeIs, fun b q => ?_, hd⟩
   cases q
   obtain ⟨ob, _, _, h1, h2, _⟩ := dd
   exact ⟨ob, h1, h2.2.1⟩
 · obtain ⟨_, hd, xs, _, dd⟩ := dt_rd I.hok e
   refine ⟨dd.typeIs, fun b q => ?_, hd⟩
   cases q
   obtain ⟨ob, _, _, h1, h2, _⟩ := dd
   exact ⟨ob, h1, h2.2.1⟩
section
variable {X : Cx} {pins : List (Addr × Obj)} {σ : St} {H : Hp} {s : Shared} {a : Addr} {y d : V} {u r : Value} {o : Option V} {A : Around} {E : Value → Shared → Prop}
theorem d_get2 {Q : Value → Shared → Prop} (hu : A.units + 1 < cLine) (I : Inv X pins σ H s) (g : DGet H a y o) (ry : RelV y u) (rd : RelV d r) (h : ∀ w' s', Inv X pins σ H s' → RelV (o.getD d) w' → Q w' s') :
   wpAny (model X.prog X.w) A (call (.builtin "dict.get") [.ref a, u, r]) Q E s := by
 rcases g with ⟨kvs, k, e, ey, l⟩ | ⟨kvs, k, b, e, ey, eb, l⟩
 · subst ey
   obtain ⟨z, hd, vs, rel, dd⟩ := dk_rd I.hok e
   refine call_meetsIn PySem.F.slot_dict_get dd.typeIs PySem.F.entry_dict_get (PySem.F.args_dict_get_3 _ _ _) (meets_dict_get_default (mixKind X.prog X.w) a (kV_is ry) hd r) ⟨_, dd.mapOf, h _ _ (I.tok _) ?_⟩
   rw [l]
   exact (rel.val k).getD rd
 · subst ey
   cases (show u = Value.ref b from ry)
   obtain ⟨z, hd, xs, rel, dd⟩ := dt_rd I.hok e
   refine call_meetsIn PySem.F.slot_dict_get dd.typeIs PySem.F.entry_dict_get (PySem.F.args_dict_get_3 _ _ _) (meetsH_dict_get_default (tupleKind (mixKind X.prog X.w)) a b hd r) ⟨tupleKind_room_in1 hu, k, xs, key_of I.hok eb, dd, h _ _ (I.tok _) ?_⟩
   rw [l]
   exact (rel.val k).getD rd
end
noncomputable def tDGet2 (td ty tx : TE) : TE := fun σ H Q => td σ H fun x H1 => ∃ a, x = .ref a ∧ IsD H1 a ∧ ty σ H1 fun y H2 => tx σ H2 fun z H3 => ∃ o, DGet H3 a y o ∧ Q (o.getD z) H3
section
variable {X : Cx} {o e f : Expr} {apos cpos : Pos} {td ty tx : TE}
theorem pe_dget2 (hu : X.A.units + 1 < cLine) (ho : PE X o td) (he : PE X e ty) (hf : PE X f tx) (m : M2 X o "get" apos e f cpos) : PE X (.Call (.Attribute o "get" apos) [e, f] [] cpos) (tDGet2 td ty tx) := by
 intro pins s σ H Q I h
 refine wpAny_Call_method m.base m.few m.line PySem.F.plainAttrs_dict PySem.F.slot_dict_get PySem.F.type_dict_get (thn (ho pins s σ H _ I h) fun u s1 ⟨x, H1, I1, rx, a, ex, d, q1⟩ => ?_)
 subst ex
 obtain rfl : u = Value.ref a := rx
 obtain ⟨t1, t2, _⟩ := isD_at I1 d
 refine ⟨t1, t2, ?_⟩
 rw [m.trees]
 refine Calls.callWith_builtin rfl (Calls.evalArgs_plain (Calls.spliced_cons (thn (he pins s1 σ H1 _ I1 q1) fun iv s2 ⟨y, H2, I2, ry, q2⟩ =>
   Calls.spliced_cons (thn (hf pins s2 σ H2 _ I2 q2) fun fv s3 ⟨z, H3, I3, rz, ov, g, q3⟩ => Calls.spliced_nil ?_))))
 exact d_get2 hu I3 g ry rz fun w' s4 I4 rw' => ⟨_, H3, I4, rw', q3⟩
end
section
variable {X : Cx} {pins : List (Addr × Obj)} {σ : St} {H : Hp} {s : Shared} {a : Addr} {kvs : List (Key × V)} {A : Around} {E : Value → Shared → Prop}
theorem d_copyOf {Q : Value → Shared → Prop} (I : Inv X pins σ H s) (e : Rd H a (.dK kvs)) (h : ∀ p s', H p = none → Inv X pins σ (upd H p (.dK kvs)) s' → Q (.ref p) s') : wpAny (model X.prog X.w) A (call (.type "dict") [.ref a]) Q E s := by
 obtain ⟨z, hd, vs, rel, dd⟩ := dk_rd I.hok e
 refine kt_call_dict hd dd (by rw [← rel.length]; exact z) fun h' dd' hs => ?_
 refine h _ _ (I.hok.fresh (Nat.le_refl _)) (I.laid (a := s.heap.objs.size) (o := .dK kvs) (t' := s.toks) (fun b q hq => ?_) (Nat.le_refl _) (dk_new z (beq_eq_false_iff_ne.mpr (Ne.symm (Nat.ne_of_lt I.big))) rel dd'))
 exact (hs.2 b (Nat.ne_of_lt (Heap.lt_size hq))).trans (Heap.get?_push_of_some _ hq)
end
section
variable {X : Cx} {pins : List (Addr × Obj)} {σ : St} {H : Hp} {s : Shared} {a : Addr} {y : V} {u : Value} {A : Around} {E : Value → Shared → Prop}
end
end L2
namespace L2
open PySem PySem.Spec PyProof.Rows
section
variable {X : Cx}
theorem call_lenD : CallR X (.builtin "len") (fun xs H Q => ∃ a kvs, xs = [V.ref a] ∧ H a = some (.dK kvs) ∧ Q (.int kvs.length) H) := by
 intro pins s σ H xs us Q I r h
 obtain ⟨a, kvs, rfl, ha, q⟩ := h
 obtain ⟨u, rfl, ru⟩ := vals1 r
 cases ru
 exact d_len I (.inl ha) fun t s' I' => ⟨.int kvs.length, H, I', ⟨t, rfl⟩, q⟩
end
end L2
namespace L2
open PySem PySem.Spec PyProof.Rows
noncomputable def clOf (cells : List (Str × Addr)) : List (Str × NameKind) → List (Str × Addr) → List (Str × Addr)
 | [], acc => acc
 | (n, k) :: r, acc => clOf cells r (if (k == NameKind.free) = true then (n, (cells.lookup n).getD 0) :: acc else acc)
theorem closure_ok {sc : Scope} {env : Env} (h : ∀ n, (n, NameKind.free) ∈ sc.names → ∃ c, env.cells.lookup n = some c) : closureFor sc env = pure (clOf env.cells sc.names []) := by
 have all : ∀ (l : List (Str × NameKind)) (acc : List (Str × Addr)), (∀ n, (n, NameKind.free) ∈ l → ∃ c, env.cells.lookup n = some c) →
     (forIn l acc fun (x : Str × NameKind) (cs : List (Str × Addr)) => match x with
       | (name, kind) => if (kind == NameKind.free) = true then (do let c ← cellOf env name; pure (ForInStep.yield ((name, c) :: cs))) else pure (ForInStep.yield cs)) = (pure (clOf env.cells l acc) : Sem _) := by
   intro l
   induction l with
   | nil => intro acc _; rfl
   | cons x r ih =>
     intro acc hl
     obtain ⟨n, k⟩ := x
     rw [List.forIn_cons]
     by_cases hk : (k == NameKind.free) = true
     · have hk' : k = NameKind.free := by simpa using hk
       subst hk'
       obtain ⟨c, hc⟩ := hl n List.mem_cons_self
       have e1 : cellOf env n = pure c := by unfold cellOf; rw [hc]
       simp only [beq_self_eq_true, if_true, e1, pure_bind]
       rw [ih _ fun m hm => hl m (List.mem_cons_of_mem _ hm)]
       show _ = (pure (clOf env.cells r (if (NameKind.free == NameKind.free) = true then (n, (env.cells.lookup n).getD 0) :: acc else acc)) : Sem _)
       rw [if_pos (by simp), hc]
       rfl
     · have hk2 : (k == NameKind.free) = false := by simpa using hk
       simp only [hk2, Bool.false_eq_true, if_false, pure_bind]
       rw [ih _ fun m hm => hl m (List.mem_cons_of_mem _ hm)]
       show _ = (pure (clOf env.cells r (if (k == NameKind.free) = true then (n, (env.cells.lookup n).getD 0) :: acc else acc)) : Sem _)
       rw [if_neg hk]
 have := all sc.names [] h
 unfold closureFor
 dsimp only
 rw [this, pure_bind]
theorem lookup_clOf {cells : List (Str × Addr)} {x : Str} {c : Addr} : ∀ {l : List (Str × NameKind)} {acc : List (Str × Addr)}, (∀ n, (n, NameKind.free) ∈ l → ∃ c, cells.lookup n = some c) →
   (acc.lookup x = some c → cells.lookup x = some c) → (clOf cells l acc).lookup x = some c → cells.lookup x = some c
 | [], _, _, ha, h => ha h
 | (n, k) :: r, acc, hl, ha, h => by
   refine lookup_clOf (l := r) (fun m hm => hl m (List.mem_cons_of_mem _ hm)) ?_ h
   by_cases hk : (k == NameKind.free) = true
   · rw [if_pos hk]
     have hk' : k = NameKind.free := by simpa using hk
     subst hk'
     obtain ⟨d, hd⟩ := hl n List.mem_cons_self
     intro e
     rw [List.lookup_cons] at e
     cases hx : x == n with
     | true =>
       rw [hx] at e
       have hxn : x = n := by simpa using hx
       subst hxn
       rw [hd] at e ⊢
       exact e
     | false => rw [hx] at e; exact ha e
   · rw [if_neg hk]; exact ha
theorem clOf_has {cells : List (Str × Addr)} {x : Str} : ∀ {l : List (Str × NameKind)} {acc : List (Str × Addr)}, ((x, NameKind.free) ∈ l ∨ ∃ c, acc.lookup x = some c) → ∃ c, (clOf cells l acc).lookup x = some c
 | [], _, h => by
   rcases h with h | h
   · exact nomatch h
   · exact h
 | (n, k) :: r, acc, h => by
   refine clOf_has (l := r) ?_
   by_cases hk : (k == NameKind.free) = true
   · rw [if_pos hk]
     by_cases hx : (x == n) = true
     · exact .inr ⟨(cells.lookup n).getD 0, by rw [List.lookup_cons, hx]⟩
     · have hx2 : (x == n) = false := by simpa using hx
       rcases h with h | ⟨c, h⟩
       · rcases List.mem_cons.mp h with e | e
         · have e1 : x = n := congrArg Prod.fst e
           exact absurd (by simp [e1]) hx
         · exact .inl e
       · exact .inr ⟨c, by rw [List.lookup_cons, hx2]; exact h⟩
   · rw [if_neg hk]
     rcases h with h | h
     · rcases List.mem_cons.mp h with e | e
       · have e2 : NameKind.free = k := congrArg Prod.snd e
         exact absurd (by simp [← e2]) hk
       · exact .inl e
     · exact .inr h
noncomputable def compCx (X : Cx) (sc : Scope) (N' : List Str) (C : Addr) (s₀ : Shared) (H₀ : Hp) (fp : List Addr) : Cx where
 prog := X.prog
 w := X.w
 K := X.K
 mg := X.mg
 base := X.base
 A := X.A
 N := N'
 s₀ := s₀
 H₀ := H₀
 env := compEnvC sc (clOf X.env.cells sc.names []) C X.env
 outer := X.stack
 stack := X.stack
 ex := fp
 fn := fun _ => false
 calm := X.calm
 pn := []
 xe := fun _ _ => False
noncomputable def capS (cap : List (Option Nat)) (σ : St) : St := cap.map fun o => o.bind fun j => (σ[j]?).join
structure CapOk (X : Cx) (sc : Scope) (N' : List Str) (cap : List (Option Nat)) : Prop where
 kind : sc.kind = .function
 len : cap.length = N'.length
 nocell : ∀ x ∈ sc.names, x.2 ≠ NameKind.cell
 locals : ∀ x ∈ sc.names, x.2 = NameKind.local → sc.names.lookup x.1 = some NameKind.local
 free : ∀ n, (n, NameKind.free) ∈ sc.names → X.env.kindOf n = some .cell ∨ X.env.kindOf n = some .free
 slots : ∀ (i j : Nat) (x : Str), N'[i]? = some x → cap[i]? = some (some j) → X.N[j]? = some x ∧ ((relabel sc X.env).names.lookup x = some .cell ∨ (relabel sc X.env).names.lookup x = some .free) ∧ Vis X.env.scope x
section
variable {X : Cx} {sc : Scope} {N' : List Str} {cap : List (Option Nat)} {pins : List (Addr × Obj)} {σ : St} {H : Hp} {s : Shared} {C : Addr} {fp : List Addr}
theorem CapOk.cells (c : CapOk X sc N' cap) (ok : X.Ok) : ∀ n, (n, NameKind.free) ∈ sc.names → ∃ c, X.env.cells.lookup n = some c := fun n hn => ok.has n (c.free n hn)
theorem relabel_mem {env : Env} {x : Str} {k : NameKind} (hnc : ∀ x ∈ sc.names, x.2 ≠ NameKind.cell) (h : (relabel sc env).names.lookup x = some k) (hk : k = .cell ∨ k = .free) : (x, NameKind.free) ∈ sc.names := by
 have all : ∀ (l : List (Str × NameKind)), (∀ x ∈ l, x.2 ≠ NameKind.cell) → (l.map fun (n, k) => if (k == NameKind.free && env.scope.kind == .function && env.kindOf n == some .cell) then (n, NameKind.cell) else (n, k)).lookup x = some k → (x, NameKind.free) ∈ l := by
   intro l
   induction l with
   | nil => intro _ h; exact nomatch h
   | cons p r ih =>
     intro hn h
     obtain ⟨n, q⟩ := p
     rw [List.map_cons, List.lookup_cons] at h
     by_cases hc : (q == NameKind.free && env.scope.kind == .function && env.kindOf n == some .cell) = true
     · have hq : q = NameKind.free := by
         have := hc
         simp only [Bool.and_eq_true] at this
         simpa using this.1.1
       simp only [hc, if_true] at h
       cases hx : x == n with
       | true =>
         have e : x = n := by simpa using hx
         rw [e, hq]
         exact List.mem_cons_self
       | false =>
         rw [hx] at h
         exact List.mem_cons_of_mem _ (ih (fun y hy => hn y (List.mem_cons_of_mem _ hy)) h)
     · simp only [hc] at h
       cases hx : x == n with
       | true =>
         have e : x = n := by simpa using hx
         simp only [Bool.false_eq_true, if_false, hx] at h
         have e2 : q = k := by simpa using h
         rcases hk with z | z
         · exact absurd (e2.trans z) (hn (n, q) List.mem_cons_self)
         · rw [e, ← z, ← e2]
           exact List.mem_cons_self
       | false =>
         simp only [Bool.false_eq_true, if_false, hx] at h
         exact List.mem_cons_of_mem _ (ih (fun y hy => hn y (List.mem_cons_of_mem _ hy)) h)
 exact all sc.names hnc h
theorem comp_ok (c : CapOk X sc N' cap) (I : Inv X pins σ H s) (hC : s.heap.objs.size ≤ C) (hf : ∀ b ∈ fp, FpOk X pins H b) (hb : ∀ b ∈ fp, b < s.heap.objs.size) : (compCx X sc N' C s H fp).Ok where
 mod := I.ok.mod
 kind := c.kind
 glob := I.ok.glob
 blt := I.ok.blt
 above := hC
 inj := fun x y a hx hy => I.ok.inj x y a (lookup_clOf (c.cells I.ok) (fun z => by simp at z) hx) (lookup_clOf (c.cells I.ok) (fun z => by simp at z) hy)
 has := fun x hx => by
   refine clOf_has (.inl ?_)
   rcases hx with hx | hx
   · exact relabel_mem c.nocell hx (.inl rfl)
   · exact relabel_mem c.nocell hx (.inr rfl)
 cab := fun _ _ h => nomatch h
 hd := I.ok.hd
 frames := I.ok.frames
 stk := .inl rfl
 exf := fun b hb' => ⟨Nat.ne_of_lt (Nat.lt_of_lt_of_le (hb b hb') hC), fun x a e => (hf b hb').2.2.2.2.1 x a (lookup_clOf (c.cells I.ok) (fun z => by simp at z) e)⟩
 bs := I.bs
 bsz := Nat.le_trans I.ok.bsz I.sz
 noex := fun b o e hb' => by
   rcases (hf b hb').2.2.2.1 with z | z
   · exact I.ok.noex b o e z
   · exact absurd (Nat.lt_of_lt_of_le (Heap.lt_size e) (Nat.le_trans I.ok.bsz z)) (Nat.lt_irrefl _)
 exfs := fun b hb' z => by
   obtain ⟨_, f1, f2, _⟩ := hf b hb'
   rcases List.mem_cons.mp (I.stkSub b z) with e | e
   · exact f1 e
   · exact f2 e
 funs := I.stack
 frf := I.stkFree
theorem comp_inv (c : CapOk X sc N' cap) (I : Inv X pins σ H s) {D : Addr} {h1 : Heap} {t : Nat} (hC : C = s.heap.objs.size + 1) (hD : D = s.heap.objs.size) (hf : ∀ b ∈ fp, FpOk X pins H b) (hb : ∀ b ∈ fp, b < s.heap.objs.size)
   (hn : h1.Ns C fun _ => none) (hl : h1.get? D = some { cls := .type "list", data := .seq #[] 0 }) (k : ∀ b o, s.heap.get? b = some o → h1.get? b = some o) :
   Inv (compCx X sc N' C s H fp) [] (capS cap σ) (upd H D (.lst [])) { s with heap := h1, toks := t } := by
 have hCs : s.heap.objs.size ≤ C := by rw [hC]; exact Nat.le_succ _
 have hCD : C ≠ D := by rw [hC, hD]; exact Nat.succ_ne_self _
 have ok := comp_ok (C := C) (fp := fp) c I hCs hf hb
 have hDn : H D = none := by rw [hD]; exact I.fresh
 have ltc : ∀ x a, (clOf X.env.cells sc.names []).lookup x = some a → X.env.cells.lookup x = some a := fun x a e => lookup_clOf (c.cells I.ok) (fun z => by simp at z) e
 have cel : ∀ a v, s.heap.IsCell a v → h1.IsCell a v := fun a v ⟨o, ho, hd⟩ => ⟨o, k a o ho, hd⟩
 have ltD : ∀ a v, s.heap.IsCell a v → a ≠ D := fun a v ⟨o, ho, hd⟩ => by rw [hD]; exact Nat.ne_of_lt (Heap.lt_size ho)
 refine ⟨ok, rfl, I.bare, Un.laid k (by rw [hD]; exact Nat.le_refl _) hDn, ⟨_, hn, fun i x v e1 e2 e3 => ?_⟩, fun x a e => ?_, ?_, fun x a e => ?_, fun p hp => absurd hp (by simp [compCx]), ?_, ?_⟩
 · have e2' : cap[i]?.map (fun o => o.bind fun j => (σ[j]?).join) = some (some v) := by
     have := e2
     unfold capS at this
     rw [List.getElem?_map] at this
     exact this
   cases hc : cap[i]? with
   | none => rw [hc] at e2'; cases e2'
   | some o =>
     rw [hc] at e2'
     cases o with
     | none => cases e2'
     | some j =>
       have e4 : (σ[j]?).join = some v := by simpa using e2'
       obtain ⟨q1, q2', q3⟩ := c.slots i j x e1 hc
       have q2 : (x, NameKind.free) ∈ sc.names := q2'.elim (fun z => relabel_mem c.nocell z (.inl rfl)) fun z => relabel_mem c.nocell z (.inr rfl)
       obtain ⟨m, hm, hl'⟩ := I.loc
       have e5 : σ[j]? = some (some v) := by
         cases z : σ[j]? with
         | none => rw [z] at e4; cases e4
         | some y => rw [z] at e4; cases y with
           | none => cases e4
           | some y' => cases e4; rfl
       obtain ⟨u, r, l⟩ := hl' j x v q1 e5 q3
       refine ⟨u, r, ?_⟩
       obtain ⟨a, ha⟩ := clOf_has (cells := X.env.cells) (l := sc.names) (acc := []) (x := x) (.inl q2)
       have kd : X.env.kindOf x = some .cell ∨ X.env.kindOf x = some .free := c.free x q2
       rcases l with ⟨hk, _⟩ | ⟨hk, a', ha', hcell⟩
       · rcases kd with z | z <;> rw [z] at hk <;> cases hk
       · have e6 : a' = a := by
           have := ltc x a ha
           rw [ha'] at this
           exact Option.some.inj this
         refine .inr ⟨q2', a, ha, ?_⟩
         rw [← e6]
         exact cel _ _ hcell
 · obtain ⟨v, z⟩ := I.cell x a (ltc x a e)
   exact ⟨v, cel a v z⟩
 · show upd H D (.lst []) C = none
   rw [upd_ne hCD]
   exact I.hok.fresh hCs
 · show upd H D (.lst []) a = none
   obtain ⟨v, z⟩ := I.cell x a (ltc x a e)
   rw [upd_ne (ltD a v z)]
   exact I.freeC x a (ltc x a e)
 · exact I.hok.laid k (by rw [hD]; exact Nat.le_refl _) ⟨Nat.zero_le _, [], 0, .nil, hl⟩
 · show (capS cap σ).length = N'.length
   unfold capS
   rw [List.length_map, c.len]
end
end L2
namespace L2
open PySem PySem.Spec PyProof.Rows
noncomputable def capB (osc : Scope) (N : List Str) (sc : Scope) (N' : List Str) (cap : List (Option Nat)) : Bool :=
 decide (sc.kind = .function) && decide (cap.length = N'.length) && sc.names.all (fun x => decide (x.2 ≠ NameKind.cell)) && sc.names.all (fun x => decide (x.2 = NameKind.local → sc.names.lookup x.1 = some NameKind.local)) &&
 sc.names.all (fun x => decide (x.2 = NameKind.free → (osc.names.lookup x.1 = some .cell ∨ osc.names.lookup x.1 = some .free))) &&
 (N'.zip cap).all (fun p => match p.2 with
   | none => true
   | some j => decide (N[j]? = some p.1) && decide (((sc.names.map fun (n, k) => if (k == .free && osc.kind == .function && osc.names.lookup n == some .cell) then (n, NameKind.cell) else (n, k)).lookup p.1 = some .cell) ∨
       ((sc.names.map fun (n, k) => if (k == .free && osc.kind == .function && osc.names.lookup n == some .cell) then (n, NameKind.cell) else (n, k)).lookup p.1 = some .free)) &&
     decide (osc.names.lookup p.1 = some .local ∨ osc.names.lookup p.1 = some .cell ∨ osc.names.lookup p.1 = some .free))
theorem capB_ok {X : Cx} {sc : Scope} {N' : List Str} {cap : List (Option Nat)} (h : capB X.env.scope X.N sc N' cap = true) : CapOk X sc N' cap := by
 unfold capB at h
 rw [Bool.and_eq_true, Bool.and_eq_true, Bool.and_eq_true, Bool.and_eq_true, Bool.and_eq_true, List.all_eq_true, List.all_eq_true, List.all_eq_true, List.all_eq_true] at h
 obtain ⟨⟨⟨⟨⟨h1, h2⟩, h3⟩, h4⟩, h5⟩, h6⟩ := h
 refine ⟨of_decide_eq_true h1, of_decide_eq_true h2, fun x hx => of_decide_eq_true (h3 x hx), fun x hx => of_decide_eq_true (h4 x hx), fun n hn => of_decide_eq_true (h5 _ hn) rfl, fun i j x e1 e2 => ?_⟩
 have hm : (x, some j) ∈ N'.zip cap := by
   have e : (N'.zip cap)[i]? = some (x, some j) := by
     rw [List.getElem?_zip_eq_some]
     exact ⟨e1, e2⟩
   exact List.mem_of_getElem? e
 have h7 := h6 _ hm
 dsimp only at h7
 rw [Bool.and_eq_true, Bool.and_eq_true] at h7
 obtain ⟨⟨h8, h9⟩, h10⟩ := h7
 exact ⟨of_decide_eq_true h8, of_decide_eq_true (p := (relabel sc X.env).names.lookup x = some .cell ∨ (relabel sc X.env).names.lookup x = some .free) h9, of_decide_eq_true (p := X.env.scope.names.lookup x = some .local ∨ X.env.scope.names.lookup x = some .cell ∨ X.env.scope.names.lookup x = some .free) h10⟩
noncomputable def PTs (X : Cx) (ifs : List Expr) (t : TT) : Prop :=
 ∀ (pins : List (Addr × Obj)) (s : Shared) (σ : St) (H : Hp) (Q : Bool → Hp → Prop), Inv X pins σ H s → t σ H Q →
   wpAny (model X.prog X.w) X.A (forIn ifs true fun c r => if r = true then do let ok ← isTrue c X.env (eval c X.env); pure (ForInStep.yield ok) else pure (ForInStep.yield r)) (TP X pins σ Q) X.xe s
noncomputable def tYes : TT := fun _ H Q => Q true H
theorem pts_nil {X : Cx} : PTs X [] tYes := fun _ _ _ H _ I h => wpAny_tests_nil ⟨H, I, h⟩
theorem pts_one {X : Cx} {c : Expr} {t : TT} (h : PT X c t) : PTs X [c] t := fun pins s σ H Q I hw => wpAny_tests_one (h pins s σ H Q I hw)
noncomputable def RunC (J : It) (g : TG) (tc : TT) (te : TE) (D : Addr) (Q : Hp → Prop) (τ : St) (H : Hp) : Prop :=
 ∃ W : Nat → Nat → List V → St → Hp → Prop, (∃ m, W 0 m [] τ H) ∧ ∀ i m ys τ H, W i m ys τ H →
   (J.stop i H ∧ Q H) ∨
   (J.go i H ∧ ∃ N : List V → St → Hp → Prop, (∀ ys' τ' H', N ys' τ' H' → ∃ m', m' < m ∧ W (i + 1) m' ys' τ' H') ∧
     ∀ x H', J.yld i H x H' → g x τ H' fun τ2 H2 => tc τ2 H2 fun b H3 => if b = true then te τ2 H3 fun y H4 => H4 D = some (.lst ys) ∧ ys.length < sizeLine ∧ N (ys ++ [y]) τ2 (upd H4 D (.lst (ys ++ [y]))) else N ys τ2 H3)
section
variable {X : Cx} {sc : Scope} {N' : List Str} {cap : List (Option Nat)} {tg elt iter : Expr} {ifs : List Expr} {pos : Pos} {g : TG} {tc : TT} {te : TE}
theorem comp_loop {Y : Cx} {J : It} {fp : List Addr} {it D : Addr} {tn : Nat → Heap → Prop} {R : Result → Shared → Prop} {Q : Hp → Prop} {τ : St} {H : Hp} {s : Shared}
   (hx : Y.xe = fun _ _ => False) (hc : Y.calm = true) (hg : PG Y tg g) (ht : PTs Y ifs tc) (he : PE Y elt te) (T : Turn Y.prog Y.w Y.K tg J fp it tn) (st : tn 0 s.heap) (hf : ∀ b ∈ fp, FpOk Y [] H b) (I : Inv Y [] τ H s)
   (h : RunC J g tc te D Q τ H) (hR : ∀ τ' H' s', Inv Y [] τ' H' s' → Q H' → R (.ok .next) s') :
   codeAny (model Y.prog Y.w) Y.A (.compLoop (.ListComp elt [⟨tg, iter, ifs, 0⟩] sc pos) 0 (.ref it) (.ref D) Y.env) R s := by
 obtain ⟨W, ⟨m0, w0⟩, turn⟩ := h
 have stat : ∀ {H' : Hp}, (∀ b ∈ fp, H' b = none) → ∀ b ∈ fp, FpOk Y [] H' b := fun hn b hb => ⟨hn b hb, (hf b hb).2⟩
 have no : ∀ {P : Prop} {e : Value} {s' : Shared}, Y.xe e s' → P := fun z => by rw [hx] at z; exact z.elim
 refine codeAny_loop rfl (fun n s' => ∃ i ys τ' H', Inv Y [] τ' H' s' ∧ tn i s'.heap ∧ (∀ b ∈ fp, H' b = none) ∧ W i n ys τ' H') ?_ m0 ⟨0, [], τ, H, I, st, fun b hb => (hf b hb).1, w0⟩
 rintro n s3 ⟨i, ys, τ3, H3, I3, st3, fr3, w3⟩
 show wpAny _ Y.A ((compTurn (.ListComp elt [⟨tg, iter, ifs, 0⟩] sc pos) 0 (.ref it) (.ref D) Y.env).onRaise (fun x => do noteFrame x Y.env; theTreesLotGoes x)) _ _ s3
 refine wpAny_noted ?_
 rw [compTurn_list]
 refine wpAny_bind (wpAny_standAt (wpAny_bind ?_))
 rcases turn i n ys τ3 H3 w3 with ⟨stop, qn⟩ | ⟨go, N, hN, step⟩
 · refine wpAny_mono (T.done Y rfl rfl rfl hc i [] s3 τ3 H3 (fun _ _ => False) I3 (stat fr3) st3 stop) (fun r s4 ⟨hr, I4⟩ => ?_) fun _ _ z => z.elim
   subst hr
   exact wpAny_pure (hR _ _ _ I4 qn)
 · refine wpAny_mono (T.item Y rfl rfl rfl hc i [] s3 τ3 H3 (fun _ _ => False) I3 (stat fr3) st3 go) (fun r s4 ⟨u, hr, h4⟩ => ?_) fun _ _ z => z.elim
   subst hr
   refine wpAny_bind (wpAny_mono h4 (fun _ s5 ⟨x, H5, I5, r5, y5, st5, fr5⟩ => ?_) fun _ _ z => z.elim)
   have I5' := I5.pinned (stat fr5) (T.obj _ _ st5)
   have again : ∀ {τ7 : St} {H7 : Hp} {ys7 : List V} {s7 : Shared}, Inv Y ([] ++ pinsAt fp s5.heap) τ7 H7 s7 → N ys7 τ7 H7 → ∃ m, m < n ∧ ∃ i ys τ' H', Inv Y [] τ' H' s7 ∧ tn i s7.heap ∧ (∀ b ∈ fp, H' b = none) ∧ W i m ys τ' H' := fun {τ7 H7 ys7 s7} I7 n7 => by
     obtain ⟨m', hm, w7⟩ := hN ys7 τ7 H7 n7
     refine ⟨m', hm, i + 1, ys7, τ7, H7, I7.unpinned, T.keep _ _ _ st5 fun b hb o e => (I7.pin (b, o) (List.mem_append_right _ (List.mem_append_right _ (mem_pinsAt hb e)))).1, fun b hb => ?_, w7⟩
     obtain ⟨o, e, d⟩ := T.obj _ _ st5 b hb
     exact (I7.pin (b, o) (List.mem_append_right _ (List.mem_append_right _ (mem_pinsAt hb e)))).2.1
   refine wpAny_bind (wpAny_mono (hg _ s5 τ3 H5 x u _ I5' r5 (step x H5 y5)) (fun _ s6 ⟨τ6, H6, I6, q6⟩ => ?_) fun _ _ z => no z)
   refine wpAny_bind (wpAny_mono (ht _ s6 τ6 H6 _ I6 q6) (fun ok s7 ⟨H7, I7, q7⟩ => ?_) fun _ _ z => no z)
   cases ok with
   | false =>
     have q8 : N ys τ6 H7 := by simpa using q7
     exact wpAny_pure ⟨rfl, again I7 q8⟩
   | true =>
     have q8 : te τ6 H7 fun y H4 => H4 D = some (.lst ys) ∧ ys.length < sizeLine ∧ N (ys ++ [y]) τ6 (upd H4 D (.lst (ys ++ [y]))) := by simpa using q7
     refine wpAny_bind (wpAny_bind (wpAny_mono (he _ s7 τ6 H7 _ I7 q8) (fun y s8 ⟨v8, H8, I8, r8, hD, hl, n8⟩ => ?_) fun _ _ z => no z))
     refine wpAny_bind (wpAny_mono (mt_append _ s8 τ6 H8 (.ref D) [v8] (.ref D) [y] (fun _ H9 => N (ys ++ [v8]) τ6 H9) I8 rfl (.cons r8 .nil) ⟨D, ys, v8, rfl, rfl, hD, hl, n8⟩) (fun _ s9 ⟨_, H9, I9, _, n9⟩ => ?_) fun _ _ z => no z)
     exact wpAny_pure (wpAny_pure ⟨rfl, again I9 n9⟩)
theorem comp_block {pins : List (Addr × Obj)} {σ : St} {H : Hp} {s : Shared} {J : It} {fp : List Addr} {it : Addr} {tn : Nat → Heap → Prop} {RR : Value → Addr → Result → Shared → Prop} {Q : Addr → Hp → Prop} {E : Value → Shared → Prop}
   (c : CapOk X sc N' cap) (hc : X.calm = true) (hg : ∀ C s₀ H₀ fp, PG (compCx X sc N' C s₀ H₀ fp) tg g) (ht : ∀ C s₀ H₀ fp, PTs (compCx X sc N' C s₀ H₀ fp) ifs tc) (he : ∀ C s₀ H₀ fp, PE (compCx X sc N' C s₀ H₀ fp) elt te)
   (I : Inv X pins σ H s) (T : Turn X.prog X.w X.K tg J fp it tn) (st : tn 0 s.heap) (hf : ∀ b ∈ fp, FpOk X pins H b)
   (h : ∀ D, H D = none → RunC J g tc te D (Q D) (capS cap σ) (upd H D (.lst [])))
   (hR : ∀ D C s' H' m', H D = none → s.heap.objs.size ≤ C → s'.os = s.os → AllBare s'.gens → Un (frs X.stack) fp H H' s.heap s'.heap → HOk X.prog X.w H' s'.heap → s'.heap.Ns C m' → H' C = none → C ∉ fp → Q D H' → RR (.ref D) C (.ok .next) s') :
   wpAny (model X.prog X.w) X.A (newList []) (fun acc s₃ => wpAny (model X.prog X.w) X.A (newFunctionEnv sc X.env.globals (clOf X.env.cells sc.names []) [] X.env.qual none .none (some X.env)) (fun cenv s₄ =>
     codeAny (model X.prog X.w) X.A (.compStart (.ListComp elt [⟨tg, iter, ifs, 0⟩] sc pos) 0 (.ref it) acc { cenv with scope := relabel sc X.env }) (RR acc cenv.locals) s₄) E s₃) E s := by
 have hb : ∀ b ∈ fp, b < s.heap.objs.size := fun b hb => by
   obtain ⟨o, e, _⟩ := T.obj _ _ st b hb
   exact Heap.lt_size e
 refine wpAny_newObj_type (wpAny_newFunctionEnv c.nocell (by intro y hy; simp at hy) (fun h₁ hns₁ hsb₁ => ?_) c.kind)
 dsimp only at hns₁ hsb₁ ⊢
 generalize hH2 : s.heap.push { cls := .type "list", dict := none, data := .seq ([] : List Value).toArray } = H2 at hns₁ hsb₁ ⊢
 have hC : H2.objs.size = s.heap.objs.size + 1 := by rw [← hH2, Heap.size_push]
 have hCl : s.heap.objs.size ≤ H2.objs.size := by rw [hC]; exact Nat.le_succ _
 have hCn : s.heap.objs.size ≠ H2.objs.size := by rw [hC]; exact (Nat.succ_ne_self _).symm
 have old : ∀ b o, s.heap.get? b = some o → h₁.get? b = some o := fun b o e => by
   have l1 := Heap.lt_size e
   exact hsb₁.extBut b o (Nat.ne_of_lt (Nat.lt_of_lt_of_le l1 hCl)) (Heap.get?_push_of_some _ (hH2 ▸ Heap.get?_push_of_some _ e))
 have hl : h₁.get? s.heap.objs.size = some { cls := .type "list", data := .seq #[] 0 } := hsb₁.extBut _ _ hCn (Heap.get?_push_of_some _ (hH2 ▸ Heap.get?_push_size _ rfl))
 have hns₂ : h₁.Ns H2.objs.size fun _ => none := by simpa using hns₁
 have I4 : Inv (compCx X sc N' H2.objs.size s H fp) [] (capS cap σ) (upd H s.heap.objs.size (.lst [])) { s with heap := h₁, toks := s.toks + ([] : List (Str × Value)).length } := comp_inv c I hC rfl hf hb hns₂ hl old
 have hfr : H s.heap.objs.size = none := I.fresh
 have f4 : ∀ b ∈ fp, FpOk (compCx X sc N' H2.objs.size s H fp) [] (upd H s.heap.objs.size (.lst [])) b := fun b hb' => by
   obtain ⟨f0, f1, f2, f3, f4, f5⟩ := hf b hb'
   have lb := hb b hb'
   refine ⟨by rw [upd_ne (Nat.ne_of_lt lb)]; exact f0, (Nat.ne_of_lt (Nat.lt_of_lt_of_le lb hCl) : b ≠ H2.objs.size), fun z => ?_, .inl hb', fun x a e => f4 x a (lookup_clOf (c.cells I.ok) (fun z => by simp at z) e), fun p hp => absurd hp (by simp [compCx])⟩
   rcases List.mem_cons.mp (I.stkSub b z) with e | e
   · exact f1 e
   · exact f2 e
 have st4 : tn 0 h₁ := T.keep _ _ _ st fun b _ o e => old b o e
 have loop : ∀ s₅ : Shared, s₅ = { s with heap := h₁, toks := s.toks + ([] : List (Str × Value)).length } →
     codeAny (model X.prog X.w) X.A (.compLoop (.ListComp elt [⟨tg, iter, ifs, 0⟩] sc pos) 0 (.ref it) (.ref s.heap.objs.size) (compCx X sc N' H2.objs.size s H fp).env) (RR (.ref s.heap.objs.size) H2.objs.size) s₅ := by
   rintro s₅ rfl
   refine comp_loop (Y := compCx X sc N' H2.objs.size s H fp) (J := J) (fp := fp) (tn := tn) (Q := Q s.heap.objs.size) rfl hc (hg _ _ _ _) (ht _ _ _ _) (he _ _ _ _) T st4 f4 I4 (h _ hfr) fun τ' H' s' I' q' => ?_
   obtain ⟨m', hn', _⟩ := I'.loc
   exact hR _ _ s' H' m' hfr hCl I'.os I'.bare I'.base I'.hok hn' I'.free (fun z => absurd (Nat.lt_of_lt_of_le (hb _ z) hCl) (Nat.lt_irrefl _)) q'
 exact codeAny_compStart_list (loop _ rfl) (T.self _ 0 _ _ _ st4 (loop _ rfl))
noncomputable def tComp (wi : TI) (cap : List (Option Nat)) (g : TG) (tc : TT) (te : TE) : TE := fun σ H Q => wi σ H fun J H1 => ∀ D, H1 D = none → RunC J g tc te D (fun H' => Q (.ref D) H') (capS cap σ) (upd H1 D (.lst []))
theorem Inv.fpCh {pins : List (Addr × Obj)} {H : Hp} {fp : List Addr} (hf : ∀ b ∈ fp, FpOk X pins H b) : ∀ b ∈ fp, (b ∈ X.ex ∨ X.s₀.heap.objs.size ≤ b) ∧ b ≠ X.env.locals ∧ (∀ x c, X.env.cells.lookup x = some c → c ≠ b) ∧ ∀ p ∈ X.pn ++ pins, p.1 ≠ b :=
 fun b hb => let ⟨_, f1, _, f3, f4, f5⟩ := hf b hb; ⟨f3, f1, f4, f5⟩
theorem pe_comp {wi : TI} (hc : X.calm = true) (hcap : capB X.env.scope X.N sc N' cap = true) (hi : PI X tg iter wi) (hg : ∀ C s₀ H₀ fp, PG (compCx X sc N' C s₀ H₀ fp) tg g) (ht : ∀ C s₀ H₀ fp, PTs (compCx X sc N' C s₀ H₀ fp) ifs tc)
   (he : ∀ C s₀ H₀ fp, PE (compCx X sc N' C s₀ H₀ fp) elt te) (hs : ∀ x, foldedSetIterable iter X.env x = pure x := by intro _; rfl) : PE X (.ListComp elt [⟨tg, iter, ifs, 0⟩] sc pos) (tComp wi cap g tc te) := by
 intro pins s σ H Q I h
 have c : CapOk X sc N' cap := capB_ok hcap
 rw [eval_ListComp]
 refine wpAny_comprehension_free (use := none) rfl hs (closure_ok (c.cells I.ok)) c.kind c.locals (thn (hi pins s σ H _ I h) fun v s1 h1 => thn h1 fun itv s2 h2 => ?_)
 obtain ⟨it, fp, tn, J, H2, e, I2, T, st2, f2, hW⟩ := h2
 subst e
 refine comp_block (RR := fun acc C => compPost (model X.prog X.w) X.A X.xe none (EP X pins σ Q) acc C) (Q := fun D H' => Q (.ref D) H') c hc hg ht he I2 T st2 f2 hW ?_
 intro D C s' H' m' hD hC hos hbare hun hok hn hHC hCf q
 refine ⟨m', hn, fun h' hsb => ?_⟩
 have I3 : Inv X pins σ H' s' := I2.call' hos hun hok hbare (Inv.fpCh f2)
 have f3 : FpOk X pins H' C := I2.fpOk hC hHC
 obtain ⟨_, k1, _, k3, k4, k5⟩ := f3
 have I4 : Inv X pins σ H' { s' with heap := h' } := I3.turned (t' := s'.toks) (fun b o hb e => (hsb.2 b hb).trans e) hHC k1 k3 k4 k5
 exact ⟨.ref D, H', I4, rfl, q⟩
theorem ps_setC {wi : TI} {i : Nat} {x : Str} {px spos : Pos} (hN : X.N.Nodup) (hi' : X.N[i]? = some x) (hx : Loc X.env.scope x) (hc : X.calm = true) (hcap : capB X.env.scope X.N sc N' cap = true) (hi : PI X tg iter wi)
   (hg : ∀ C s₀ H₀ fp, PG (compCx X sc N' C s₀ H₀ fp) tg g) (ht : ∀ C s₀ H₀ fp, PTs (compCx X sc N' C s₀ H₀ fp) ifs tc) (he : ∀ C s₀ H₀ fp, PE (compCx X sc N' C s₀ H₀ fp) elt te)
   (hsw : swapsWith (.ListComp elt [⟨tg, iter, ifs, 0⟩] sc pos) (some (.Name x px)) spos.line X.env = pure true := by rfl)
   (hs : ∀ x, foldedSetIterable iter X.env x = pure x := by intro _; rfl) (hf : X.fn x = true ∨ X.env.scope.names.lookup x = some .local := by first | exact .inl rfl | exact .inr rfl | assumption) :
   PS X (.Assign [.Name x px] (.ListComp elt [⟨tg, iter, ifs, 0⟩] sc pos) spos) (tAsg (tComp wi cap g tc te) (gName i)) := by
 intro pins s σ H D I h
 have c : CapOk X sc N' cap := capB_ok hcap
 rw [exec_Assign_Name_used _ _ _ _ hsw]
 refine wpAny_bind (wpAny_standAt (wpAny_bind ?_))
 show wpAny _ X.A (do let _ ← comprehension (.ListComp elt [⟨tg, iter, ifs, 0⟩] sc pos) sc X.env _ (newList []) false (eval iter X.env) (some (assign (.Name x px) X.env))) _ _ s
 refine wpAny_bind (thn (wpAny_comprehension_free (use := some (assign (.Name x px) X.env)) (Q := fun _ s' => SP X pins D .next s') rfl hs (closure_ok (c.cells I.ok)) c.kind c.locals
   (thn (hi pins s σ H _ I h) fun v s1 h1 => thn h1 fun itv s2 h2 => ?_)) fun _ s' hq => wpAny_pure (wpAny_pure hq))
 obtain ⟨it, fp, tn, J, H2, e, I2, T, st2, f2, hW⟩ := h2
 subst e
 refine comp_block (RR := fun acc C => compPost (model X.prog X.w) X.A X.xe (some (assign (.Name x px) X.env)) (fun _ s' => SP X pins D .next s') acc C) (Q := fun A H' => gName i (.ref A) σ H' D.nx) c hc hg ht he I2 T st2 f2 hW ?_
 intro A C s' H' m' hD hC hos hbare hun hok hn hHC hCf q
 have I3 : Inv X pins σ H' s' := I2.call' hos hun hok hbare (Inv.fpCh f2)
 have f3 : FpOk X pins H' C := I2.fpOk hC hHC
 obtain ⟨_, k1, _, k3, k4, k5⟩ := f3
 show wpAny _ X.A (assign (.Name x px) X.env (.ref A)) _ _ s'
 refine wpAny_assign_Name (store_ok2 I3 hN hi' hx (v := .ref A) rfl (fun s'' I'' ⟨a, hsb, ha⟩ => ?_) hf)
 have hCa : C ≠ a := by
   rcases ha with z | z
   · rw [z]; exact k1
   · exact fun z' => k4 x a z z'.symm
 refine ⟨m', hn.sameBut hsb hCa, fun h' hsb' => ?_⟩
 have I4 : Inv X pins (σ.set i (some (.ref A))) H' { s'' with heap := h' } := I''.turned (t' := s''.toks) (fun b o hb e => (hsb'.2 b hb).trans e) hHC k1 k3 k4 k5
 exact ⟨_, H', I4, q⟩
end
section
variable {g : TG} {tc : TT} {te : TE} {D : Addr} {Q : Hp → Prop} {τ : St} {H : Hp}
theorem comp_list {K : PySem.W.Frag} {a : Addr} {xs : List V} (Pv : Nat → List V → St → Hp → Prop) (h0 : Pv 0 [] τ H) (hl : ∀ i ys τ H, i ≤ xs.length → Pv i ys τ H → SqL K H a xs)
   (hs : ∀ i x ys τ H, xs[i]? = some x → Pv i ys τ H → g x τ H fun τ2 H2 => tc τ2 H2 fun b H3 => if b = true then te τ2 H3 fun y H4 => H4 D = some (.lst ys) ∧ ys.length < sizeLine ∧ Pv (i + 1) (ys ++ [y]) τ2 (upd H4 D (.lst (ys ++ [y]))) else Pv (i + 1) ys τ2 H3)
   (hd : ∀ ys τ H, Pv xs.length ys τ H → Q H) : RunC (Itl K a) g tc te D Q τ H := by
 refine ⟨fun i m ys τ H => m = xs.length - i ∧ i ≤ xs.length ∧ Pv i ys τ H, ⟨xs.length, by simp, Nat.zero_le _, h0⟩, ?_⟩
 rintro i m ys τ H ⟨rfl, hi, p⟩
 have q := hl i ys τ H hi p
 by_cases hlt : i < xs.length
 · refine .inr ⟨⟨xs, xs[i], q, by simp [hlt]⟩, Pv (i + 1), fun ys' τ' H' p' => ⟨xs.length - (i + 1), by omega, rfl, hlt, p'⟩, fun x H' y => ?_⟩
   obtain ⟨e, y⟩ := y
   subst e
   exact hs i x ys τ _ (y xs q) p
 · have e : i = xs.length := by omega
   subst e
   exact .inl ⟨⟨xs, q, Nat.le_refl _⟩, hd ys τ H p⟩
theorem comp_tup {K : PySem.W.Frag} {a : Addr} {xs : List V} (Pv : Nat → List V → St → Hp → Prop) (h0 : Pv 0 [] τ H) (hl : ∀ i ys τ H, i ≤ xs.length → Pv i ys τ H → SqT K H a xs)
   (hs : ∀ i x ys τ H, xs[i]? = some x → Pv i ys τ H → g x τ H fun τ2 H2 => tc τ2 H2 fun b H3 => if b = true then te τ2 H3 fun y H4 => H4 D = some (.lst ys) ∧ ys.length < sizeLine ∧ Pv (i + 1) (ys ++ [y]) τ2 (upd H4 D (.lst (ys ++ [y]))) else Pv (i + 1) ys τ2 H3)
   (hd : ∀ ys τ H, Pv xs.length ys τ H → Q H) : RunC (Itt K a) g tc te D Q τ H := by
 refine ⟨fun i m ys τ H => m = xs.length - i ∧ i ≤ xs.length ∧ Pv i ys τ H, ⟨xs.length, by simp, Nat.zero_le _, h0⟩, ?_⟩
 rintro i m ys τ H ⟨rfl, hi, p⟩
 have q := hl i ys τ H hi p
 by_cases hlt : i < xs.length
 · refine .inr ⟨⟨xs, xs[i], q, by simp [hlt]⟩, Pv (i + 1), fun ys' τ' H' p' => ⟨xs.length - (i + 1), by omega, rfl, hlt, p'⟩, fun x H' y => ?_⟩
   obtain ⟨e, y⟩ := y
   subst e
   exact hs i x ys τ _ (y xs q) p
 · have e : i = xs.length := by omega
   subst e
   exact .inl ⟨⟨xs, q, Nat.le_refl _⟩, hd ys τ H p⟩
theorem comp_range {lo : Int} {n : Nat} (Pv : Nat → List V → St → Hp → Prop) (h0 : Pv 0 [] τ H)
   (hs : ∀ i ys τ H, i < n → Pv i ys τ H → g (.int (lo + i)) τ H fun τ2 H2 => tc τ2 H2 fun b H3 => if b = true then te τ2 H3 fun y H4 => H4 D = some (.lst ys) ∧ ys.length < sizeLine ∧ Pv (i + 1) (ys ++ [y]) τ2 (upd H4 D (.lst (ys ++ [y]))) else Pv (i + 1) ys τ2 H3)
   (hd : ∀ ys τ H, Pv n ys τ H → Q H) : RunC (Itr lo n) g tc te D Q τ H := by
 refine ⟨fun i m ys τ H => m = n - i ∧ i ≤ n ∧ Pv i ys τ H, ⟨n, by simp, Nat.zero_le _, h0⟩, ?_⟩
 rintro i m ys τ H ⟨rfl, hi, p⟩
 by_cases hlt : i < n
 · refine .inr ⟨hlt, Pv (i + 1), fun ys' τ' H' p' => ⟨n - (i + 1), by omega, rfl, hlt, p'⟩, fun x H' y => ?_⟩
   obtain ⟨e, y⟩ := y
   subst e y
   exact hs i ys τ _ hlt p
 · have e : i = n := by omega
   subst e
   exact .inl ⟨Nat.le_refl _, hd ys τ H p⟩
end
end L2
namespace L2
open PySem PySem.Spec PyProof.Rows PySem.SeqAt
noncomputable def cK (ms : List (Int × Int)) : List (Key × V) := ms.map fun p => (Sum.inl p.1, V.int p.2)
noncomputable def lookI (ms : List (Int × Int)) (k : Int) : Option Int := (ms.find? fun p => decide (p.1 = k)).map (·.2)
inductive IEnts : List DictEntry → List (Int × Int) → Prop
 | nil : IEnts [] []
 | cons {e : DictEntry} {k v : Int} {es : List DictEntry} {ms : List (Int × Int)} {t t' : Tok} : e.key = .int k t → e.hash = hashInt k → e.val = .int v t' → IEnts es ms → IEnts (e :: es) ((k, v) :: ms)
theorem IEnts.length {es : List DictEntry} {ms : List (Int × Int)} (h : IEnts es ms) : es.length = ms.length := by
 induction h with
 | nil => rfl
 | cons _ _ _ _ ih => simp [ih]
theorem IEnts.get {es : List DictEntry} {ms : List (Int × Int)} (h : IEnts es ms) : ∀ {i : Nat} {e : DictEntry}, es[i]? = some e → ∃ k v t t', ms[i]? = some (k, v) ∧ e.key = .int k t ∧ e.hash = hashInt k ∧ e.val = .int v t' := by
 induction h with
 | nil => intro i e q; simp at q
 | @cons e0 k v es ms t t' h1 h2 h3 _ ih =>
   intro i e q
   cases i with
   | zero =>
     have : e0 = e := by simpa using q
     subst this
     exact ⟨k, v, t, t', by simp, h1, h2, h3⟩
   | succ i =>
     obtain ⟨k', v', t1, t2, q1, q2⟩ := ih (i := i) (e := e) (by simpa using q)
     exact ⟨k', v', t1, t2, by simpa using q1, q2⟩
theorem IEnts.find {es : List DictEntry} {ms : List (Int × Int)} (h : IEnts es ms) (k : Int) : es.findIdx? (fun e => Value.isInt k e.key) = ms.findIdx? fun p => decide (p.1 = k) := by
 induction h with
 | nil => rfl
 | @cons e0 k0 v es ms t t' h1 h2 h3 _ ih =>
   rw [List.findIdx?_cons, List.findIdx?_cons, h1, ih]
   have e : Value.isInt k (.int k0 t) = decide (k0 = k) := by
     by_cases q : k0 = k
     · subst q; simp [Value.isInt]
     · simp [Value.isInt, q]; try exact fun z => q z.symm
   rw [e]
structure IDict (h : Heap) (a : Addr) (ms : List (Int × Int)) : Prop where
 ex : ∃ o es ep, h.get? a = some o ∧ o.ExactDict ∧ o.data = .dict es ep ∧ IEnts es.toList ms
 sys : (a == sysModules) = false
 nd : (ms.map (·.1)).Nodup
theorem IDict.typeIs {s : Shared} {a : Addr} {ms : List (Int × Int)} (x : IDict s.heap a ms) : s.TypeIs (.ref a) "dict" := let ⟨o, _, _, ho, hc, _⟩ := x.ex; ⟨o, ho, hc.1⟩
theorem lookI_none {ms : List (Int × Int)} {k : Int} (h : ms.findIdx? (fun p => decide (p.1 = k)) = none) : lookI ms k = none := by
 unfold lookI
 rw [List.findIdx?_eq_none_iff] at h
 rw [List.find?_eq_none.mpr (fun p hp => by have := h p hp; simpa using this)]
 rfl
theorem lookI_some {ms : List (Int × Int)} {k : Int} {j : Nat} (h : ms.findIdx? (fun p => decide (p.1 = k)) = some j) : ∃ v, ms[j]? = some (k, v) ∧ lookI ms k = some v := by
 induction ms generalizing j with
 | nil => simp at h
 | cons p ms ih =>
   rw [List.findIdx?_cons] at h
   by_cases q : p.1 = k
   · rw [decide_eq_true q, if_pos rfl] at h
     cases h
     refine ⟨p.2, by simp [← q], ?_⟩
     unfold lookI
     rw [List.find?_cons_of_pos (by simpa using q)]
     rfl
   · rw [decide_eq_false q, if_neg (by decide)] at h
     cases h2 : ms.findIdx? (fun p => decide (p.1 = k)) with
     | none => rw [h2] at h; cases h
     | some j' =>
       rw [h2] at h
       have e : j = j' + 1 := by simpa using h.symm
       subst e
       obtain ⟨v, h3, h4⟩ := ih h2
       refine ⟨v, by simpa using h3, ?_⟩
       unfold lookI at h4 ⊢
       rw [List.find?_cons_of_neg (by simpa using q)]
       exact h4
theorem arrFind (fs : Array DictEntry) (p : DictEntry → Bool) : fs.findIdx? p = fs.toList.findIdx? p := by
 cases fs
 simp
theorem intEq {prog : Program} {w : World} {A : Around} {E : Value → Shared → Prop} {s : Shared} {x y : Int} {t u : Tok} {Q : Bool → Shared → Prop} (h : Q (decide (x = y)) s) : wpAny (model prog w) A (eqBool (.int x t) (.int y u)) Q E s :=
 (intKind prog w).eqBool (by show Value.isInt x (.int x t) = true; simp [Value.isInt]) (by show Value.isInt y (.int y u) = true; simp [Value.isInt]) h
theorem keysI {prog : Program} {w : World} {es : Array DictEntry} {ms : List (Int × Int)} (h : IEnts es.toList ms) : KeysOf (intKind prog w) es := by
 intro e he
 obtain ⟨i, hi, rfl⟩ := Array.mem_iff_getElem.mp he
 obtain ⟨k, v, t, t', _, h1, h2, _⟩ := h.get (i := i) (e := es[i]) (by simp [hi])
 exact ⟨k, by show Value.isInt k _ = true; rw [h1]; simp [Value.isInt], h2⟩
theorem samePairs_ok {prog : Program} {w : World} {A : Around} {E : Value → Shared → Prop} {s : Shared} {id : String} {a b : Addr} {ms ns : List (Int × Int)} {Q : Bool → Shared → Prop} (ha : IDict s.heap a ms) (hb : IDict s.heap b ns)
   (h : Q (ms.length == ns.length && ms.all fun p => decide (lookI ns p.1 = some p.2)) s) : wpAny (model prog w) A (Builtin.Dict.samePairs id a b) Q E s := by
 obtain ⟨oa, es, ep, hoa, _, hda, hea⟩ := ha.ex
 obtain ⟨ob, fs, ep', hob, _, hdb, heb⟩ := hb.ex
 have la : es.size = ms.length := by rw [← hea.length]; simp
 have lb : fs.size = ns.length := by rw [← heb.length]; simp
 unfold Builtin.Dict.samePairs
 have sh : ∀ {c : Addr} {Q : Unit → Shared → Prop}, (c == sysModules) = false → Q () s → wpAny (model prog w) A (Builtin.Dict.showsAll c) Q E s := fun {c Q} hc hq => by
   unfold Builtin.Dict.showsAll
   rw [if_neg (by rw [hc]; exact Bool.false_ne_true)]
   exact wpAny_pure hq
 refine wpAny_bind (sh ha.sys (wpAny_bind (sh hb.sys ?_)))
 refine wpAny_bind (wpAny_dictEntries hoa hda (wpAny_bind (wpAny_dictEntries hob hdb ?_)))
 by_cases hl : ms.length = ns.length
 · rw [if_neg (by simp [la, lb, hl])]
   have e0 : (ms.length == ns.length) = true := by simp [hl]
   rw [e0, Bool.true_and] at h
   refine wpAny_bind (wpAny_dictEpoch hoa hda ?_)
   rw [Std.Legacy.Range.forIn_eq_forIn_range']
   refine wpAny_bind (wpAny_mono (wpAny_forIn_list _ (fun rest r s' => s' = s ∧ r = (none, ()) ∧ ∃ i, rest = List.range' i (ms.length - i) 1 ∧ i ≤ ms.length ∧ ∀ p ∈ ms.take i, lookI ns p.1 = some p.2)
     (fun r s' => s' = s ∧ ((r = (none, ()) ∧ (ms.all fun p => decide (lookI ns p.1 = some p.2)) = true) ∨ (r = (some false, ()) ∧ (ms.all fun p => decide (lookI ns p.1 = some p.2)) = false))) ?_ ?_ _ _ ⟨rfl, rfl, 0, ?_, Nat.zero_le _, by simp⟩) (fun r s' hr => ?_) fun _ _ e => e)
   · rintro i rest r s' ⟨rfl, rfl, i1, hr, hi, hd⟩
     have hlt : i1 < ms.length := by
       refine Nat.lt_of_not_le fun z => ?_
       rw [show ms.length - i1 = 0 by omega] at hr
       cases hr
     rw [show ms.length - i1 = (ms.length - (i1 + 1)) + 1 by omega, List.range'_succ] at hr
     cases hr
     have hie : i < es.size := by omega
     obtain ⟨k, v, t, t', hm, h1, h2, h3⟩ := hea.get (i := i) (e := es[i]) (by simp [hie])
     have hmi : ms[i] = (k, v) := by
       rw [List.getElem?_eq_getElem hlt] at hm
       exact Option.some.inj hm
     refine wpAny_bind (wpAny_dictEntries hoa hda ?_)
     rw [Array.getElem?_eq_getElem hie]
     dsimp only
     refine wpAny_bind (wpAny_mono (Q := fun same s'' => s'' = s' ∧ same = decide (lookI ns k = some v)) (wpAny_holding ?_) (fun same s'' hs => ?_) fun _ _ e => e)
     · rw [h1, h2]
       refine wpAny_bind (wpAny_dictFind_of (knd := intKind prog w) (k := k) (show Value.isInt k (.int k t) = true from by simp [Value.isInt]) hob hdb (keysI heb) ?_)
       have ef : (fs.findIdx? fun e => (intKind prog w).is k e.key) = ns.findIdx? fun p => decide (p.1 = k) := by
         rw [← heb.find k]
         show fs.findIdx? (fun e => Value.isInt k e.key) = _
         exact arrFind _ _
       rw [ef]
       cases hf : ns.findIdx? (fun p => decide (p.1 = k)) with
       | none =>
         dsimp only
         refine wpAny_pure ⟨rfl, ?_⟩
         rw [lookI_none hf]
         rfl
       | some j =>
         obtain ⟨v', hj, hl2⟩ := lookI_some hf
         have hjn : j < ns.length := (List.getElem?_eq_some_iff.mp hj).1
         have hjf : j < fs.size := by omega
         obtain ⟨k2, v2, t2, t2', hm2, g1, g2, g3⟩ := heb.get (i := j) (e := fs[j]) (by simp [hjf])
         rw [hj] at hm2
         cases hm2
         dsimp only
         refine wpAny_bind (wpAny_dictEntries hob hdb ?_)
         rw [Array.getElem?_eq_getElem hjf]
         dsimp only
         refine wpAny_holding ?_
         rw [h3, g3]
         refine intEq ⟨rfl, ?_⟩
         rw [hl2]
         by_cases q : v = v'
         · subst q; simp
         · have q' : ¬ v' = v := fun z => q z.symm
           simp [q, q']
     · obtain ⟨rfl, hs⟩ := hs
       by_cases q : lookI ns k = some v
       · rw [decide_eq_true q] at hs
         subst hs
         rw [if_neg (by decide)]
         refine wpAny_bind (wpAny_dictEpoch hoa hda ?_)
         rw [if_neg (by simp)]
         refine wpAny_pure ⟨rfl, rfl, i + 1, rfl, hlt, fun p hp => ?_⟩
         rw [List.take_succ, List.getElem?_eq_getElem hlt, hmi] at hp
         rcases List.mem_append.mp hp with hp | hp
         · exact hd p hp
         · have : p = (k, v) := by simpa using hp
           subst this
           exact q
       · rw [decide_eq_false q] at hs
         subst hs
         rw [if_pos (by decide)]
         refine wpAny_pure ⟨rfl, .inr ⟨rfl, ?_⟩⟩
         rw [List.all_eq_false]
         exact ⟨(k, v), by rw [← hmi]; exact List.getElem_mem hlt, by simpa using q⟩
   · rintro r s' ⟨rfl, rfl, i, hr, hi, hd⟩
     have e1 : i = ms.length := by
       refine Nat.le_antisymm hi (Nat.le_of_not_lt fun z => ?_)
       rw [show ms.length - i = (ms.length - (i + 1)) + 1 by omega, List.range'_succ] at hr
       cases hr
     subst e1
     rw [List.take_length] at hd
     exact ⟨rfl, .inl ⟨rfl, List.all_eq_true.mpr fun p hp => decide_eq_true (hd p hp)⟩⟩
   · simp [Std.Legacy.Range.size, la]
   · obtain ⟨rfl, ⟨rfl, e2⟩ | ⟨rfl, e2⟩⟩ := hr
     · rw [e2] at h
       exact wpAny_pure h
     · rw [e2] at h
       exact wpAny_pure h
 · rw [if_pos (by simp [la, lb]; exact hl)]
   have e0 : (ms.length == ns.length) = false := by simp [hl]
   rw [e0, Bool.false_and] at h
   exact wpAny_bind (wpAny_rule (wpAny_pure h))
end L2
namespace L2
open PySem PySem.Spec PyProof.Rows
section
variable {prog : Program} {w : World} {A : Around} {E : Value → Shared → Prop}
theorem list_no_keys : typeLookup (.type "list") "keys" = pure none := am_miss_of_fast (by kernel_rfl)
theorem keys_miss_list {s : Shared} {a : Addr} {xs : Array Value} {k : Nat} {Q : Option Value → Shared → Prop}
   (hx : s.heap.get? a = some { cls := .type "list", data := .seq xs k }) (hA : A.handled = none)
   (h : ∀ h' tk, (∀ b o, s.heap.get? b = some o → h'.get? b = some o) → Q none { s with heap := h', toks := tk }) :
   wpAny (model prog w) A (getAttr? (.ref a) "keys") Q E s := by
 obtain ⟨hp, g, d, tk, os⟩ := s
 have hT : ∀ tk', (⟨hp, g, d, tk', os⟩ : Shared).TypeIs (.ref a) "list" := fun _ => ⟨_, hx, rfl⟩
 have f1 := sub_AttributeError
 have f3 := F.slot_list_getattribute.lookup
 have f4 := F.slot_list_getattribute.bind (.ref a)
 have f5 := am_list_getattr_none
 unfold getAttr? getAttrBy? getAttrBy
 repeat (any_goals (first | assumption | exact hT _ | ((with_reducible show wpAny _ _ (call (Value.builtin "list.__getattribute__") _ _) _ _ _); refine call_meets F.slot_list_getattribute (hT _) am_entry_list_getattribute (F.args_list_getattribute_2 _ _) (meets_getattribute_miss_list a xs k #[] "keys" _ list_no_keys (by decide +kernel)) ⟨hx, hA, fun h' tk' e hx' => ?_⟩) | wp_step))
 obtain ⟨t', u', he⟩ := hx'.there
 show wpAny _ _ (getattributeRaised _ _ _ _ _ _ _) _ _ _
 unfold getattributeRaised
 repeat (any_goals (first | assumption | wp_step))
 exact h _ _ hx'.keeps
theorem plain_dloop : plainId "dict.update.loop" = true := by decide +kernel
theorem entry_dloop : entryFor table "dict.update.loop" = some Builtin.«dict.update.loop» := entryFor_of_fast (by kernel_rfl)
variable {KT : Type} [DecidableEq KT] {knd : KeyKind prog w KT}
noncomputable def But2 (d it : Addr) (h0 h : Heap) : Prop := ∀ b o, b ≠ d → b ≠ it → h0.get? b = some o → h.get? b = some o
theorem dict_loop (hh : A.handled = none) {d it l : Addr} {items : Array Value} {prs : List (KT × Value)} (hl : prs.length = items.size) (ndi : d ≠ it) (nld : l ≠ d) (nli : l ≠ it) {h0 : Heap} (hL : h0.IsList l items)
   (hP : ∀ (i : Nat) (x : Value), items[i]? = some x → ∃ (p : KT × Value) (t : Addr) (key : Value), prs[i]? = some p ∧ x = .ref t ∧ t ≠ d ∧ t ≠ it ∧ h0.IsTuple t #[key, p.2] ∧ knd.is p.1 key = true) {R : Result → Shared → Prop} :
   ∀ (n i : Nat) (s : Shared) (acc : List (KT × Value)), prs.length - i = n → i ≤ prs.length → acc.length + n ≤ sizeLine → s.heap.DictOf knd d acc → s.heap.IsListIter it l i → But2 d it h0 s.heap →
     (∀ h' tk, h'.DictOf knd d (merged acc (prs.drop i)) → But2 d it h0 h' → R (.ok (.ret .none)) { s with heap := h', toks := tk }) →
     codeAny (model prog w) A (.builtin "dict.update.loop" ⟨[.ref d, .ref it, rawInt i, .none], []⟩) R s := by
 intro n
 induction n with
 | zero =>
   intro i s acc hn hi hz hd hit hb k
   refine codeAny_builtin entry_dloop ?_
   rw [Around.under_plainId plain_dloop]
   have hLs : s.heap.IsList l items := let ⟨o, ho, r⟩ := hL; ⟨o, hb _ _ nld nli ho, r⟩
   have hx : items[i]? = none := by simp; omega
   show wpAny _ _ (pyNext (.ref it) >>= _) _ _ s
   refine wpAny_bind (wpAny_pyNext_list_end hh hit hLs hx fun h' he => ?_)
   show wpAny _ _ (Builtin.Dict.addKeywords d [] >>= _) _ _ _
   refine wpAny_bind (wpAny_pure (wpAny_pure ?_))
   have e : prs.drop i = [] := by simp; omega
   have k' := k h' s.toks (by rw [e]; exact hd.extBut he ndi) fun b o n1 n2 q => he b o n2 (hb b o n1 n2 q)
   exact k'
 | succ n ih =>
   intro i s acc hn hi hz hd hit hb k
   refine codeAny_builtin entry_dloop ?_
   rw [Around.under_plainId plain_dloop]
   have hLs : s.heap.IsList l items := let ⟨o, ho, r⟩ := hL; ⟨o, hb _ _ nld nli ho, r⟩
   have hlt : i < items.size := by omega
   obtain ⟨p, t, key, hp, ex, ntd, nti, hT, hkey⟩ := hP i items[i] (by simp [hlt])
   show wpAny _ _ (pyNext (.ref it) >>= _) _ _ s
   refine wpAny_bind (wpAny_pyNext_list_item hit hLs (x := items[i]) (by simp [hlt]) fun h1 hit1 hs1 => ?_)
   rw [ex]
   have hT1 : h1.IsTuple t #[key, p.2] := let ⟨o, ho, r⟩ := hT; ⟨o, (hs1.2 t nti).trans (hb _ _ ntd nti ho), r⟩
   have hd1 : h1.DictOf knd d acc := hd.sameBut hs1 ndi
   obtain ⟨o, ho, hc, m, hdat⟩ := hT1
   refine wpAny_bind (wpAny_holding ?_)
   refine wpAny_bind (wpAny_tryCatch ?_)
   unfold Builtin.Dict.pairItems
   refine wpAny_bind (wpAny_typeOf (show (({ s with heap := h1 } : Shared).TypeIs (.ref t) "tuple") from ⟨o, ho, hc⟩) ?_)
   rw [if_pos (by decide)]
   refine wpAny_bind (wpAny_seqItems ho hdat (wpAny_pure ?_))
   show wpAny _ _ (holding [key, p.2] (dictSet d key p.2)) _ _ _
   refine wpAny_holding (wpAny_dictSet_pairs (s := { s with heap := h1 }) hkey hd1 (fun h2 hd2 hs2 => ?_) (by omega))
   refine wpAny_pure ⟨plainId_quiet plain_dloop _, ?_⟩
   have e2 : prs.drop i = p :: prs.drop (i + 1) := by
     rw [List.drop_eq_getElem_cons (by omega)]
     congr 1
     rw [List.getElem?_eq_getElem (by omega)] at hp
     exact Option.some.inj hp
   have hl2 := stored_length_le acc p.1 p.2
   refine ih (i + 1) { s with heap := h2, toks := s.toks + 1 } (stored acc p.1 p.2) (by omega) (by omega) (by omega) hd2 ?_ (fun b o' n1 n2 q => ?_) (fun h' tk hd' hb' => k h' tk (by rw [e2]; exact hd') hb')
   · obtain ⟨oi, hoi, ri⟩ := hit1
     exact ⟨oi, (hs2.2 it (Ne.symm ndi)).trans hoi, ri⟩
   · exact (hs2.2 b n1).trans ((hs1.2 b n2).trans (hb b o' n1 n2 q))
end
theorem vals_pair {x y : V} {us : List Value} (r : Vals [x, y] us) : ∃ a b, us = [a, b] ∧ RelV x a ∧ RelV y b := by
 cases r with
 | cons h1 r =>
   cases r with
   | cons h2 r =>
     cases r
     exact ⟨_, _, rfl, h1, h2⟩
theorem pairs_of {P : Program} {w : World} {H : Hp} {h : Heap} (hok : HOk P w H h) : ∀ (ts : List Addr) (kvs : List (Key × V)), ts.length = kvs.length → (∀ (i : Nat) t, ts[i]? = some t → ∃ kv : Key × V, kvs[i]? = some kv ∧ H t = some (.tup [kV kv.1, kv.2])) →
   ∃ prs : List (Key × Value), KV kvs prs ∧ prs.length = ts.length ∧ ∀ (i : Nat) t, ts[i]? = some t → ∃ (p : Key × Value) (key : Value), prs[i]? = some p ∧ h.IsTuple t #[key, p.2] ∧ (mixKind P w).is p.1 key = true
 | [], [], _, _ => ⟨[], .nil, rfl, fun i t e => by simp at e⟩
 | [], _ :: _, hl, _ => by simp at hl
 | _ :: _, [], hl, _ => by simp at hl
 | t :: ts, kv :: kvs, hl, hk => by
   obtain ⟨prs, h1, h2, h3⟩ := pairs_of hok ts kvs (by simpa using hl) fun i t e => by
     obtain ⟨kv', e1, e2⟩ := hk (i + 1) t (by simpa using e)
     exact ⟨kv', by simpa using e1, e2⟩
   obtain ⟨kv', e1, e2⟩ := hk 0 t rfl
   have e1' : kv = kv' := by simpa using e1
   subst e1'
   obtain ⟨_, its, rv, o, ho, hc, hdn, n, hd⟩ := hok t _ e2
   obtain ⟨a, b, rfl, ra, rb⟩ := vals_pair rv
   refine ⟨(kv.1, b) :: prs, .cons ⟨rfl, rb⟩ h1, by simp [h2], fun i t' e => ?_⟩
   cases i with
   | zero =>
     have : t = t' := by simpa using e
     subst this
     exact ⟨(kv.1, b), a, rfl, ⟨o, ho, hc, n, hd⟩, kV_is ra⟩
   | succ i =>
     obtain ⟨p, key, q1, q2, q3⟩ := h3 i t' (by simpa using e)
     exact ⟨p, key, by simpa using q1, q2, q3⟩
theorem call_dictP {X : Cx} (hc : X.calm = true) : CallR X (.type "dict") (fun xs H Q => ∃ (p : Addr) (ts : List Addr) (kvs : List (Key × V)), xs = [.ref p] ∧ H p = some (.lst (ts.map V.ref)) ∧ ts.length = kvs.length ∧
   (∀ (i : Nat) t, ts[i]? = some t → ∃ kv : Key × V, kvs[i]? = some kv ∧ H t = some (.tup [kV kv.1, kv.2])) ∧ ∀ D, H D = none → Q (.ref D) (upd H D (.dK (mergeK [] kvs)))) := by
 intro pins s σ H xs us Q I r h
 obtain ⟨l, ts, kvs, rfl, hl, hlen, hk, q⟩ := h
 obtain ⟨u, rfl, ru⟩ := vals1 r
 cases ru
 have hh : X.A.handled = none := I.ok.hd hc
 obtain ⟨hz, its, n, rv, ho⟩ := I.hok l _ hl
 rw [List.length_map] at hz
 have hil : its.length = ts.length := by rw [← rv.length, List.length_map]
 obtain ⟨prs, hkv, hpl, hP⟩ := pairs_of I.hok ts kvs hlen hk
 have at_ : ∀ (i : Nat) (x : Value), its.toArray[i]? = some x → ∃ t, ts[i]? = some t ∧ x = .ref t := fun i x e => by
   have e' : its[i]? = some x := by simpa using e
   have hlt : i < its.length := (List.getElem?_eq_some_iff.mp e').1
   have hb : ts[i]? = some (ts[i]'(by omega)) := by simp <;> omega
   obtain ⟨u, hu, ru⟩ := rv.get (i := i) (x := V.ref (ts[i]'(by omega))) (by rw [List.getElem?_map, hb]; rfl)
   rw [e'] at hu
   cases hu
   cases ru
   exact ⟨_, hb, rfl⟩
 refine callType_codes (Q₁ := fun obj s₁ => obj = .ref s.heap.objs.size ∧ s₁ = { s with heap := s.heap.push { cls := .type "dict", data := .dict #[] } }) PySem.F.kt_called_dict (PySem.F.kt_typeCall_dict_1 _) PySem.F.entry_dict_init (kt_code_dict_new _ ⟨rfl, rfl⟩) ?_
 rintro obj s₁ ⟨rfl, rfl⟩
 have hnew : (s.heap.push { cls := .type "dict", data := .dict #[] }).DictOf (mixKind X.prog X.w) s.heap.objs.size [] := Heap.DictOf.new s.heap
 refine ⟨hnew.typeIs, PySem.F.args_dict_init_2 _ _, ?_⟩
 unfold Builtin.«dict.__init__»
 refine wpAny_bind ?_
 unfold Builtin.Dict.selfAndRest
 refine wpAny_bind (wpAny_notOrdered_dict hnew.typeIs ?_)
 show wpAny _ _ (pure (s.heap.objs.size, [Value.ref l])) _ _ _
 refine wpAny_pure ?_
 show wpAny _ _ (Builtin.Dict.updateFrom "dict.__init__" s.heap.objs.size (.ref l) [] .none) _ _ _
 unfold Builtin.Dict.updateFrom
 have ho1 : (s.heap.push { cls := .type "dict", data := .dict #[] }).get? l = some { cls := .type "list", data := .seq its.toArray n } := Heap.get?_push_of_some _ ho
 refine wpAny_bind (wpAny_typeOf (show (({ s with heap := s.heap.push { cls := .type "dict", data := .dict #[] } } : Shared).TypeIs (.ref l) "list") from ⟨_, ho1, rfl⟩) ?_)
 rw [if_pos (by decide)]
 refine wpAny_bind (keys_miss_list ho1 hh fun h1 tk hk1 => ?_)
 rw [if_pos (show (none : Option Value).isNone = true from rfl)]
 refine wpAny_bind (wpAny_rule ?_)
 have hl1 : h1.IsList l its.toArray := ⟨_, hk1 _ _ ho1, rfl, n, rfl⟩
 refine wpAny_bind (wpAny_pyIter_list hl1 ?_)
 refine wpAny_pure ⟨plainId_quiet plain_dloop _, ?_⟩
 have lt0 : l < s.heap.objs.size := Heap.lt_size ho
 have nD : ∀ b o, s.heap.get? b = some o → b ≠ s.heap.objs.size := fun b o e => Nat.ne_of_lt (Heap.lt_size e)
 have up : ∀ b o, s.heap.get? b = some o → h1.get? b = some o := fun b o e => hk1 _ _ (Heap.get?_push_of_some _ e)
 have nI : ∀ b o, s.heap.get? b = some o → b ≠ h1.objs.size := fun b o e => Nat.ne_of_lt (Heap.lt_size (up b o e))
 obtain ⟨oD, esD, epD, hoD, rD⟩ := id hnew
 have hD1 : h1.DictOf (mixKind X.prog X.w) s.heap.objs.size [] := ⟨oD, esD, epD, hk1 _ _ hoD, rD⟩
 have ndi : s.heap.objs.size ≠ h1.objs.size := Nat.ne_of_lt (Heap.lt_size (hk1 _ _ hoD))
 refine dict_loop (knd := mixKind X.prog X.w) (show X.A.in1.handled = none from hh) (prs := prs) (items := its.toArray) (l := l) (d := s.heap.objs.size) (it := h1.objs.size) (h0 := h1.push { cls := .type "list_iterator", data := .fields #[.ref l, .int 0 0] }) (by simp; omega) ndi (nD _ _ ho) (nI _ _ ho)
   ⟨_, Heap.get?_push_of_some _ (hk1 _ _ ho1), rfl, n, rfl⟩ (fun i x e => ?_) prs.length 0 _ [] (by omega) (by omega) ?_ (hD1.push _) ⟨_, Heap.get?_push_size _ rfl, rfl, rfl⟩ (fun b o _ _ e => e) (fun h' tk' hd' hb' => ?_)
 · obtain ⟨t, e1, rfl⟩ := at_ i x e
   obtain ⟨p, key, e2, ⟨o, ho', r'⟩, e4⟩ := hP i t e1
   exact ⟨p, t, key, e2, rfl, nD _ _ ho', nI _ _ ho', ⟨o, Heap.get?_push_of_some _ (up _ _ ho'), r'⟩, e4⟩
 · have e0 : ([] : List (Key × Value)).length = 0 := rfl
   omega
 · refine ⟨rfl, .ref s.heap.objs.size, upd H s.heap.objs.size (.dK (mergeK [] kvs)), ?_, rfl, q _ (I.hok.fresh (Nat.le_refl _))⟩
   have hzz : (mergeK [] kvs).length ≤ sizeLine := by
     have h1 := length_mergeK kvs []
     rw [List.length_nil] at h1
     omega
   refine I.laid (a := s.heap.objs.size) (o := .dK (mergeK [] kvs)) (t' := tk') (fun b o e => hb' b o (nD _ _ e) (nI _ _ e) (Heap.get?_push_of_some _ (up _ _ e))) (Nat.le_refl _) (dk_new hzz (beq_eq_false_iff_ne.mpr (Ne.symm (Nat.ne_of_lt I.big))) (hkv.merge .nil) ?_)
   simpa using hd'
theorem mergeK_nodup : ∀ (more kvs : List (Key × V)), ((kvs ++ more).map (·.1)).Nodup → mergeK kvs more = kvs ++ more
 | [], kvs, _ => by simp [mergeK]
 | p :: more, kvs, h => by
   have hnot : (kvs.any fun kv => decide (kv.1 = p.1)) = false := by
     rw [List.any_eq_false]
     intro kv hkv hd
     have e : kv.1 = p.1 := by simpa using hd
     rw [List.map_append, List.nodup_append] at h
     exact h.2.2 kv.1 (List.mem_map_of_mem hkv) p.1 (by simp) e
   have e : putK kvs p.1 p.2 = kvs ++ [p] := by
     unfold putK
     rw [if_neg (by rw [hnot]; decide)]
   show mergeK (putK kvs p.1 p.2) more = _
   rw [e, mergeK_nodup more (kvs ++ [p]) (by simpa using h)]
   simp
end L2
namespace L2
open PySem PySem.Spec PyProof.Rows PySem.SeqAt
theorem meets_dict_eqI (a b : Addr) (ms ns : List (Int × Int)) : Meets (Builtin.«dict.__eq__» ⟨[.ref a, .ref b], []⟩) (fun A R s => IDict s.heap a ms ∧ IDict s.heap b ns ∧ R (.ok (.ret (.bool (ms.length == ns.length && ms.all fun p => decide (lookI ns p.1 = some p.2))))) s) :=
 Meets.of_wp fun prog w A R s hs => by
   obtain ⟨ha, hb, h⟩ := hs
   show wpAny (model prog w) A.in1 (do
     let (self, other) ← Builtin.Dict.dictSlotArgs "__eq__" ⟨[.ref a, .ref b], []⟩
     if !(← isInstance other (.type "dict")) then rule s!"dict.{"__eq__"}.not-a-dict"; return ← ret .notImplemented
     ret (.bool ((← Builtin.Dict.samePairs s!"dict.{"__eq__"}" (← Builtin.Dict.addrOf self) (← Builtin.Dict.addrOf other)) == true))) _ _ s
   unfold Builtin.Dict.dictSlotArgs
   refine wpAny_bind (wpAny_bind (wpAny_notOrdered_dict ha.typeIs ?_))
   refine wpAny_bind (wpAny_pure ?_)
   refine wpAny_pure ?_
   refine wpAny_bind (wpAny_isInstance (T := "dict") (b := true) hb.typeIs isSubtype_dict_dict ?_)
   rw [if_neg (by decide)]
   refine wpAny_bind (wpAny_pure (wpAny_bind (wpAny_pure (wpAny_bind (samePairs_ok ha hb ?_)))))
   have e : ∀ b : Bool, (b == true) = b := by decide
   rw [e]
   exact wpAny_pure ⟨_, rfl, h⟩
theorem RcAt.dicts {A : Around} {s : Shared} {a b : Addr} {ms ns : List (Int × Int)} (ha : IDict s.heap a ms) (hb : IDict s.heap b ns) (hu : A.units < cLine) :
   RcAt A s (.ref a) (.ref b) (ms.length == ns.length && ms.all fun p => decide (lookI ns p.1 = some p.2)) := fun prog w E Q h =>
 richCompare_meets_room (op := .Eq) ha.typeIs hb.typeIs PySem.F.slot_dict_eq PySem.F.entry_dict_eq (PySem.F.args_dict_eq_2 _ _) (meets_dict_eqI a b ms ns)
   ⟨ha, hb, show Value.bool (ms.length == ns.length && ms.all fun p => decide (lookI ns p.1 = some p.2)) ≠ Value.notImplemented ∧ _ from ⟨(fun x => nomatch x), h⟩⟩ hu
end L2
namespace L2
open PySem PySem.Spec PyProof.Rows PySem.SeqAt
inductive D where
 | non | bl (b : Bool) | int (i : Int) | str (x : Str) | tup (ds : List D) | lst (ds : List D)
mutual
noncomputable def Rep (K : PySem.W.Frag) (H : Hp) : V → D → Prop
 | v, .non => v = .non
 | v, .bl b => v = .bl b
 | v, .int i => v = .int i
 | v, .str x => v = .str x
 | v, .tup ds => ∃ a vs, v = .ref a ∧ SqT K H a vs ∧ Reps K H vs ds
 | v, .lst ds => ∃ a vs, v = .ref a ∧ SqL K H a vs ∧ Reps K H vs ds
noncomputable def Reps (K : PySem.W.Frag) (H : Hp) : List V → List D → Prop
 | vs, [] => vs = []
 | vs, d :: ds => ∃ v r, vs = v :: r ∧ Rep K H v d ∧ Reps K H r ds
end
mutual
noncomputable def imm : D → Bool
 | .lst _ => false
 | .tup ds => imms ds
 | _ => true
noncomputable def imms : List D → Bool
 | [] => true
 | d :: ds => imm d && imms ds
end
mutual
noncomputable def dep : D → Nat
 | .lst ds => deps ds + 1
 | .tup ds => deps ds + 1
 | _ => 0
noncomputable def deps : List D → Nat
 | [] => 0
 | d :: ds => max (dep d) (deps ds)
end
mutual
noncomputable def eqD : D → D → Bool
 | .non, .non => true
 | .bl a, .bl b => a == b
 | .bl a, .int b => (if a then 1 else 0) == b
 | .int a, .bl b => a == (if b then 1 else 0)
 | .int a, .int b => a == b
 | .str a, .str b => a == b
 | .tup a, .tup b => eqDs a b
 | .lst a, .lst b => eqDs a b
 | _, _ => false
noncomputable def eqDs : List D → List D → Bool
 | [], [] => true
 | a :: r, b :: q => eqD a b && eqDs r q
 | _, _ => false
end
mutual
theorem eqD_refl (d : D) : eqD d d = true := by
 cases d with
 | non => rfl
 | bl b => simp [eqD]
 | int b => simp [eqD]
 | str b => simp [eqD]
 | tup ds => simp only [eqD]; exact eqDs_refl ds
 | lst ds => simp only [eqD]; exact eqDs_refl ds
theorem eqDs_refl (ds : List D) : eqDs ds ds = true := by
 cases ds with
 | nil => rfl
 | cons d r => simp only [eqDs, Bool.and_eq_true]; exact ⟨eqD_refl d, eqDs_refl r⟩
end
theorem eqDs_len : ∀ {a b : List D}, eqDs a b = true → a.length = b.length
 | [], [], _ => rfl
 | [], _ :: _, h => by simp [eqDs] at h
 | _ :: _, [], h => by simp [eqDs] at h
 | x :: a, y :: b, h => by
   simp only [eqDs, Bool.and_eq_true] at h
   rw [List.length_cons, List.length_cons, eqDs_len h.2]
theorem eqDs_all : ∀ (a b : List D), a.length = b.length → eqDs a b = (List.range a.length).all fun j => match a[j]?, b[j]? with | some x, some y => eqD x y | _, _ => true
 | [], [], _ => by simp [eqDs]
 | [], _ :: _, h => by simp at h
 | _ :: _, [], h => by simp at h
 | x :: a, y :: b, h => by
   have h' : a.length = b.length := by simpa using h
   rw [List.length_cons, List.range_succ_eq_map, List.all_cons, List.all_map]
   simp only [eqDs, eqDs_all a b h']
   congr 1
structure TSame (H H' : Hp) : Prop where
 tup : ∀ b xs, H b = some (.tup xs) → H' b = some (.tup xs)
 frz : ∀ b o u, H b = some (.frz o u) → H' b = some (.frz o u)
section
variable {K : PySem.W.Frag} {H H' H1 H2 : Hp} {a l p : Addr} {xs : List V} {o : HO}
theorem Same.t (x : Same H H') : TSame H H' := ⟨fun b xs h => x b _ h, fun b o u h => x b _ h⟩
theorem TSame.lst (h : H l = some (.lst xs)) : TSame H (upd H l o) := ⟨fun b ys e => by rw [upd_ne (ne_of e h (by intro z; cases z))]; exact e, fun b ob u e => by rw [upd_ne (ne_of e h (by intro z; cases z))]; exact e⟩
theorem Same.new (h : H l = none) : Same H (upd H l o) := fun b u e => by rw [upd_ne (ne_of_none e h)]; exact e
theorem Same.turn (x : Same H H1) (h : H l = none) : Same H (upd H1 l o) := fun b u e => by rw [upd_ne (ne_of_none e h)]; exact x b u e
theorem SqT.t (x : TSame H H') (h : SqT K H a xs) : SqT K H' a xs := by
 rcases h with (h | ⟨o, h⟩) | h
 · exact .inl (.inl (x.tup _ _ h))
 · exact .inl (.inr ⟨o, x.frz _ _ _ h⟩)
 · exact .inr h
theorem Same.seqT (x : Same H H') (h : SqT K H a xs) : SqT K H' a xs := h.t x.t
mutual
theorem Rep.t (x : TSame H H') {v : V} {d : D} (hi : imm d = true) (h : Rep K H v d) : Rep K H' v d := by
 cases d with
 | non => exact h
 | bl b => exact h
 | int i => exact h
 | str x => exact h
 | tup ds =>
   obtain ⟨a, vs, e, q, r⟩ := h
   exact ⟨a, vs, e, q.t x, Reps.t x (by simpa [imm] using hi) r⟩
 | lst ds => simp [imm] at hi
theorem Reps.t (x : TSame H H') {vs : List V} {ds : List D} (hi : imms ds = true) (h : Reps K H vs ds) : Reps K H' vs ds := by
 cases ds with
 | nil => exact h
 | cons d r =>
   obtain ⟨v, q, e, h1, h2⟩ := h
   simp only [imms, Bool.and_eq_true] at hi
   exact ⟨v, q, e, Rep.t x hi.1 h1, Reps.t x hi.2 h2⟩
end
mutual
theorem Rep.same (x : Same H H') {v : V} {d : D} (h : Rep K H v d) : Rep K H' v d := by
 cases d with
 | non => exact h
 | bl b => exact h
 | int i => exact h
 | str x => exact h
 | tup ds =>
   obtain ⟨a, vs, e, q, r⟩ := h
   exact ⟨a, vs, e, x.seqT q, Reps.same x r⟩
 | lst ds =>
   obtain ⟨a, vs, e, q, r⟩ := h
   exact ⟨a, vs, e, x.seq q, Reps.same x r⟩
theorem Reps.same (x : Same H H') {vs : List V} {ds : List D} (h : Reps K H vs ds) : Reps K H' vs ds := by
 cases ds with
 | nil => exact h
 | cons d r =>
   obtain ⟨v, q, e, h1, h2⟩ := h
   exact ⟨v, q, e, Rep.same x h1, Reps.same x h2⟩
end
theorem Reps.length : ∀ {vs : List V} {ds : List D}, Reps K H vs ds → vs.length = ds.length
 | vs, [], h => by cases (show vs = [] from h); rfl
 | vs, d :: ds, h => by
   obtain ⟨v, r, rfl, _, h2⟩ := h
   rw [List.length_cons, List.length_cons, Reps.length h2]
theorem Reps.get : ∀ {vs : List V} {ds : List D} {i : Nat} {d : D}, Reps K H vs ds → ds[i]? = some d → ∃ v, vs[i]? = some v ∧ Rep K H v d
 | vs, [], i, d, h, e => by simp at e
 | vs, d0 :: ds, 0, d, h, e => by
   obtain ⟨v, r, rfl, h1, _⟩ := h
   simp only [List.getElem?_cons_zero, Option.some.injEq] at e
   subst e
   exact ⟨v, by simp, h1⟩
 | vs, d0 :: ds, i + 1, d, h, e => by
   obtain ⟨v, r, rfl, _, h2⟩ := h
   obtain ⟨u, e1, e2⟩ := Reps.get (i := i) h2 (by simpa using e)
   exact ⟨u, by simpa using e1, e2⟩
theorem Reps.getV : ∀ {vs : List V} {ds : List D} {i : Nat} {v : V}, Reps K H vs ds → vs[i]? = some v → ∃ d, ds[i]? = some d ∧ Rep K H v d := fun {vs ds i v} h e => by
 have hl := h.length
 have hi : i < vs.length := (List.getElem?_eq_some_iff.mp e).1
 obtain ⟨d, hd⟩ : ∃ d, ds[i]? = some d := ⟨ds[i]'(by omega), by simp <;> omega⟩
 obtain ⟨u, e1, e2⟩ := h.get hd
 rw [e] at e1
 cases e1
 exact ⟨d, hd, e2⟩
theorem Reps.append : ∀ {vs ws : List V} {ds es : List D}, Reps K H vs ds → Reps K H ws es → Reps K H (vs ++ ws) (ds ++ es)
 | vs, ws, [], es, h, h' => by cases (show vs = [] from h); exact h'
 | vs, ws, d :: ds, es, h, h' => by
   obtain ⟨v, r, rfl, h1, h2⟩ := h
   exact ⟨v, r ++ ws, rfl, h1, Reps.append h2 h'⟩
theorem Reps.one {v : V} {d : D} (h : Rep K H v d) : Reps K H [v] [d] := ⟨v, [], rfl, h, rfl⟩
theorem Reps.snoc {vs : List V} {ds : List D} {v : V} {d : D} (h : Reps K H vs ds) (h' : Rep K H v d) : Reps K H (vs ++ [v]) (ds ++ [d]) := h.append (.one h')
theorem Reps.take : ∀ {vs : List V} {ds : List D} (n : Nat), Reps K H vs ds → Reps K H (vs.take n) (ds.take n)
 | vs, ds, 0, h => by simp [Reps]
 | vs, [], n + 1, h => by cases (show vs = [] from h); simp [Reps]
 | vs, d :: ds, n + 1, h => by
   obtain ⟨v, r, rfl, h1, h2⟩ := h
   exact ⟨v, r.take n, rfl, h1, Reps.take n h2⟩
theorem Reps.drop : ∀ {vs : List V} {ds : List D} (n : Nat), Reps K H vs ds → Reps K H (vs.drop n) (ds.drop n)
 | vs, ds, 0, h => h
 | vs, [], n + 1, h => by cases (show vs = [] from h); simp [Reps]
 | vs, d :: ds, n + 1, h => by
   obtain ⟨v, r, rfl, h1, h2⟩ := h
   exact Reps.drop n h2
noncomputable def nums (ns : List Int) : List D := ns.map D.int
noncomputable abbrev tI (ns : List Int) : D := .tup (nums ns)
theorem imms_nums : ∀ ns : List Int, imms (nums ns) = true
 | [] => rfl
 | n :: ns => by show (imm (.int n) && imms (nums ns)) = true; rw [imms_nums ns]; rfl
theorem imm_tI (ns : List Int) : imm (tI ns) = true := imms_nums ns
theorem imms_tIs : ∀ xs : List (List Int), imms (xs.map tI) = true
 | [] => rfl
 | x :: xs => by show (imm (tI x) && imms (xs.map tI)) = true; rw [imms_tIs xs, imm_tI]; rfl
theorem eqDs_nums : ∀ a b : List Int, eqDs (nums a) (nums b) = decide (a = b)
 | [], [] => by simp [nums, eqDs]
 | [], _ :: _ => by simp [nums, eqDs]
 | _ :: _, [] => by simp [nums, eqDs]
 | x :: a, y :: b => by
   show (eqD (.int x) (.int y) && eqDs (nums a) (nums b)) = _
   rw [eqDs_nums a b]
   simp only [eqD]
   by_cases e : x = y
   · subst e; by_cases e2 : a = b <;> simp [e2]
   · simp [e]
theorem eqD_tI (a b : List Int) : eqD (tI a) (tI b) = decide (a = b) := by simp only [eqD]; exact eqDs_nums a b
theorem reps_nums : ∀ {vs : List V} {ns : List Int}, Reps K H vs (nums ns) ↔ vs = ns.map V.int
 | vs, [] => Iff.rfl
 | vs, n :: ns => by
   constructor
   · rintro ⟨v, r, rfl, h1, h2⟩
     have h1' : v = .int n := h1
     rw [h1', reps_nums.mp h2]; rfl
   · rintro rfl
     exact ⟨.int n, ns.map V.int, rfl, rfl, reps_nums.mpr rfl⟩
end
section
variable {X : Cx} {pins : List (Addr × Obj)} {σ : St} {H : Hp} {s : Shared}
theorem notBoth (I : Inv X pins σ H s) {a : Addr} {xs ys : List V} (h : SqT X.K H a xs) (h' : SqL X.K H a ys) : False := by
 obtain ⟨its, r, ⟨o, e, c, n, d⟩, _⟩ := I.tuple h
 obtain ⟨its', r', ⟨o', n', e', c', _, d'⟩, _⟩ := I.list h'
 rw [e] at e'; cases e'
 rw [c] at c'
 have z : ("tuple" : String) = "list" := by injection c'
 exact absurd z (by decide)
mutual
theorem Rep.inj (I : Inv X pins σ H s) {v : V} {d e : D} (h : Rep X.K H v d) (h' : Rep X.K H v e) : d = e := by
 cases d with
 | non => cases (show v = .non from h); cases e <;> first | rfl | (exfalso; first | (cases (show V.non = _ from h')) | (obtain ⟨_, _, z, _⟩ := h'; cases z))
 | bl b => cases (show v = .bl b from h); cases e <;> first | (cases (show V.bl b = _ from h'); rfl) | (exfalso; first | (cases (show V.bl b = _ from h')) | (obtain ⟨_, _, z, _⟩ := h'; cases z))
 | int b => cases (show v = .int b from h); cases e <;> first | (cases (show V.int b = _ from h'); rfl) | (exfalso; first | (cases (show V.int b = _ from h')) | (obtain ⟨_, _, z, _⟩ := h'; cases z))
 | str b => cases (show v = .str b from h); cases e <;> first | (cases (show V.str b = _ from h'); rfl) | (exfalso; first | (cases (show V.str b = _ from h')) | (obtain ⟨_, _, z, _⟩ := h'; cases z))
 | tup ds =>
   obtain ⟨a, vs, rfl, q, r⟩ := h
   cases e with
   | tup es =>
     obtain ⟨b, ws, z, q', r'⟩ := h'
     cases z
     have e1 := I.tuple_inj q q'
     subst e1
     rw [Reps.inj I r r']
   | lst es =>
     obtain ⟨b, ws, z, q', r'⟩ := h'
     cases z
     exact (notBoth I q q').elim
   | non => cases (show V.ref a = _ from h')
   | bl _ => cases (show V.ref a = _ from h')
   | int _ => cases (show V.ref a = _ from h')
   | str _ => cases (show V.ref a = _ from h')
 | lst ds =>
   obtain ⟨a, vs, rfl, q, r⟩ := h
   cases e with
   | lst es =>
     obtain ⟨b, ws, z, q', r'⟩ := h'
     cases z
     have e1 := I.list_inj q q'
     subst e1
     rw [Reps.inj I r r']
   | tup es =>
     obtain ⟨b, ws, z, q', r'⟩ := h'
     cases z
     exact (notBoth I q' q).elim
   | non => cases (show V.ref a = _ from h')
   | bl _ => cases (show V.ref a = _ from h')
   | int _ => cases (show V.ref a = _ from h')
   | str _ => cases (show V.ref a = _ from h')
theorem Reps.inj (I : Inv X pins σ H s) {vs : List V} {ds es : List D} (h : Reps X.K H vs ds) (h' : Reps X.K H vs es) : ds = es := by
 cases ds with
 | nil =>
   cases (show vs = [] from h)
   cases es with
   | nil => rfl
   | cons e es => obtain ⟨_, _, z, _⟩ := h'; cases z
 | cons d ds =>
   obtain ⟨v, r, rfl, h1, h2⟩ := h
   cases es with
   | nil => cases (show v :: r = [] from h')
   | cons e es =>
     obtain ⟨v', r', z, h1', h2'⟩ := h'
     cases z
     rw [Rep.inj I h1 h1', Reps.inj I h2 h2']
end
noncomputable def EqD (X : Cx) (H : Hp) (s : Shared) (d : D) : Prop := ∀ (A : Around) (x y : V) (u v : Value) (e : D), A.units + dep d < cLine → Rep X.K H x d → Rep X.K H y e → RelV x u → RelV y v → RcAt A s u v (eqD d e) ∧ EqAt A s u v (eqD d e)
theorem seq_eq (I : Inv X pins σ H s) {ds es : List D} {vs ws : List V} {us us' : List Value} {A : Around} (hu : A.units + deps ds < cLine) (r : Reps X.K H vs ds) (r' : Reps X.K H ws es) (rv : Vals vs us) (rv' : Vals ws us')
   (ih : ∀ d ∈ ds, EqD X H s d) (hdm : ∀ d ∈ ds, dep d ≤ deps ds) : ∀ j (h1 : j < us.toArray.size) (h2 : j < us'.toArray.size), EqAt A s us.toArray[j] us'.toArray[j] (match ds[j]?, es[j]? with | some x, some y => eqD x y | _, _ => true) := by
 intro j h1 h2
 have l1 := r.length
 have l2 := r'.length
 have l3 := rv.length
 have l4 := rv'.length
 have h1' : j < us.length := by simpa using h1
 have h2' : j < us'.length := by simpa using h2
 have e1 : ds[j]? = some (ds[j]'(by omega)) := by simp <;> omega
 have e2 : es[j]? = some (es[j]'(by omega)) := by simp <;> omega
 obtain ⟨v, ev, rd⟩ := r.get e1
 obtain ⟨w, ew, re⟩ := r'.get e2
 obtain ⟨u, eu, ru⟩ := rv.get ev
 obtain ⟨u', eu', ru'⟩ := rv'.get ew
 have f1 : us.toArray[j] = u := by
   have : us[j]? = some us[j] := by simp
   rw [eu] at this
   have := (Option.some.inj this).symm
   simpa using this
 have f2 : us'.toArray[j] = u' := by
   have : us'[j]? = some us'[j] := by simp
   rw [eu'] at this
   have := (Option.some.inj this).symm
   simpa using this
 rw [f1, f2, e1, e2]
 have hm : ds[j]'(by omega) ∈ ds := List.getElem_mem _
 exact (ih _ hm A v w u u' _ (by have := hdm _ hm; omega) rd re ru ru').2
theorem deps_le : ∀ {ds : List D} {d : D}, d ∈ ds → dep d ≤ deps ds
 | d0 :: ds, d, h => by
   simp only [deps]
   rcases List.mem_cons.mp h with rfl | h
   · omega
   · have := deps_le h; omega
theorem range_min {a b : List D} (h : ¬ a.length = b.length) : eqDs a b = false := by
 cases q : eqDs a b with
 | false => rfl
 | true => exact absurd (eqDs_len q) h
mutual
theorem eqD_ok (I : Inv X pins σ H s) (d : D) : EqD X H s d := by
 intro A x y u v e hu hx hy rx ry
 cases d with
 | non =>
   cases (show x = .non from hx)
   cases (show u = Value.none from rx)
   cases e with
   | non => cases (show y = .non from hy); cases (show v = Value.none from ry); exact ⟨.none_none, .same _⟩
   | bl b => cases (show y = .bl b from hy); cases (show v = Value.bool b from ry); exact ⟨.none_bool b, .none_bool b⟩
   | int i => cases (show y = .int i from hy); obtain ⟨t, rfl⟩ := ry; exact ⟨.none_int i t, .none_int i t⟩
   | str z => cases (show y = .str z from hy); obtain ⟨t, rfl⟩ := ry; exact ⟨.none_str z t, .none_str z t⟩
   | tup es => obtain ⟨a, vs, rfl, q, r⟩ := hy; cases ry; obtain ⟨its, _, p, _⟩ := I.tuple q; exact ⟨.none_tuple p (by omega), .none_tuple p (by omega)⟩
   | lst es => obtain ⟨a, vs, rfl, q, r⟩ := hy; cases ry; obtain ⟨its, _, p, _⟩ := I.list q; exact ⟨.none_list p.isList (by omega), .none_list p.isList (by omega)⟩
 | bl c =>
   cases (show x = .bl c from hx)
   cases (show u = Value.bool c from rx)
   cases e with
   | non => cases (show y = .non from hy); cases (show v = Value.none from ry); exact ⟨.bool_none c, .bool_none c⟩
   | bl b => cases (show y = .bl b from hy); cases (show v = Value.bool b from ry); exact ⟨.bool_bool c b, .bool_bool c b⟩
   | int i => cases (show y = .int i from hy); obtain ⟨t, rfl⟩ := ry; exact ⟨.bool_int c i t, .bool_int c i t⟩
   | str z => cases (show y = .str z from hy); obtain ⟨t, rfl⟩ := ry; exact ⟨.bool_str c z t, .bool_str c z t⟩
   | tup es => obtain ⟨a, vs, rfl, q, r⟩ := hy; cases ry; obtain ⟨its, _, p, _⟩ := I.tuple q; exact ⟨.bool_tuple c p (by omega), .bool_tuple c p (by omega)⟩
   | lst es => obtain ⟨a, vs, rfl, q, r⟩ := hy; cases ry; obtain ⟨its, _, p, _⟩ := I.list q; exact ⟨.bool_list c p.isList (by omega), .bool_list c p.isList (by omega)⟩
 | int c =>
   cases (show x = .int c from hx)
   obtain ⟨t, rfl⟩ := rx
   cases e with
   | non => cases (show y = .non from hy); cases (show v = Value.none from ry); exact ⟨.int_none c t, .int_none c t⟩
   | bl b => cases (show y = .bl b from hy); cases (show v = Value.bool b from ry); exact ⟨.int_bool c t b, .int_bool c t b⟩
   | int i => cases (show y = .int i from hy); obtain ⟨t', rfl⟩ := ry; exact ⟨.int_int c t i t', .int_int c t i t'⟩
   | str z => cases (show y = .str z from hy); obtain ⟨t', rfl⟩ := ry; exact ⟨.int_str c t z t', .int_str c t z t'⟩
   | tup es => obtain ⟨a, vs, rfl, q, r⟩ := hy; cases ry; obtain ⟨its, _, p, _⟩ := I.tuple q; exact ⟨.int_tuple c t p (by omega), .int_tuple c t p (by omega)⟩
   | lst es => obtain ⟨a, vs, rfl, q, r⟩ := hy; cases ry; obtain ⟨its, _, p, _⟩ := I.list q; exact ⟨.int_list c t p.isList (by omega), .int_list c t p.isList (by omega)⟩
 | str c =>
   cases (show x = .str c from hx)
   obtain ⟨t, rfl⟩ := rx
   cases e with
   | non => cases (show y = .non from hy); cases (show v = Value.none from ry); exact ⟨.str_none c t, .str_none c t⟩
   | bl b => cases (show y = .bl b from hy); cases (show v = Value.bool b from ry); exact ⟨.str_bool c t b, .str_bool c t b⟩
   | int i => cases (show y = .int i from hy); obtain ⟨t', rfl⟩ := ry; exact ⟨.str_int c t i t', .str_int c t i t'⟩
   | str z => cases (show y = .str z from hy); obtain ⟨t', rfl⟩ := ry; exact ⟨.str_str c t z t', .str_str c t z t'⟩
   | tup es => obtain ⟨a, vs, rfl, q, r⟩ := hy; cases ry; obtain ⟨its, _, p, _⟩ := I.tuple q; exact ⟨.str_tuple c t p (by omega), .str_tuple c t p (by omega)⟩
   | lst es => obtain ⟨a, vs, rfl, q, r⟩ := hy; cases ry; obtain ⟨its, _, p, _⟩ := I.list q; exact ⟨.str_list c t p.isList (by omega), .str_list c t p.isList (by omega)⟩
 | tup ds =>
   have hx' := hx
   obtain ⟨a, vs, rfl, q, r⟩ := hx
   cases rx
   obtain ⟨its, rv, p, _⟩ := I.tuple q
   have hu' : A.units + 1 + deps ds < cLine := by simp only [dep] at hu; omega
   cases e with
   | non => cases (show y = .non from hy); cases (show v = Value.none from ry); exact ⟨.tuple_none p (by omega), .tuple_none p (by omega)⟩
   | bl b => cases (show y = .bl b from hy); cases (show v = Value.bool b from ry); exact ⟨.tuple_bool b p (by omega), .tuple_bool b p (by omega)⟩
   | int i => cases (show y = .int i from hy); obtain ⟨t', rfl⟩ := ry; exact ⟨.tuple_int i t' p (by omega), .tuple_int i t' p (by omega)⟩
   | str z => cases (show y = .str z from hy); obtain ⟨t', rfl⟩ := ry; exact ⟨.tuple_str z t' p (by omega), .tuple_str z t' p (by omega)⟩
   | lst es => obtain ⟨b, ws, rfl, q', r'⟩ := hy; cases ry; obtain ⟨its', _, p', _⟩ := I.list q'; exact ⟨.tuple_list p p'.isList (by omega), .tuple_list p p'.isList (by omega)⟩
   | tup es =>
     have hy' := hy
     obtain ⟨b, ws, rfl, q', r'⟩ := hy
     cases ry
     obtain ⟨its', rv', p', _⟩ := I.tuple q'
     have main : RcAt A s (.ref a) (.ref b) (eqD (.tup ds) (.tup es)) := by
       have := RcAt.tuples (A := A) p p' (by omega) (seq_eq I (A := A.in1) (by show A.units + 1 + deps ds < cLine; omega) r r' rv rv' (eqDs_ok I ds) fun d h => deps_le h)
       have l1 := r.length
       have l2 := r'.length
       have l3 := rv.length
       have l4 := rv'.length
       have e1 : its.toArray.size = ds.length := by simp <;> omega
       have e2 : its'.toArray.size = es.length := by simp <;> omega
       rw [e1, e2] at this
       simp only [eqD]
       by_cases hl : ds.length = es.length
       · rw [eqDs_all ds es hl]
         rw [← hl, Nat.min_self] at this
         simpa using this
       · rw [range_min hl]
         have z : (ds.length == es.length) = false := by simpa using hl
         rw [z, Bool.and_false] at this
         exact this
     refine ⟨main, ?_⟩
     by_cases hab : a = b
     · subst hab
       have e3 : D.tup ds = D.tup es := Rep.inj I hx' hy'
       rw [e3, eqD_refl]
       exact .same _
     · exact .of_refs hab main
 | lst ds =>
   have hx' := hx
   obtain ⟨a, vs, rfl, q, r⟩ := hx
   cases rx
   obtain ⟨its, rv, p, _⟩ := I.list q
   have hu' : A.units + 1 + deps ds < cLine := by simp only [dep] at hu; omega
   cases e with
   | non => cases (show y = .non from hy); cases (show v = Value.none from ry); exact ⟨.list_none p.isList (by omega), .list_none p.isList (by omega)⟩
   | bl b => cases (show y = .bl b from hy); cases (show v = Value.bool b from ry); exact ⟨.list_bool b p.isList (by omega), .list_bool b p.isList (by omega)⟩
   | int i => cases (show y = .int i from hy); obtain ⟨t', rfl⟩ := ry; exact ⟨.list_int i t' p.isList (by omega), .list_int i t' p.isList (by omega)⟩
   | str z => cases (show y = .str z from hy); obtain ⟨t', rfl⟩ := ry; exact ⟨.list_str z t' p.isList (by omega), .list_str z t' p.isList (by omega)⟩
   | tup es => obtain ⟨b, ws, rfl, q', r'⟩ := hy; cases ry; obtain ⟨its', _, p', _⟩ := I.tuple q'; exact ⟨.list_tuple p.isList p' (by omega), .list_tuple p.isList p' (by omega)⟩
   | lst es =>
     have hy' := hy
     obtain ⟨b, ws, rfl, q', r'⟩ := hy
     cases ry
     obtain ⟨its', rv', p', _⟩ := I.list q'
     have main : RcAt A s (.ref a) (.ref b) (eqD (.lst ds) (.lst es)) := by
       have l1 := r.length
       have l2 := r'.length
       have l3 := rv.length
       have l4 := rv'.length
       have e1 : its.toArray.size = ds.length := by simp <;> omega
       have e2 : its'.toArray.size = es.length := by simp <;> omega
       simp only [eqD]
       by_cases hl : ds.length = es.length
       · have := RcAt.lists (A := A) p.isList p'.isList (by omega) (by omega) (seq_eq I (A := A.in1) (by show A.units + 1 + deps ds < cLine; omega) r r' rv rv' (eqDs_ok I ds) fun d h => deps_le h)
         rw [e1] at this
         rw [eqDs_all ds es hl]
         exact this
       · rw [range_min hl]
         exact RcAt.lists_lengths p.isList p'.isList (by simpa [e1, e2] using hl) (by omega)
     refine ⟨main, ?_⟩
     by_cases hab : a = b
     · subst hab
       have e3 : D.lst ds = D.lst es := Rep.inj I hx' hy'
       rw [e3, eqD_refl]
       exact .same _
     · exact .of_refs hab main
theorem eqDs_ok (I : Inv X pins σ H s) (ds : List D) : ∀ d ∈ ds, EqD X H s d := by
 cases ds with
 | nil => exact fun _ h => nomatch h
 | cons d0 r =>
   intro d h
   rcases List.mem_cons.mp h with e | h
   · exact e ▸ eqD_ok I d0
   · exact eqDs_ok I r d h
end
noncomputable def rEqD (K : PySem.W.Frag) (n : Nat) : R2 := fun x y H Q => ∃ d e, Rep K H x d ∧ Rep K H y e ∧ dep d ≤ n ∧ Q (.bl (eqD d e)) H
theorem op_eqD {n : Nat} (hu : X.A.units + n < cLine) : OpR X (compareOp .Eq) (rEqD X.K n) := by
 intro pins s σ H x y v u Q I rx ry h
 obtain ⟨d, e, hd, he, hn, q⟩ := h
 exact (eqD_ok I d X.A x y v u e (by omega) hd he rx ry).1 X.prog X.w X.xe _ ⟨.bl (eqD d e), H, I, rfl, q⟩
end
end L2
namespace L2
open PySem PySem.Spec PyProof.Rows PySem.SeqAt
section
variable {X : Cx}
noncomputable def eqF (X : Cx) (H : Hp) (d : D) (u : Value) : Bool := @decide (∃ v e, RelV v u ∧ Rep X.K H v e ∧ eqD e d = true) (Classical.propDecidable _)
theorem eqF_of {pins : List (Addr × Obj)} {σ : St} {H : Hp} {s : Shared} (I : Inv X pins σ H s) {d e : D} {v : V} {u : Value} (r : RelV v u) (h : Rep X.K H v e) : eqF X H d u = eqD e d := by
 cases q : eqD e d with
 | true => exact @decide_eq_true _ (Classical.propDecidable _) ⟨v, e, r, h, q⟩
 | false =>
   refine @decide_eq_false _ (Classical.propDecidable _) ?_
   rintro ⟨v', e', r', h', q'⟩
   have := r.inj r'
   subst this
   rw [Rep.inj I h h'] at q
   rw [q] at q'
   cases q'
theorem eqF_at {pins : List (Addr × Obj)} {σ : St} {H : Hp} {s : Shared} (I : Inv X pins σ H s) {A : Around} {x : V} {v : Value} {d : D} {vs : List V} {us : List Value} {ds : List D} (hu : A.units + deps ds < cLine) (hx : Rep X.K H x d) (rx : RelV x v)
   (r : Reps X.K H vs ds) (rv : Vals vs us) : ∀ y, y ∈ us.toArray → EqAt A s y v (eqF X H d y) := by
 intro y hy
 have hy' : y ∈ us := by simpa using hy
 obtain ⟨i, hi⟩ := List.getElem?_of_mem hy'
 have hlt : i < us.length := (List.getElem?_eq_some_iff.mp hi).1
 have l1 := rv.length
 obtain ⟨w, hw⟩ : ∃ w, vs[i]? = some w := ⟨vs[i]'(by omega), by simp <;> omega⟩
 obtain ⟨u, hu2, ru⟩ := rv.get hw
 rw [hi] at hu2
 cases hu2
 obtain ⟨e, he, re⟩ := r.getV hw
 rw [eqF_of I ru re]
 have hm : e ∈ ds := List.mem_of_getElem? he
 exact (eqD_ok I e A w x y v d (by have := deps_le hm; omega) re hx ru rx).2
theorem any_eqF {pins : List (Addr × Obj)} {σ : St} {H : Hp} {s : Shared} (I : Inv X pins σ H s) {d : D} : ∀ {vs : List V} {us : List Value} {ds : List D}, Reps X.K H vs ds → Vals vs us → us.any (eqF X H d) = ds.any fun e => eqD e d
 | vs, us, [], r, rv => by
   cases (show vs = [] from r)
   cases rv
   rfl
 | vs, us, e :: ds, r, rv => by
   obtain ⟨v, q, rfl, h1, h2⟩ := r
   cases rv with
   | cons r1 r2 => rw [List.any_cons, List.any_cons, eqF_of I r1 h1, any_eqF I h2 r2]
noncomputable def SeqD (K : PySem.W.Frag) (H : Hp) (y : V) (ds : List D) : Prop := Rep K H y (.lst ds) ∨ Rep K H y (.tup ds)
noncomputable def rInD (K : PySem.W.Frag) (n : Nat) (neg : Bool) : R2 := fun x y H Q => ∃ d ds, Rep K H x d ∧ SeqD K H y ds ∧ deps ds + 1 ≤ n ∧ Q (.bl (if neg then !(ds.any fun e => eqD e d) else ds.any fun e => eqD e d)) H
theorem op_inD {n : Nat} (hu : X.A.units + n < cLine) : OpR X (compareOp .In) (rInD X.K n false) := by
 intro pins s σ H x y v u Q I rx ry h
 obtain ⟨d, ds, hx, hs, hn, q⟩ := h
 have fin : ∀ {us : List Value} {vs : List V}, Reps X.K H vs ds → Vals vs us → EP X pins σ Q (.bool (us.toArray.any (eqF X H d))) s := fun r rv =>
   ⟨.bl (ds.any fun e => eqD e d), H, I, by show Value.bool _ = Value.bool _; rw [List.any_toArray, any_eqF I r rv], q⟩
 rcases hs with ⟨a, vs, rfl, hq, r⟩ | ⟨a, vs, rfl, hq, r⟩
 · cases ry
   obtain ⟨its, rv, p, _⟩ := I.list hq
   exact in_listAt (eqF X H d) p.isList (eqF_at I (A := X.A.in1) (by show X.A.units + 1 + deps ds < cLine; omega) hx rx r rv) (fin r rv)
 · cases ry
   obtain ⟨its, rv, p, _⟩ := I.tuple hq
   exact in_tupleAt (eqF X H d) p (eqF_at I (A := X.A.in1) (by show X.A.units + 1 + deps ds < cLine; omega) hx rx r rv) (fin r rv)
theorem op_notInD {n : Nat} (hu : X.A.units + n < cLine) : OpR X (compareOp .NotIn) (rInD X.K n true) := by
 intro pins s σ H x y v u Q I rx ry h
 obtain ⟨d, ds, hx, hs, hn, q⟩ := h
 have fin : ∀ {us : List Value} {vs : List V}, Reps X.K H vs ds → Vals vs us → EP X pins σ Q (.bool (!us.toArray.any (eqF X H d))) s := fun r rv =>
   ⟨.bl (!(ds.any fun e => eqD e d)), H, I, by show Value.bool _ = Value.bool _; rw [List.any_toArray, any_eqF I r rv], q⟩
 rcases hs with ⟨a, vs, rfl, hq, r⟩ | ⟨a, vs, rfl, hq, r⟩
 · cases ry
   obtain ⟨its, rv, p, _⟩ := I.list hq
   exact notIn_listAt (eqF X H d) p.isList (eqF_at I (A := X.A.in1) (by show X.A.units + 1 + deps ds < cLine; omega) hx rx r rv) (fin r rv)
 · cases ry
   obtain ⟨its, rv, p, _⟩ := I.tuple hq
   exact notIn_tupleAt (eqF X H d) p (eqF_at I (A := X.A.in1) (by show X.A.units + 1 + deps ds < cLine; omega) hx rx r rv) (fin r rv)
noncomputable def rIndex (K : PySem.W.Frag) (n : Nat) : V → List V → Hp → VK → Prop := fun x vs H Q => ∃ ds y d j, vs = [y] ∧ Rep K H x (.lst ds) ∧ Rep K H y d ∧ deps ds + 1 ≤ n ∧ ds.findIdx? (fun e => eqD e d) = some j ∧ Q (.int (j : Nat)) H
theorem mt_index {n : Nat} (hu : X.A.units + n < cLine) : MtR X "list.index" (rIndex X.K n) := by
 intro pins s σ H x vs v us Q I rx rv h
 obtain ⟨ds, y, d, j, rfl, ⟨a, ws, rfl, hq, r⟩, hy, hn, hj, q⟩ := h
 cases rx
 obtain ⟨u, rfl, ru⟩ := rv.one
 obtain ⟨its, rw', p, hz⟩ := I.list hq
 have l1 := r.length
 have l2 := rw'.length
 obtain ⟨hlt, hit, hno⟩ := List.findIdx?_eq_some_iff_getElem.mp hj
 have at' : ∀ m (hm : m < its.toArray.size) (hm' : m < ds.length), eqF X H d its.toArray[m] = eqD ds[m] d := fun m hm hm' => by
   obtain ⟨w, hw, re⟩ := r.get (i := m) (d := ds[m]) (by simp)
   obtain ⟨u', hu', ru'⟩ := rw'.get hw
   have e1 : its.toArray[m] = u' := by
     have hm2 : m < its.length := by simpa using hm
     have : its[m]? = some its[m] := by simp
     rw [hu'] at this
     have := (Option.some.inj this).symm
     simpa using this
   rw [e1]
   exact eqF_of I ru' re
 obtain ⟨o, k, ho, hc, hdn, hd⟩ := id p
 obtain ⟨cls, dd, data, sl⟩ := o
 simp only at hc hdn hd
 subst hc hdn hd
 have hsz : ds.length ≤ sizeLine := by omega
 have big : (sizeLine : Nat) < 2 ^ 62 := by rw [sizeLine_eq]; decide
 refine call_meets PySem.F.slot_list_index ⟨_, ho, rfl⟩ PySem.F.entry_list_index (PySem.F.args_list_index_2 _ _)
   (list_indexAt a its.toArray k none sl u (eqF X H d) j (by simp <;> omega) (by omega) ?_ ?_) ⟨ho, eqF_at I (A := X.A.in1) (by show X.A.units + 1 + deps ds < cLine; omega) hy ru r rw', ?_⟩
 · rw [at' j (by simp <;> omega) hlt]; exact hit
 · intro m hm hmj
   rw [at' m hm (by omega)]
   have := hno m hmj
   simpa using this
 · exact ⟨.int (j : Nat), H, I.tok _, ⟨_, rfl⟩, q⟩
noncomputable def rNeD (K : PySem.W.Frag) (n : Nat) : R2 := fun x y H Q => ∃ d e, Rep K H x d ∧ Rep K H y e ∧ dep d ≤ n ∧ Q (.bl (!eqD d e)) H
theorem op_neD {n : Nat} (hu : X.A.units + n < cLine) : OpR X (compareOp .NotEq) (rNeD X.K n) := by
 intro pins s σ H x y v u Q I rx ry h
 obtain ⟨d, e, hd, he, hn, q⟩ := h
 have fin : EP X pins σ Q (.bool (!eqD d e)) s := ⟨.bl (!eqD d e), H, I, rfl, q⟩
 have go : ∀ {k : Bool}, RcNeAt X.A s v u k → k = (!eqD d e) → wpAny (model X.prog X.w) X.A (compareOp .NotEq v u) (EP X pins σ Q) X.xe s := fun h1 h2 => by
   subst h2
   exact h1 X.prog X.w X.xe _ fin
 cases d with
 | non =>
   cases (show x = .non from hd)
   cases (show v = Value.none from rx)
   cases e with
   | non => cases (show y = .non from he); cases (show u = Value.none from ry); exact go .none_none rfl
   | bl b => cases (show y = .bl b from he); cases (show u = Value.bool b from ry); exact go (.none_bool b) rfl
   | int i => cases (show y = .int i from he); obtain ⟨t, rfl⟩ := ry; exact go (.none_int i t) rfl
   | str z => cases (show y = .str z from he); obtain ⟨t, rfl⟩ := ry; exact go (.none_str z t) rfl
   | tup es => obtain ⟨a, vs, rfl, q, r⟩ := he; cases ry; obtain ⟨its, _, p, _⟩ := I.tuple q; exact go (.none_tuple p (by omega)) rfl
   | lst es => obtain ⟨a, vs, rfl, q, r⟩ := he; cases ry; obtain ⟨its, _, p, _⟩ := I.list q; exact go (.none_list p.isList (by omega)) rfl
 | bl c =>
   cases (show x = .bl c from hd)
   cases (show v = Value.bool c from rx)
   cases e with
   | non => cases (show y = .non from he); cases (show u = Value.none from ry); exact go (.bool_none c) rfl
   | bl b => cases (show y = .bl b from he); cases (show u = Value.bool b from ry); exact go (.bool_bool c b) rfl
   | int i => cases (show y = .int i from he); obtain ⟨t, rfl⟩ := ry; exact go (.bool_int c i t) rfl
   | str z => cases (show y = .str z from he); obtain ⟨t, rfl⟩ := ry; exact go (.bool_str c z t) rfl
   | tup es => obtain ⟨a, vs, rfl, q, r⟩ := he; cases ry; obtain ⟨its, _, p, _⟩ := I.tuple q; exact go (.bool_tuple c p (by omega)) rfl
   | lst es => obtain ⟨a, vs, rfl, q, r⟩ := he; cases ry; obtain ⟨its, _, p, _⟩ := I.list q; exact go (.bool_list c p.isList (by omega)) rfl
 | int c =>
   cases (show x = .int c from hd)
   obtain ⟨t, rfl⟩ := rx
   cases e with
   | non => cases (show y = .non from he); cases (show u = Value.none from ry); exact go (.int_none c t) rfl
   | bl b => cases (show y = .bl b from he); cases (show u = Value.bool b from ry); exact go (.int_bool c t b) rfl
   | int i => cases (show y = .int i from he); obtain ⟨t', rfl⟩ := ry; exact go (.int_int c t i t') rfl
   | str z => cases (show y = .str z from he); obtain ⟨t', rfl⟩ := ry; exact go (.int_str c t z t') rfl
   | tup es => obtain ⟨a, vs, rfl, q, r⟩ := he; cases ry; obtain ⟨its, _, p, _⟩ := I.tuple q; exact go (.int_tuple c t p (by omega)) rfl
   | lst es => obtain ⟨a, vs, rfl, q, r⟩ := he; cases ry; obtain ⟨its, _, p, _⟩ := I.list q; exact go (.int_list c t p.isList (by omega)) rfl
 | str c =>
   cases (show x = .str c from hd)
   obtain ⟨t, rfl⟩ := rx
   cases e with
   | non => cases (show y = .non from he); cases (show u = Value.none from ry); exact go (.str_none c t) rfl
   | bl b => cases (show y = .bl b from he); cases (show u = Value.bool b from ry); exact go (.str_bool c t b) rfl
   | int i => cases (show y = .int i from he); obtain ⟨t', rfl⟩ := ry; exact go (.str_int c t i t') rfl
   | str z => cases (show y = .str z from he); obtain ⟨t', rfl⟩ := ry; exact go (.str_str c t z t') rfl
   | tup es => obtain ⟨a, vs, rfl, q, r⟩ := he; cases ry; obtain ⟨its, _, p, _⟩ := I.tuple q; exact go (.str_tuple c t p (by omega)) rfl
   | lst es => obtain ⟨a, vs, rfl, q, r⟩ := he; cases ry; obtain ⟨its, _, p, _⟩ := I.list q; exact go (.str_list c t p.isList (by omega)) rfl
 | tup ds =>
   obtain ⟨a, vs, rfl, q1, r⟩ := hd
   cases rx
   obtain ⟨its, rv, p, _⟩ := I.tuple q1
   have hu' : X.A.units + 1 + deps ds < cLine := by simp only [dep] at hn; omega
   cases e with
   | non => cases (show y = .non from he); cases (show u = Value.none from ry); exact go (.tuple_none p (by omega)) rfl
   | bl b => cases (show y = .bl b from he); cases (show u = Value.bool b from ry); exact go (.tuple_bool b p (by omega)) rfl
   | int i => cases (show y = .int i from he); obtain ⟨t', rfl⟩ := ry; exact go (.tuple_int i t' p (by omega)) rfl
   | str z => cases (show y = .str z from he); obtain ⟨t', rfl⟩ := ry; exact go (.tuple_str z t' p (by omega)) rfl
   | lst es => obtain ⟨b, ws, rfl, q', r'⟩ := he; cases ry; obtain ⟨its', _, p', _⟩ := I.list q'; exact go (.tuple_list p p'.isList (by omega)) rfl
   | tup es =>
     obtain ⟨b, ws, rfl, q', r'⟩ := he
     cases ry
     obtain ⟨its', rv', p', _⟩ := I.tuple q'
     refine go (RcNeAt.tuples p p' (by omega) (seq_eq I (A := X.A.in1) (by show X.A.units + 1 + deps ds < cLine; omega) r r' rv rv' (eqDs_ok I ds) fun d h => deps_le h)) ?_
     have l1 := r.length
     have l2 := r'.length
     have l3 := rv.length
     have l4 := rv'.length
     have e1 : its.toArray.size = ds.length := by simp <;> omega
     have e2 : its'.toArray.size = es.length := by simp <;> omega
     rw [e1, e2]
     simp only [eqD]
     by_cases hl : ds.length = es.length
     · rw [eqDs_all ds es hl, ← hl, Nat.min_self]
       simp
     · rw [range_min hl]
       have z : (ds.length == es.length) = false := by simpa using hl
       rw [z, Bool.and_false]
 | lst ds =>
   obtain ⟨a, vs, rfl, q1, r⟩ := hd
   cases rx
   obtain ⟨its, rv, p, _⟩ := I.list q1
   have hu' : X.A.units + 1 + deps ds < cLine := by simp only [dep] at hn; omega
   cases e with
   | non => cases (show y = .non from he); cases (show u = Value.none from ry); exact go (.list_none p.isList (by omega)) rfl
   | bl b => cases (show y = .bl b from he); cases (show u = Value.bool b from ry); exact go (.list_bool b p.isList (by omega)) rfl
   | int i => cases (show y = .int i from he); obtain ⟨t', rfl⟩ := ry; exact go (.list_int i t' p.isList (by omega)) rfl
   | str z => cases (show y = .str z from he); obtain ⟨t', rfl⟩ := ry; exact go (.list_str z t' p.isList (by omega)) rfl
   | tup es => obtain ⟨b, ws, rfl, q', r'⟩ := he; cases ry; obtain ⟨its', _, p', _⟩ := I.tuple q'; exact go (.list_tuple p.isList p' (by omega)) rfl
   | lst es =>
     obtain ⟨b, ws, rfl, q', r'⟩ := he
     cases ry
     obtain ⟨its', rv', p', _⟩ := I.list q'
     have l1 := r.length
     have l2 := r'.length
     have l3 := rv.length
     have l4 := rv'.length
     have e1 : its.toArray.size = ds.length := by simp <;> omega
     have e2 : its'.toArray.size = es.length := by simp <;> omega
     by_cases hl : ds.length = es.length
     · refine go (RcNeAt.lists p.isList p'.isList (by omega) (by omega) (seq_eq I (A := X.A.in1) (by show X.A.units + 1 + deps ds < cLine; omega) r r' rv rv' (eqDs_ok I ds) fun d h => deps_le h)) ?_
       rw [e1]
       simp only [eqD]
       rw [eqDs_all ds es hl]
     · refine go (RcNeAt.lists_lengths p.isList p'.isList (by simpa [e1, e2] using hl) (by omega)) ?_
       simp only [eqD]
       rw [range_min hl]
       rfl
noncomputable def isD (n : String) : D → Bool
 | .non => false
 | .bl _ => n == "int" || n == "bool"
 | .int _ => n == "int"
 | .str _ => n == "str"
 | .tup _ => n == "tuple"
 | .lst _ => n == "list"
noncomputable def tyD : D → String
 | .non => "NoneType"
 | .bl _ => "bool"
 | .int _ => "int"
 | .str _ => "str"
 | .tup _ => "tuple"
 | .lst _ => "list"
theorem kit_ok {K : PySem.W.Frag} {n : String} {d : D} (hn : n = "int" ∨ n = "bool" ∨ n = "str" ∨ n = "tuple" ∨ n = "list" ∨ n = "dict") : PySem.W.kitOne K (.type (tyD d)) (.type n) = some (isD n d) := by
 rcases hn with rfl | rfl | rfl | rfl | rfl | rfl <;> cases d <;> (unfold PySem.W.kitOne PySem.W.kitCls PySem.W.subIn tyD isD; first | rfl | decide +kernel)
theorem call_isinst : CallR X (.builtin "isinstance") (fun xs H Q => ∃ x n d, xs = [x, .ty n] ∧ (n = "int" ∨ n = "bool" ∨ n = "str" ∨ n = "tuple" ∨ n = "list" ∨ n = "dict") ∧ Rep X.K H x d ∧ Q (.bl (isD n d)) H) := by
 intro pins s σ H xs us Q I r h
 obtain ⟨x, n, d, rfl, hn, hx, q⟩ := h
 obtain ⟨u, v, rfl, rx, rt⟩ := vals2 r
 cases rt
 have k := kit_ok (K := X.K) (d := d) hn
 have fin : ∀ tk, EP X pins σ Q (.bool (isD n d)) { s with toks := tk } := fun tk => ⟨.bl (isD n d), H, I.tok tk, rfl, q⟩
 cases d with
 | non => cases (show x = .non from hx); cases (show u = Value.none from rx); exact PySem.W.kia_one PySem.W.kitx_none I.kIn True.intro k (fun z => nomatch z) fin
 | bl b => cases (show x = .bl b from hx); cases (show u = Value.bool b from rx); exact PySem.W.kia_one PySem.W.kitx_bool I.kIn True.intro k (fun z => nomatch z) fin
 | int b => cases (show x = .int b from hx); obtain ⟨t, rfl⟩ := rx; exact PySem.W.kia_one PySem.W.kitx_int I.kIn True.intro k (fun z => nomatch z) fin
 | str b => cases (show x = .str b from hx); obtain ⟨t, rfl⟩ := rx; exact PySem.W.kia_one PySem.W.kitx_str I.kIn True.intro k (fun z => nomatch z) fin
 | tup ds =>
   obtain ⟨a, vs, rfl, hq, _⟩ := hx
   cases rx
   obtain ⟨its, _, ⟨o, e, c, _⟩, _⟩ := I.tuple hq
   exact PySem.W.kia_one PySem.W.kitx_tuple I.kIn ⟨o, e, c⟩ k (fun z => nomatch z) fin
 | lst ds =>
   obtain ⟨a, vs, rfl, hq, _⟩ := hx
   cases rx
   obtain ⟨its, _, ⟨o, _, e, c, _⟩, _⟩ := I.list hq
   exact PySem.W.kia_one PySem.W.kitx_list I.kIn ⟨o, e, c⟩ k (fun z => nomatch z) fin
noncomputable def rCatW (K : PySem.W.Frag) : R2 := fun x y H Q => ∃ a b xs ys, x = .ref a ∧ y = .ref b ∧ SqT K H a xs ∧ SqT K H b ys ∧ xs.length + ys.length ≤ sizeLine ∧ ∀ p H', Same H H' → SqT K H' p (xs ++ ys) → Q (.ref p) H'
theorem op_catW : OpR X (binaryOp .Add) (rCatW X.K) := by
 intro pins s σ H x y v u Q I rx ry h
 obtain ⟨a, b, xs, ys, rfl, rfl, ha, hb, hz, q⟩ := h
 by_cases hx : xs = []
 · subst hx
   cases rx
   cases ry
   obtain ⟨its, r1, p1, _⟩ := I.tuple ha
   obtain ⟨its2, r2, p2, _⟩ := I.tuple hb
   cases r1
   obtain ⟨⟨cls, dd, data, sl⟩, ho, hc, n, hd⟩ := id p1
   obtain ⟨⟨cls2, dd2, data2, sl2⟩, ho2, hc2, n2, hd2⟩ := id p2
   simp only at hc hd hc2 hd2
   subst hc hd hc2 hd2
   exact concat_meets ⟨_, ho, rfl⟩ ⟨_, ho2, rfl⟩ noFill_tuple_add seq_tuple_add PySem.F.slot_tuple_add PySem.F.entry_tuple_add (PySem.F.args_tuple_add_2 _ _)
     (tuple_addW0 a b _ _ n n2 dd dd2 sl sl2 (by simp)) ⟨ho, ho2, ⟨.ref b, H, I, rfl, q b H (Same.refl H) (by simpa using hb)⟩⟩
 · refine op_catT pins s σ H (.ref a) (.ref b) v u Q I rx ry ⟨a, b, xs, ys, rfl, rfl, ha, hb, hx, hz, fun e => ?_, fun e p hp => ?_⟩
   · subst e; exact q a H (Same.refl H) (by simpa using ha)
   · exact q p _ (Same.new hp) (.of upd_same)
noncomputable def rSlTW (K : PySem.W.Frag) : V → Option Int → Option Int → Hp → VK → Prop := fun x lo hi H Q => ∃ a xs, x = .ref a ∧ SqT K H a xs ∧
 ¬ (HT.sIx xs.length 0 lo = 0 ∧ HT.sIx xs.length xs.length hi = xs.length) ∧ ∀ p H', Same H H' → SqT K H' p (cutV xs lo hi) → Q (.ref p) H'
theorem sl_tupW : SlR X (rSlTW X.K) := by
 intro pins s σ H x v vl vu lo hi sl Q I rx hs pl pu h
 obtain ⟨a, xs, rfl, hx, hw, q⟩ := h
 exact sl_tup pins s σ H (.ref a) v vl vu lo hi sl Q I rx hs pl pu ⟨a, xs, rfl, hx, hw, fun p hp => q p _ (Same.new hp) (.of upd_same)⟩
noncomputable def rCatLW (K : PySem.W.Frag) : R2 := fun x y H Q => ∃ l b xs zs, x = .ref l ∧ y = .ref b ∧ SqL K H l xs ∧ SqL K H b zs ∧ xs.length + zs.length ≤ sizeLine ∧ ∀ p, H p = none → Q (.ref p) (upd H p (.lst (xs ++ zs)))
theorem op_catLW : OpR X (binaryOp .Add) (rCatLW X.K) := by
 intro pins s σ H x y v u Q I rx ry h
 obtain ⟨l, b, xs, zs, rfl, rfl, hl, hb, hz, q⟩ := h
 cases rx
 cases ry
 obtain ⟨its, r1, p1, _⟩ := I.list hl
 obtain ⟨its2, r2, p2, _⟩ := I.list hb
 obtain ⟨⟨cls, dd, data, sl⟩, n, ho, hc, hdd, hd⟩ := id p1
 obtain ⟨⟨cls2, dd2, data2, sl2⟩, n2, ho2, hc2, hdd2, hd2⟩ := id p2
 simp only at hc hd hc2 hd2
 subst hc hd hc2 hd2
 refine concat_meets ⟨_, ho, rfl⟩ ⟨_, ho2, rfl⟩ noFill_list_add seq_list_add PySem.F.slot_list_add PySem.F.entry_list_add (PySem.F.args_list_add_2 _ _)
   (list_addW l b its.toArray its2.toArray n n2 dd dd2 sl sl2 (by rw [List.size_toArray, List.size_toArray, ← r1.length, ← r2.length]; exact hz)) ⟨ho, ho2, ?_⟩
 rw [show its.toArray ++ its2.toArray = (its ++ its2).toArray by simp]
 exact ⟨.ref s.heap.objs.size, _, I.lnew (t' := s.toks) (r1.append r2) (by rw [List.length_append]; exact hz), rfl, q _ I.fresh⟩
theorem call_allB (hc : X.calm = true) : CallR X (.builtin "all") (fun xs H Q => ∃ (p : Addr) (bs : List Bool), xs = [.ref p] ∧ SqL X.K H p (bs.map V.bl) ∧ Q (.bl (bs.all id)) H) := by
 intro pins s σ H xs us Q I r h
 obtain ⟨p, bs, rfl, hq, q⟩ := h
 obtain ⟨u, rfl, ru⟩ := vals1 r
 cases ru
 obtain ⟨its, rv, pl, hz⟩ := I.list hq
 have hh : X.A.handled = none := I.ok.hd hc
 have rel : ∀ (i : Nat) (v : Value), its.toArray[i]? = some v → ∃ b, bs[i]? = some b ∧ v = .bool b := fun i v e => by
   have e' : its[i]? = some v := by simpa using e
   have hlt : i < its.length := (List.getElem?_eq_some_iff.mp e').1
   have l1 := rv.length
   rw [List.length_map] at l1
   have hb : bs[i]? = some (bs[i]'(by omega)) := by simp <;> omega
   obtain ⟨u, hu, ru⟩ := rv.get (i := i) (x := V.bl (bs[i]'(by omega))) (by rw [List.getElem?_map, hb]; rfl)
   rw [e'] at hu
   cases hu
   exact ⟨_, hb, ru⟩
 refine call_all_walk (wpAny_pyIter_list pl.isList ?_)
 refine ⟨s.heap.objs.size, [s.heap.objs.size, p], [s.heap.objs.size], its.toArray.size, _, _, fun i => (bs[i]?).getD true, rfl, Walks.list (show X.A.in1.handled = none from hh) s.heap.objs.size p ?_ its.toArray, ⟨⟨_, Heap.get?_push_size _ rfl, rfl, rfl⟩, ?_⟩, ?_, fun h' tk k => ?_⟩
 · obtain ⟨o, _, ho, _⟩ := pl
   exact Nat.ne_of_lt (Heap.lt_size ho)
 · exact pl.isList.at fun o e => Heap.get?_push_of_some _ e
 · intro i v s' Q' E' hv hQ
   obtain ⟨b, hb, rfl⟩ := rel i v hv
   dsimp only at hQ
   rw [hb] at hQ
   exact wpAny_truthy_bool hQ
 · have e : (List.range its.toArray.size).all (fun i => (bs[i]?).getD true) = bs.all id := by
     have l1 := rv.length
     rw [List.length_map] at l1
     rw [List.size_toArray, ← l1]
     rw [Bool.eq_iff_iff, List.all_eq_true, List.all_eq_true]
     constructor
     · intro hx b hb
       obtain ⟨i, hi⟩ := List.getElem?_of_mem hb
       have := hx i (List.mem_range.mpr (List.getElem?_eq_some_iff.mp hi).1)
       rw [hi] at this
       exact this
     · intro hx i hi
       have hlt := List.mem_range.mp hi
       have hb : bs[i]? = some bs[i] := by simp
       rw [hb]
       exact hx _ (List.getElem_mem _)
   rw [e]
   have I1 : Inv X pins σ H { s with heap := h', toks := tk } := I.kept (fun b o e => k b o (by simp; exact Nat.ne_of_lt (Heap.lt_size e)) (Heap.get?_push_of_some _ e))
   exact ⟨.bl (bs.all id), H, I1, rfl, q⟩
end
structure Has (P : Program) (w : World) (K : PySem.W.Frag) (mg : Str → Option Value) (base : Heap) (x : Str) (ps : List Str) (k : Nat) (sp : Sp) : Prop where
 ex : ∃ (f : Addr) (fd : FuncData), mg x = some (.ref f) ∧ PySem.W.keepIn K (.ref f) = true ∧ Binds K fd ps [] ∧ FnOk P w K mg base CX0 k f fd ps sp
section
variable {X : Cx} {x : Str} {ps : List Str} {j k : Nat} {sp : Sp} {p pos : Pos} {e : Expr} {es : List Expr} {t : TA}
theorem pe_callH (h : Has X.prog X.w X.K X.mg X.base x ps j sp) (hr : Room k X.A) (hg : Gl X x) (ha : PA X (e :: es) t) (hk : j ≤ k := by decide) (hdb : (x == ("__debug__" : Str)) = false := by decide)
   (he : starEach (e :: es) X.env = (false, eval e X.env) :: starEach es X.env := by rfl) (hpl : (backTo pos (starEach es X.env)).any (·.1) = false := by rfl) : PE X (.Call (.Name x p) (e :: es) [] pos) (tCall sp [] E0 t) := by
 obtain ⟨f, fd, h1, h2, h3, h4⟩ := h.ex
 exact pe_call h4 (hr.mono hk) hg h1 h2 h3 .nil pass0 ha hdb he hpl
end
theorem boot_intT : bootBuiltins "int" = some (.type "int") := by decide +kernel
theorem boot_boolT : bootBuiltins "bool" = some (.type "bool") := by decide +kernel
theorem boot_tupleT : bootBuiltins "tuple" = some (.type "tuple") := by decide +kernel
theorem boot_listT : bootBuiltins "list" = some (.type "list") := by decide +kernel
theorem boot_dictT : bootBuiltins "dict" = some (.type "dict") := by decide +kernel
theorem boot_maxB : bootBuiltins "max" = some (.builtin "max") := by decide +kernel
theorem boot_allB : bootBuiltins "all" = some (.builtin "all") := by decide +kernel
theorem boot_isinstanceB : bootBuiltins "isinstance" = some (.builtin "isinstance") := by decide +kernel
end L2
namespace L2
open PySem PySem.Spec PyProof.Rows
section
variable {X : Cx} {K : PySem.W.Frag} {tg l : Expr} {tl : TE} {n : Nat}
theorem kop_catW (hK : X.K = K := by rfl) : OpR X (binaryOp .Add) (rCatW K) := by subst hK; exact op_catW
theorem kop_catLW (hK : X.K = K := by rfl) : OpR X (binaryOp .Add) (rCatLW K) := by subst hK; exact op_catLW
theorem ksl_tupW (hK : X.K = K := by rfl) : SlR X (rSlTW K) := by subst hK; exact sl_tupW
theorem ksl_list (hK : X.K = K := by rfl) : SlR X (rSlL K) := by subst hK; exact sl_list
theorem kix_list (hK : X.K = K := by rfl) : IxR X (rIxL K) := by subst hK; exact ix_list
theorem kix_tup (hK : X.K = K := by rfl) : IxR X (rIxT K) := by subst hK; exact ix_tup
theorem kcall_len_seq (hK : X.K = K := by rfl) : CallR X (.builtin "len") (fun xs H Q => ∃ p ys, xs = [.ref p] ∧ (SqL K H p ys ∨ SqT K H p ys) ∧ Q (.int ys.length) H) := by subst hK; exact call_len_seq
theorem kcall_list_of (hK : X.K = K := by rfl) : CallR X (.type "list") (fun xs H Q => ∃ p ys, xs = [.ref p] ∧ (SqL K H p ys ∨ SqT K H p ys) ∧ ∀ l, H l = none → Q (.ref l) (upd H l (.lst ys))) := by subst hK; exact call_list_of
theorem kcall_tuple_of (hK : X.K = K := by rfl) : CallR X (.type "tuple") (fun xs H Q => ∃ p ys, xs = [.ref p] ∧ ((SqL K H p ys ∧ ∀ l, H l = none → Q (.ref l) (upd H l (.tup ys))) ∨ (SqT K H p ys ∧ Q (.ref p) H))) := by subst hK; exact call_tuple_of
theorem kcall_isinst (hK : X.K = K := by rfl) : CallR X (.builtin "isinstance") (fun xs H Q => ∃ x n d, xs = [x, .ty n] ∧ (n = "int" ∨ n = "bool" ∨ n = "str" ∨ n = "tuple" ∨ n = "list" ∨ n = "dict") ∧ Rep K H x d ∧ Q (.bl (isD n d)) H) := by subst hK; exact call_isinst
theorem kcall_allB (hc : X.calm = true) (hK : X.K = K := by rfl) : CallR X (.builtin "all") (fun xs H Q => ∃ (p : Addr) (bs : List Bool), xs = [.ref p] ∧ SqL K H p (bs.map V.bl) ∧ Q (.bl (bs.all id)) H) := by subst hK; exact call_allB hc
theorem kop_inD (hu : X.A.units + n < cLine) (hK : X.K = K := by rfl) : OpR X (compareOp .In) (rInD K n false) := by subst hK; exact op_inD hu
theorem kop_notInD (hu : X.A.units + n < cLine) (hK : X.K = K := by rfl) : OpR X (compareOp .NotIn) (rInD K n true) := by subst hK; exact op_notInD hu
theorem kop_eqD (hu : X.A.units + n < cLine) (hK : X.K = K := by rfl) : OpR X (compareOp .Eq) (rEqD K n) := by subst hK; exact op_eqD hu
theorem kop_neD (hu : X.A.units + n < cLine) (hK : X.K = K := by rfl) : OpR X (compareOp .NotEq) (rNeD K n) := by subst hK; exact op_neD hu
theorem kmt_index (hu : X.A.units + n < cLine) (hK : X.K = K := by rfl) : MtR X "list.index" (rIndex K n) := by subst hK; exact mt_index hu
theorem kpi_list (hl : PE X l tl) (hK : X.K = K := by rfl) : PI X tg l (iList K tl) := by subst hK; exact pi_list hl
theorem kpi_tup (hl : PE X l tl) (hK : X.K = K := by rfl) : PI X tg l (iTup K tl) := by subst hK; exact pi_tup hl
variable {o e : Expr} {es : List Expr} {to : TE} {t : TA} {name : Str} {apos cpos : Pos} {T id : String} {r : V → List V → Hp → VK → Prop}
theorem kpe_bm (pa : PlainAttrs T) (slot : Slot T name id) (hty : typeOf (.builtin id) = pure (.type "method_descriptor")) (hm : MtR X id r) (ho : PE X o to) (ha : PA X (e :: es) t) (hK : X.K = K := by rfl)
   (hbase : attributeBase o name X.env (eval o X.env) = eval o X.env := by rfl)
   (hfew : ((backTo cpos (starEach (e :: es) X.env)).all (fun x => !x.1) && (backToKw cpos (keywordEach [] X.env)).all (fun x => x.1.isSome)
     && decide ((e :: es).length + ([] : List Keyword).length + (if ([] : List Keyword).isEmpty then 0 else 1) < 30)) = true := by rfl)
   (hline : (apos.endLine == cpos.line) = true := by rfl) (hs : starEach (e :: es) X.env = (false, eval e X.env) :: starEach es X.env := by rfl) (hplain : (backTo cpos (starEach es X.env)).any (·.1) = false := by rfl) :
   PE X (.Call (.Attribute o name apos) (e :: es) [] cpos) (tBM K T r to t) := by subst hK; exact pe_bm pa slot hty hm ho ha hbase hfew hline hs hplain
theorem kpg_tup {es : List Expr} {k : Nat} {t : TGs} {n : Nat} {pos : Pos} (hc : X.calm = true) (h : PGs X es t) (hK : X.K = K := by rfl)
   (hn : (assignEach es X.env).length = n := by rfl) (hst : (assignEach es X.env).findIdx? (·.1) = none := by rfl) : PG X (.Tuple es k pos) (gTup K n t) := by subst hK; exact pg_tup hc h hn hst
end
end L2
namespace L2
open PySem PySem.Spec PyProof.Rows
theorem ObjOk.ob {P : Program} {w : World} {H : Hp} {h : Heap} {a : Addr} {o : HO} (x : ObjOk P w H h a o) : ∃ u, h.get? a = some u := by
 cases o with
 | lst xs => obtain ⟨_, _, _, _, e⟩ := x; exact ⟨_, e⟩
 | tup xs => obtain ⟨_, _, _, ob, e, _⟩ := x; exact ⟨_, e⟩
 | dK kvs => obtain ⟨_, _, _, _, ob, _, _, e, _⟩ := x; exact ⟨_, e⟩
 | dT kvs => obtain ⟨_, _, _, _, ob, _, _, e, _⟩ := x; exact ⟨_, e⟩
 | set S n => obtain ⟨ob, _, _, _, e, _⟩ := x; exact ⟨_, e⟩
 | ins C dx fs => obtain ⟨_, _, _, e, _⟩ := x; exact ⟨_, e⟩
 | own y => exact x
 | xd fs => obtain ⟨_, ⟨ob, _, _, e, _⟩, _⟩ := x; exact ⟨_, e⟩
 | rng lo hi => obtain ⟨_, _, _, e⟩ := x; exact ⟨_, e⟩
 | frz ob u => obtain ⟨e, _⟩ := x; exact ⟨_, e⟩
 | tbl ps => exact ⟨_, (show h.get? a = some _ from x)⟩
 | met f y => exact ⟨_, (show h.get? a = some _ from x)⟩
 | ext φ => obtain ⟨_, e, _⟩ := x; exact e
structure XUn (fs : List Addr) (H H' : Hp) (h B h' : Heap) : Prop where
 kp : ∀ b o, h.get? b = some o → H b = none → b ∉ fs → B.get? b = some o
 sl : ∀ b o, h.get? b = some o → H b = none → b ∈ fs → ∃ z, h'.get? b = some { o with slots := z }
 fr : ∀ b o, h.get? b = some o → H b = none → H' b = none
 th : ∀ b o, h.get? b = some o → b ∉ fs → ∃ z, B.get? b = some z
 tu : ∀ b xs, H b = some (.tup xs) → H' b = some (.tup xs)
 fz : ∀ b o u, H b = some (.frz o u) → H' b = some (.frz o u)
 tb : ∀ b ps, H b = some (.tbl ps) → ∃ more, H' b = some (.tbl (ps ++ more))
section
variable {fs : List Addr} {H H' : Hp} {h B h' h2 : Heap}
theorem XUn.un (x : XUn fs H H' h B h') (hB : B.StaysIn h2) (hf : ∀ b ∈ fs, H b = none) (hs : ∀ b o, h'.get? b = some o → b ∈ fs → ∃ z, h2.get? b = some { o with slots := z }) : Un fs [] H H' h h2 where
 keep := fun b o e n hb _ => hB b o (x.kp b o e n hb)
 slot := fun b o e n hb _ => by
   obtain ⟨z, e1⟩ := x.sl b o e n hb
   obtain ⟨z', e2⟩ := hs b _ e1 hb
   exact ⟨z', e2⟩
 free := fun b o e n _ => x.fr b o e n
 there := fun b o e _ => by
   by_cases hb : b ∈ fs
   · obtain ⟨z, e1⟩ := x.sl b o e (hf b hb) hb
     obtain ⟨z', e2⟩ := hs b _ e1 hb
     exact ⟨_, e2⟩
   · obtain ⟨z, e1⟩ := x.th b o e hb
     exact ⟨z, hB b z e1⟩
 tups := x.tu
 frzs := x.fz
 tbls := x.tb
theorem frames_up {l : List Env} (ff : h'.FunFrames B l) (up : h'.UpToSlots h2) : ∀ b o, h'.get? b = some o → b ∈ frs l → ∃ z, h2.get? b = some { o with slots := z } := fun b o e hb => by
 obtain ⟨_, o', e', hd⟩ := ff.mem hb
 rw [e] at e'
 cases e'
 exact up b o e hd
theorem XUn.next {l : List Env} (x : XUn (frs l) H H' h B h') (ff : h'.FunFrames B l) (up : h'.UpToSlots h2) : XUn (frs l) H H' h B h2 :=
 ⟨x.kp, fun b o e n hb => by
   obtain ⟨z, e1⟩ := x.sl b o e n hb
   obtain ⟨z', e2⟩ := frames_up ff up b _ e1 hb
   exact ⟨z', e2⟩, x.fr, x.th, x.tu, x.fz, x.tb⟩
end
noncomputable def CX1 (P : Program) (w : World) : CXT := fun outer H s E u s' => ∃ (e : Addr) (cls a0 : Value) (B : Heap) (H' : Hp), u = .ref e ∧ s'.os = s.os ∧ AllBare s'.gens ∧ XUn (frs outer) H H' s.heap B s'.heap ∧ HOk P w H' B ∧ Heap.FlyingW B outer e cls a0 s'.heap ∧ E cls none H'
noncomputable def FlyAt (X : Cx) (pins : List (Addr × Obj)) (e : Addr) (cls a0 : Value) (σ : St) (H' : Hp) (s' : Shared) : Prop :=
 ∃ (B : Heap) (H : Hp) (s : Shared), Inv X pins σ H s ∧ s'.os = s.os ∧ AllBare s'.gens ∧ XUn (frs X.stack) H H' s.heap B s'.heap ∧ HOk X.prog X.w H' B ∧ Heap.FlyingW B X.stack e cls a0 s'.heap
noncomputable abbrev XJ := Value → St → Hp → Prop
noncomputable def Fly (X : Cx) (J : XJ) (u : Value) (s' : Shared) : Prop := ∃ (e : Addr) (cls a0 : Value) (σ : St) (H' : Hp), u = .ref e ∧ FlyAt X [] e cls a0 σ H' s' ∧ J cls σ H'
noncomputable def Flies (X : Cx) (J : XJ) : Prop := ∀ u s', Fly X J u s' → X.xe u s'
noncomputable def Makes (X : Cx) (J : XJ) : Prop := ∀ (pins : List (Addr × Obj)) (σ : St) (H : Hp) (s : Shared) (e : Addr) (cls : Value) (vs : List Value) (h' : Heap), Inv X pins σ H s → Heap.MadeExcOf s.heap h' e cls vs → J cls σ H → X.xe (.ref e) { s with heap := h' }
noncomputable def excO (e : Addr) (cls : Value) : HO := .ext fun h => ∃ o vs, h.get? e = some o ∧ o.cls = cls ∧ o.data = .fields vs
section
variable {X : Cx} {pins : List (Addr × Obj)} {σ : St} {H H' : Hp} {s s' : Shared} {e : Addr} {cls a0 : Value}
theorem Inv.nopin (I : Inv X pins σ H s) : Inv X [] σ H s := I.pins_of (fun p hp => nomatch hp)
theorem FlyAt.step {B : Heap} {h2 : Heap} {S : Shared} (I : Inv X pins σ H S) (q1 : s'.os = S.os) (q2 : AllBare s'.gens) (q3 : XUn (frs X.stack) H H' S.heap B s'.heap) (q4 : HOk X.prog X.w H' B) (q5 : Heap.FlyingW B X.stack e cls a0 s'.heap)
   (f : Heap.FlyingW B X.stack e cls a0 h2) (up : s'.heap.UpToSlots h2) : FlyAt X pins e cls a0 σ H' { s' with heap := h2 } :=
 ⟨B, H, S, I, q1, q2, q3.next q5.2.2.1 up, q4, f⟩
theorem FlyAt.apart {B : Heap} {S : Shared} (q3 : XUn (frs X.stack) H H' S.heap B s'.heap) (q5 : Heap.FlyingW B X.stack e cls a0 s'.heap) : S.heap.get? e = none := by
 cases z : S.heap.get? e with
 | none => rfl
 | some o =>
   by_cases hb : e ∈ frs X.stack
   · obtain ⟨_, o', e1, hd⟩ := q5.2.2.1.mem hb
     obtain ⟨oe, vs, e2, _, d2, _⟩ := q5.first
     rw [e1] at e2
     cases e2
     exact absurd d2 (hd vs)
   · obtain ⟨o', e1⟩ := q3.th e o z hb
     have e2 := q5.2.1
     rw [e1] at e2
     cases e2
theorem HOk.none_of {P : Program} {w : World} {B : Heap} (q : HOk P w H' B) (z : B.get? e = none) : H' e = none := by
 cases y : H' e with
 | none => rfl
 | some o =>
   obtain ⟨u, e1⟩ := (q e o y).ob
   rw [e1] at z
   cases z
theorem FlyAt.inv (F : FlyAt X pins e cls a0 σ H' s') : Inv X pins σ H' s' ∧ H' e = none := by
 obtain ⟨B, H, S, I, q1, q2, q3, q4, q5⟩ := F
 exact ⟨I.call' (ch := []) q1 (q3.un q5.1 I.stkFree fun b o e1 _ => ⟨o.slots, e1⟩) (q4.kept q5.1) q2 (fun b z => absurd z (by simp)), q4.none_of q5.2.1⟩
theorem FlyAt.held (F : FlyAt X pins e cls a0 σ H' s') : Inv X pins σ (upd H' e (excO e cls)) s' ∧ H' e = none := by
 obtain ⟨B, H, S, I, q1, q2, q3, q4, q5⟩ := F
 have hn := q4.none_of q5.2.1
 have ha := FlyAt.apart q3 q5
 have ne : ∀ b u, H' b = some u → b ≠ e := fun b u y => ne_of_none y hn
 have q6 : XUn (frs X.stack) H (upd H' e (excO e cls)) S.heap B s'.heap :=
   ⟨q3.kp, q3.sl, fun b o e1 n => by
     have : b ≠ e := fun z => by rw [z, ha] at e1; cases e1
     rw [upd_ne this]
     exact q3.fr b o e1 n, q3.th, fun b xs y => by
     have y' := q3.tu b xs y
     rw [upd_ne (ne b _ y')]
     exact y', fun b o u y => by
     have y' := q3.fz b o u y
     rw [upd_ne (ne b _ y')]
     exact y', fun b ps y => by
     obtain ⟨more, y'⟩ := q3.tb b ps y
     exact ⟨more, by rw [upd_ne (ne b _ y')]; exact y'⟩⟩
 refine ⟨I.call' (ch := []) q1 (q6.un q5.1 I.stkFree fun b o e1 _ => ⟨o.slots, e1⟩) (fun b u y => ?_) q2 (fun b z => absurd z (by simp)), hn⟩
 have hk := q4.kept q5.1
 by_cases hb : b = e
 · subst hb
   rw [upd_same] at y
   cases y
   obtain ⟨oe, vs, e2, c2, d2, _⟩ := q5.first
   exact ⟨⟨oe, vs, e2, c2, d2⟩, ⟨oe, e2⟩, fun h1 h2 ⟨o, ws, a1, a2, a3⟩ k => ⟨o, ws, k o a1, a2, a3⟩⟩
 · rw [upd_ne hb] at y
   exact (hk b u y).stay (fun _ _ _ q => q) (fun c q => by rw [upd_ne (ne c _ q)]; exact q) fun c xs q => by rw [upd_ne (ne c _ q)]; exact q
end
section
variable {P : Program} {w : World} {K : PySem.W.Frag} {mg : Str → Option Value} {base : Heap} {N : List Str} {qual : Str} {scope : Scope} {f : Addr} {cd : Value} {A : Around} {outer : List Env} {s : Shared} {H : Hp} {E : XK}
theorem frs_def : frs (envOfC qual scope s.heap.objs.size f cd :: outer) = s.heap.objs.size :: frs outer := rfl
theorem flies_def : Flies (cxOf (CX1 P w) P w K mg base N qual scope f cd A outer s H E) (fun cls _ H' => E cls none H') := by
 rintro u s' ⟨e, cls, a0, σ, H2, rfl, ⟨B, H1, s1, I, q1, q2, q3, q4, q5⟩, q6⟩
 have old : ∀ b o, s.heap.get? b = some o → b ∉ frs outer → b ∉ frs (envOfC qual scope s.heap.objs.size f cd :: outer) := fun b o e1 hb z => by
   rw [frs_def] at z
   rcases List.mem_cons.mp z with y | y
   · exact absurd (Heap.lt_size e1) (by rw [y]; exact Nat.lt_irrefl _)
   · exact hb y
 have nx : ∀ b : Addr, b ∉ ([] : List Addr) := fun b => by simp
 show wpAny (model P w) (A.deeper (envOfC qual scope s.heap.objs.size f cd)) (leaving (envOfC qual scope s.heap.objs.size f cd) (.ref e)) _ _ s'
 refine wpAny_leaves_onW (L := s.heap.objs.size) I.ok.frames rfl q5 fun h2 x1 x2 => ?_
 refine ⟨e, cls, a0, B, H2, rfl, q1.trans I.os, q2, ⟨fun b o e1 n hb => ?_, fun b o e1 n hb => ?_, fun b o e1 n => ?_, fun b o e1 hb => ?_, fun b xs y => q3.tu b xs (I.base.tups b xs y), fun b o u y => q3.fz b o u (I.base.frzs b o u y), fun b ps y => ?_⟩, q4, x1, q6⟩
 · exact q3.kp b o (I.base.keep b o e1 n hb (nx b)) (I.base.free b o e1 n (nx b)) (old b o e1 hb)
 · obtain ⟨z, e2⟩ := I.base.slot b o e1 n hb (nx b)
   have hm : b ∈ frs (envOfC qual scope s.heap.objs.size f cd :: outer) := List.mem_cons_of_mem _ hb
   obtain ⟨z', e3⟩ := q3.sl b _ e2 (I.base.free b o e1 n (nx b)) hm
   obtain ⟨z2, e4⟩ := frames_up q5.2.2.1 x2 b _ e3 hm
   exact ⟨z2, e4⟩
 · obtain ⟨o', e2⟩ := I.base.there b o e1 (nx b)
   exact q3.fr b o' e2 (I.base.free b o e1 n (nx b))
 · obtain ⟨o', e2⟩ := I.base.there b o e1 (nx b)
   exact q3.th b o' e2 (old b o e1 hb)
 · obtain ⟨m1, y1⟩ := I.base.tbls b ps y
   obtain ⟨m2, y2⟩ := q3.tb b _ y1
   exact ⟨m1 ++ m2, by rw [y2, Array.append_assoc]⟩
theorem makes_def : Makes (cxOf (CX1 P w) P w K mg base N qual scope f cd A outer s H E) (fun cls _ H' => E cls none H') := by
 intro pins σ H1 s1 e cls vs h' I hx hj
 have fin : ∀ env ∈ (envOfC qual scope s.heap.objs.size f cd :: outer), ∀ b, env.frame = some b → b ∈ frs (envOfC qual scope s.heap.objs.size f cd :: outer) := fun env he b hb => List.mem_filterMap.mpr ⟨env, he, hb⟩
 have old : ∀ b o, s.heap.get? b = some o → b ∉ frs outer → b ∉ frs (envOfC qual scope s.heap.objs.size f cd :: outer) := fun b o e1 hb z => by
   rw [frs_def] at z
   rcases List.mem_cons.mp z with y | y
   · exact absurd (Heap.lt_size e1) (by rw [y]; exact Nat.lt_irrefl _)
   · exact hb y
 have nx : ∀ b : Addr, b ∉ ([] : List Addr) := fun b => by simp
 have fr1 : ∀ b ∈ frs (envOfC qual scope s.heap.objs.size f cd :: outer), H1 b = none := I.stkFree
 show wpAny (model P w) (A.deeper (envOfC qual scope s.heap.objs.size f cd)) (leaving (envOfC qual scope s.heap.objs.size f cd) (.ref e)) _ _ { s1 with heap := h' }
 refine wpAny_leaves_madeW (L := s.heap.objs.size) (base := PySem.W.hideAll s1.heap (frs (envOfC qual scope s.heap.objs.size f cd :: outer))) (h := s1.heap) I.ok.frames rfl (fun b o q => PySem.W.of_hideAll _ q) (PySem.W.funFrames_hide I.stack fin) hx fun h2 t x1 x2 x3 x4 => ?_
 refine ⟨e, cls, .ref t, _, H1, rfl, I.os, I.bare, ⟨fun b o e1 n hb => ?_, fun b o e1 n hb => ?_, fun b o e1 n => I.base.free b o e1 n (nx b), fun b o e1 hb => ?_, I.base.tups, I.base.frzs, I.base.tbls⟩, ?_, x1, hj⟩
 · exact PySem.W.hideAll_get _ (I.base.keep b o e1 n hb (nx b)) (old b o e1 hb)
 · obtain ⟨z, e2⟩ := I.base.slot b o e1 n hb (nx b)
   obtain ⟨_, o', e3, hd⟩ := I.ok.funs.mem hb
   have e3' : s.heap.get? b = some o' := e3
   rw [e1] at e3'
   cases e3'
   obtain ⟨z2, e4⟩ := x4 b _ (hx.keeps b _ e2) hd
   exact ⟨z2, e4⟩
 · obtain ⟨o', e2⟩ := I.base.there b o e1 (nx b)
   exact ⟨o', PySem.W.hideAll_get _ e2 (old b o e1 hb)⟩
 · intro a u y
   refine (I.hok a u y).stay (fun b v hb q => PySem.W.hideAll_get _ q fun hm => ?_) (fun _ q => q) fun _ _ q => q
   have z := fr1 b hm
   rcases hb with rfl | hb
   · rw [y] at z; cases z
   · rw [hb] at z; cases z
theorem Fun.okX {x : Str} {st : Stmt} {fd : FuncData} {ps : List Str} {k : Nat} {sp : Sp} (F : Fun K x qual st f fd) (S : FnScope N ps (defScope st)) (len : ∀ vs H Q E, sp vs H Q E → vs.length = ps.length)
   (hbody : ∀ (cdv : Value) (A : Around) (outer : List Env) (s : Shared) (H : Hp) (vs : List V) (Q : VK) (E : XK), Room k (A.deeper (envOfC qual (defScope st) s.heap.objs.size f cdv)) → sp vs H Q E →
     ∃ t, PSs (cxOf (CX1 P w) P w K mg base N qual (defScope st) f cdv A outer s H E) (defBody st) t ∧ t { nx := fun _ H' => Q .non H', rt := Q } (start N vs) H) : FnOk P w K mg base (CX1 P w) (k + 1) f fd ps sp := by
 obtain ⟨oc, od, kV, doc, pm, an, cdv, ct, osl, rfl, lk, hcd⟩ := F.ex
 exact fn_of lk hcd S len fun A outer s H vs Q E hr hsp => hbody cdv A outer s H vs Q E hr hsp
end
structure HasX (P : Program) (w : World) (K : PySem.W.Frag) (mg : Str → Option Value) (base : Heap) (x : Str) (ps : List Str) (k : Nat) (sp : Sp) : Prop where
 ex : ∃ (f : Addr) (fd : FuncData), mg x = some (.ref f) ∧ PySem.W.keepIn K (.ref f) = true ∧ Binds K fd ps [] ∧ FnOk P w K mg base (CX1 P w) k f fd ps sp
noncomputable def tCallX (sp : Sp) (J : XJ) (t : TA) : TE := fun σ H Q => t σ H fun vs H1 => sp vs H1 Q (fun cls _ H2 => J cls σ H2)
section
variable {X : Cx} {J : XJ} {x : Str} {ps : List Str} {j k : Nat} {sp : Sp} {p pos : Pos} {e : Expr} {es : List Expr} {t : TA}
theorem run_fnX {pins : List (Addr × Obj)} {σ : St} {H : Hp} {s : Shared} {Q : VK} {us : List Value} {vs : List V} {f : Addr} {fd : FuncData} (F : FnOk X.prog X.w X.K X.mg X.base (CX1 X.prog X.w) k f fd ps sp) (hr : Room k X.A) (hb : Binds X.K fd ps []) (hx : Flies X J)
   (I : Inv X pins σ H s) (r : Vals vs us) (h : sp vs H Q (fun cls _ H2 => J cls σ H2)) : wpAny (model X.prog X.w) X.A (call (.ref f) us) (EP X pins σ Q) X.xe s := by
 have hl : us.length = ps.length := by rw [← r.length]; exact F.len _ _ _ _ h
 have hb1 := hb s us I.kIn (by rw [List.append_nil]; exact hl)
 rw [List.append_nil] at hb1
 refine wpAny_call (codeAny_mono (F.run X.A X.stack s H ⟨us, []⟩ us vs Q _ hr I.env0 hb1 r h) fun q s' hq => ?_)
 cases q with
 | error u =>
   obtain ⟨e, cls, a0, B, H', rfl, q1, q2, q3, q4, q5, q6⟩ := hq
   exact hx _ _ ⟨e, cls, a0, σ, H', rfl, ⟨B, H, s, I.nopin, q1, q2, q3, q4, q5⟩, q6⟩
 | ok fl =>
   cases fl with
   | ret u => exact I.after hq
   | next => exact False.elim hq
   | brk => exact False.elim hq
   | cont => exact False.elim hq
theorem pe_callX (hx : Flies X J) (h : HasX X.prog X.w X.K X.mg X.base x ps j sp) (hr : Room k X.A) (hg : Gl X x) (ha : PA X (e :: es) t) (hk : j ≤ k := by decide) (hdb : (x == ("__debug__" : Str)) = false := by decide)
   (he : starEach (e :: es) X.env = (false, eval e X.env) :: starEach es X.env := by rfl) (hpl : (backTo pos (starEach es X.env)).any (·.1) = false := by rfl) : PE X (.Call (.Name x p) (e :: es) [] pos) (tCallX sp J t) := by
 intro pins s σ H Q I hw
 obtain ⟨f, fd, h1, h2, h3, h4⟩ := h.ex
 refine wpAny_Call_Name_kw (ld_glob I hg h1 ?_ hdb)
 refine PySem.W.callWith_K (h₀ := X.base) I.ok.mod.kin h2 (thn (ha pos pins s σ H _ I hw) fun us s1 ⟨vs, H1, I1, r, q⟩ => ⟨I1.kIn, ?_⟩) he hpl
 exact run_fnX h4 (hr.mono hk) h3 hx I1 r q
end
abbrev bmV : List Value := [.type "ValueError", .type "Exception", .type "BaseException", .type "object"]
theorem own_obj {K : PySem.W.Frag} {h : Heap} {C : Addr} {bmB : List Value} {nid : String} (X : K.In h) (z : PySem.W.excIn K C bmB nid = true) :
   ∃ bm N nm q bs hdct sn sub ab col dd k0 k1 k2 k3 k5 mN, h.get? C = some (excClassObj nm q C N bs bm hdct sn sub ab col dd k0 k1 k2 k3 k5 nid) ∧ h.Ns N mN ∧ mN "__init__" = none ∧ OwnTail h bmB bm := by
 unfold PySem.W.excIn at z
 split at z
 case h_2 => cases z
 case h_1 dd cd sl ho =>
   split at z
   case h_2 => cases z
   case h_1 C' bm k0 k1 k2 k3 n k5 hm hs =>
     rw [Bool.and_eq_true, Bool.and_eq_true, Bool.and_eq_true, Bool.and_eq_true, Bool.and_eq_true, beq_iff_eq, beq_iff_eq, Bool.not_eq_true', beq_iff_eq] at z
     obtain ⟨⟨⟨⟨⟨z1, z2⟩, z3⟩, z4⟩, z5⟩, z6⟩ := z
     obtain ⟨nm, bs, mro, ns, qn, hd, sn, sub, ab, col, del⟩ := cd
     have hm' : mro = .ref C' :: bm := hm
     have z3' : del = false := z3
     subst hm' z3' z1 z2
     have hsl : sl = #[k0, k1, k2, k3, some (.builtin n), k5] := by
       cases sl with
       | mk l =>
         have : l = [k0, k1, k2, k3, some (.builtin n), k5] := hs
         rw [this]
     subst hsl
     exact ⟨bm, ns, nm, qn, bs, hd, sn, sub, ab, col, dd, k0, k1, k2, k3, k5, _, X _ _ ho, .of_isNs (PySem.W.isNs_of_in X z5), PySem.W.nsMap_none_of_in X z5 z6, PySem.W.tail_of_in X z4⟩
noncomputable def tRaise (J : XJ) (C : Addr) (t : TA) : TS := fun _ σ H => t σ H fun vs H1 => vs.length ≤ sizeLine ∧ J (.ref C) σ H1
theorem ps_raise {X : Cx} {J : XJ} {C : Addr} {x : Str} {np cpos pos : Pos} {e : Expr} {es : List Expr} {t : TA} (hx : Makes X J) (hc : X.calm = true) (hg : Gl X x) (hm : X.mg x = some (.ref C)) (z : PySem.W.excIn X.K C bmV "ValueError.__new__" = true) (ha : PA X (e :: es) t)
   (hdb : (x == ("__debug__" : Str)) = false := by decide) (he : starEach (e :: es) X.env = (false, eval e X.env) :: starEach es X.env := by rfl) (hpl : (backTo cpos (starEach es X.env)).any (·.1) = false := by rfl) :
   PS X (.Raise (some (.Call (.Name x np) (e :: es) [] cpos)) none pos) (tRaise J C t) := by
 intro pins s σ H D I h
 obtain ⟨bm, N, nm, q, bs, hdct, sn, sub, ab, col, dd, k0, k1, k2, k3, k5, mN, hC, hN, hni, T⟩ := own_obj I.mod.kin z
 have hp2 : (backTo cpos (starEach (e :: es) X.env)).any (·.1) = false := by
   rw [he]
   show (false || (backTo cpos (starEach es X.env)).any (·.1)) = false
   rw [hpl]
   rfl
 refine wpAny_Raise_call_subT PySem.F.excBase_ValueError (C := C) (nm := nm) (q := q) (N := N) (bs := bs) (bm := bm) (hdct := hdct) (sn := sn) (sub := sub) (ab := ab) (col := col) (dd := dd) (k0 := k0) (k1 := k1) (k2 := k2) (k3 := k3) (k5 := k5) (mN := mN)
   (T.hasType PySem.F.excBase_ValueError.hasBase) (I.ok.hd hc) hp2 hni (ld_glob I hg hm ⟨rfl, ?_⟩ hdb)
 have a1 := thn (ha cpos pins s σ H _ I h) (Q' := fun us s2 => (⟨us, []⟩ : Args).kw = [] ∧ us.length ≤ sizeLine ∧ s2.heap.get? C = some (excClassObj nm q C N bs bm hdct sn sub ab col dd k0 k1 k2 k3 k5 "ValueError.__new__") ∧ s2.heap.Ns N mN ∧ OwnTail s2.heap bmV bm ∧
     ∀ h' e, Heap.MadeExcOf s2.heap h' e (.ref C) us → X.xe (.ref e) { s2 with heap := h' }) fun us s2 ⟨vs, H1, I1, r, hl, hj⟩ =>
   ⟨rfl, by rw [← r.length]; exact hl, I1.bk _ _ hC, hN.keeps I1.bk, T.keeps I1.bk, fun h' e2 hmk => hx pins σ H1 s2 e2 _ _ h' I1 hmk hj⟩
 rw [he] at a1 ⊢
 exact Calls.evalArgs_plain a1
end L2
namespace L2
open PySem PySem.Spec PyProof.Rows PySem.W
section
variable {X : Cx} {pins pn : List (Addr × Obj)} {σ : St} {H : Hp} {s : Shared} {J : XJ}
noncomputable abbrev Cx.pinned (X : Cx) (pn : List (Addr × Obj)) : Cx := { X with pn := X.pn ++ pn }
theorem Cx.Ok.pinned (ok : X.Ok) (pn : List (Addr × Obj)) : (X.pinned pn).Ok :=
 ⟨ok.mod, ok.kind, ok.glob, ok.blt, ok.above, ok.inj, ok.has, ok.cab, ok.hd, ok.frames, ok.stk, ok.exf, ok.bs, ok.bsz, ok.noex, ok.exfs, ok.funs, ok.frf⟩
theorem Cx.Ok.unpinned' (ok : (X.pinned pn).Ok) : X.Ok :=
 ⟨ok.mod, ok.kind, ok.glob, ok.blt, ok.above, ok.inj, ok.has, ok.cab, ok.hd, ok.frames, ok.stk, ok.exf, ok.bs, ok.bsz, ok.noex, ok.exfs, ok.funs, ok.frf⟩
theorem Inv.toPn (I : Inv X pins σ H s) : Inv (X.pinned pins) [] σ H s := ⟨I.ok.pinned _, I.os, I.bare, I.base, I.loc, I.cell, I.free, I.freeC, fun p hp => I.pin p (by simpa using hp), I.hok, I.len⟩
theorem Inv.ofPn (I : Inv (X.pinned pins) [] σ H s) : Inv X pins σ H s := ⟨I.ok.unpinned', I.os, I.bare, I.base, I.loc, I.cell, I.free, I.freeC, fun p hp => I.pin p (by simpa using hp), I.hok, I.len⟩
noncomputable abbrev Cx.tried (X : Cx) (pn : List (Addr × Obj)) (J : XJ) : Cx := (X.pinned pn).wish (Fly (X.pinned pn) J)
theorem flies_tried : Flies (X.tried pn J) J := fun u s' ⟨e, cls, a0, σ, H', h1, ⟨B, H, S, I, q⟩, h3⟩ => ⟨e, cls, a0, σ, H', h1, ⟨B, H, S, I.unwish, q⟩, h3⟩
noncomputable abbrev Cx.suite (X : Cx) (e : Addr) : Cx := { X with A := X.A.mark (some (.ref e)), calm := false, xe := fun _ _ => False }
theorem Cx.Ok.suite (ok : X.Ok) (e : Addr) : (X.suite e).Ok :=
 ⟨ok.mod, ok.kind, ok.glob, ok.blt, ok.above, ok.inj, ok.has, ok.cab, fun z => Bool.noConfusion z, ok.frames, ok.stk, ok.exf, ok.bs, ok.bsz, ok.noex, ok.exfs, ok.funs, ok.frf⟩
theorem Inv.suite (I : Inv X pins σ H s) (e : Addr) : Inv (X.suite e) pins σ H s := ⟨I.ok.suite e, I.os, I.bare, I.base, I.loc, I.cell, I.free, I.freeC, I.pin, I.hok, I.len⟩
theorem Inv.unsuite {e : Addr} (ok : X.Ok) (I : Inv (X.suite e) pins σ H s) : Inv X pins σ H s := ⟨ok, I.os, I.bare, I.base, I.loc, I.cell, I.free, I.freeC, I.pin, I.hok, I.len⟩
theorem unname_ok {M : Model} {A : Around} {E : Value → Shared → Prop} {i : Nat} {n : Str} {pos : Pos} {Q : Unit → Shared → Prop} (I : Inv X pins σ H s) (hN : X.N.Nodup) (hi : X.N[i]? = some n) (hk : X.env.kindOf n = some .local)
   (h : ∀ s', Inv X pins (σ.set i none) H s' → Q () s') : wpAny M A (do bindName X.env n .none; unbindBehindTheSuite X.env n pos) Q E s := by
 obtain ⟨m, hn, hl⟩ := id I.loc
 have hcls : (X.env.scope.kind == .class || (X.env.scope.kind == .module && X.env.locals != X.env.globals)) = false := by rw [I.ok.kind]; rfl
 refine wpAny_nameGoes_keeps hk hn hcls fun h' v hn' hs => h _ ?_
 have lt : ∀ b o, X.s₀.heap.get? b = some o → b ≠ X.env.locals := fun b o e => Nat.ne_of_lt (Nat.lt_of_lt_of_le (Heap.lt_size e) I.ok.above)
 refine ⟨I.ok, I.os, I.bare, ⟨fun b o e z hb hx => (hs.2 b (lt b o e)).trans (I.base.keep b o e z hb hx), fun b o e z hb hx => ?_, I.base.free, fun b o e hx => ?_, I.base.tups, I.base.frzs, I.base.tbls⟩, ⟨_, hn', fun j y v' e1 e2 e3 => ?_⟩, fun y c e => ?_, I.free, I.freeC, fun p hp => ?_, fun b o e => ?_, by simpa using I.len⟩
 · obtain ⟨sl, e1⟩ := I.base.slot b o e z hb hx
   exact ⟨sl, (hs.2 b (lt b o e)).trans e1⟩
 · obtain ⟨o', e1⟩ := I.base.there b o e hx
   exact ⟨o', (hs.2 b (lt b o e)).trans e1⟩
 · have hj : i ≠ j := by
     rintro rfl
     rw [List.getElem?_set] at e2
     simp at e2
   rw [List.getElem?_set_ne hj] at e2
   obtain ⟨u, r, q⟩ := hl j y v' e1 e2 e3
   refine ⟨u, r, ?_⟩
   rcases q with ⟨k, z⟩ | ⟨k, c, z, w'⟩
   · have : y ≠ n := fun z' => hj (nodup_ix hN hi (z' ▸ e1))
     exact .inl ⟨k, by simp [this, z]⟩
   · exact .inr ⟨k, c, z, w'.sameBut hs (I.cne y c z)⟩
 · obtain ⟨w', z⟩ := I.cell y c e
   exact ⟨w', z.sameBut hs (I.cne y c e)⟩
 · obtain ⟨e, z, ne, nf, d⟩ := I.pin p hp
   exact ⟨(hs.2 p.1 ne).trans e, z, ne, nf, d⟩
 · refine (I.hok b o e).stay (fun c w' hc q => (hs.2 c ?_).trans q) (fun _ q => q) fun _ _ q => q
   rintro rfl
   have hf := I.free
   rcases hc with rfl | hc
   · rw [hf] at e; cases e
   · rw [hf] at hc; cases hc
end
noncomputable def PH (X : Cx) (hs : List ExceptHandler) (th : Ends → XJ) : Prop := ∀ (pins : List (Addr × Obj)) (s : Shared) (σ : St) (H : Hp) (D : Ends) (e : Addr) (cls a0 : Value), FlyAt X pins e cls a0 σ H s → th D cls σ H →
 wpAny (model X.prog X.w) X.A (handleBy (.ref e) X.env hs) (SP X pins D) X.xe s
noncomputable def hNo : Ends → XJ := fun _ _ _ _ => False
theorem ph_none {X : Cx} : PH X [] hNo := fun _ _ _ _ _ _ _ _ _ h => h.elim
noncomputable def behind (i : Nat) (D : Ends) : Ends := { nx := fun σ H => D.nx (σ.set i none) H, rt := D.rt, bk := fun σ H => D.bk (σ.set i none) H, ct := fun σ H => D.ct (σ.set i none) H }
noncomputable def hAs (K : Frag) (C : Addr) (i : Nat) (ts : TS) (th : Ends → XJ) : Ends → XJ := fun D cls σ H => ∃ (C' : Addr) (b : Bool), cls = .ref C' ∧ subIn K (.ref C') (.ref C) = some b ∧
 if b = true then ∀ e, H e = none → ts (behind i D) (σ.set i (some (.ref e))) (upd H e (excO e cls)) else th D cls σ H
theorem exc_match {M : Model} {A : Around} {E : Value → Shared → Prop} {nm q : Str} {C C' N : Addr} {bs bm : List Value} {hdct : Bool} {sn : List Str} {sub : List Value} {ab : Bool} {col : Option Bool} {dd : Option Addr} {k0 k1 k2 k3 k5 : Option Value} {nid : String}
   {h : Heap} {g : Array GenState} {d : Drawn} {t : Nat} {os : OsState} {e : Addr} {oe : Obj} {b : Bool} {Q : Bool → Shared → Prop} (hC : h.get? C = some (excClassObj nm q C N bs bm hdct sn sub ab col dd k0 k1 k2 k3 k5 nid))
   (he : h.get? e = some oe) (hcls : oe.cls = .ref C') (hbase : bm.contains (.type "BaseException") = true) (LS : Looks M h (isSubtype (.ref C') (.ref C)) b) (hq : Q b ⟨h, g, d, t, os⟩) : wpAny M A (excMatches (.ref e) (.ref C)) Q E ⟨h, g, d, t, os⟩ := by
 have hb2 : (Value.ref C :: bm).contains (.type "BaseException") = true := by rw [List.contains_cons, hbase, Bool.or_true]
 have tnt := tc_notTuple
 unfold excMatches
 repeat (first | (with_reducible refine wpAny_loadPart_at he ?_; rw [hcls]) | with_reducible refine wpAny_loadPart_at hC ?_ | (with_reducible refine wpAny_isSubtype_exc hC ?_; rw [hb2]) | with_reducible refine LS.at ?_ | wp_step)
 cases b <;> (wp_walk; exact hq)
section
variable {X : Cx} {th : Ends → XJ}
theorem ph_as {x n : Str} {i : Nat} {C : Addr} {np hpos : Pos} {b0 : Stmt} {bs : List Stmt} {ts : TS} {rest : List ExceptHandler} (hN : X.N.Nodup) (hi : X.N[i]? = some n) (hk : X.env.kindOf n = some .local) (hg : Gl X x) (hm : X.mg x = some (.ref C)) (hC : ktsIn X.K C "BaseException" = true)
   (hs : ∀ e, PSs (X.suite e) (b0 :: bs) ts) (hr : PH X rest th) (hdb : (x == ("__debug__" : Str)) = false := by decide) : PH X (.ExceptHandler (some (.Name x np)) (some n) (b0 :: bs) hpos :: rest) (hAs X.K C i ts th) := by
 intro pins s σ H D e cls a0 F h
 obtain ⟨C', b, rfl, hb, h⟩ := h
 have I := F.inv.1
 obtain ⟨nm, qn, N, bs', bm, hdct, sn, sub, ab, col, dd, k0, k1, k2, k3, k5, nid, hCo, hbase, _⟩ := kts_cls I.kIn hC
 have F' := F
 obtain ⟨B, H0, S, I0, q1, q2, q3, q4, q5⟩ := F'
 obtain ⟨oe, he, hcls⟩ := q5.there
 refine wpAny_handleBy_cons (codeAny_handlers_test (ld_glob (X := X.suite e) (I.suite e) hg hm ?_ hdb)) (by intro q; cases q)
 have LS : Looks (model X.prog X.w) s.heap (isSubtype (.ref C') (.ref C)) b := looks_subIn I.kIn hb
 obtain ⟨sh, sg, sd, st, so⟩ := s
 refine exc_match hCo he hcls hbase LS ?_
 cases b with
 | false =>
   rw [if_neg Bool.false_ne_true] at h
   exact hr pins _ σ H D e _ a0 F h
 | true =>
   rw [if_pos rfl] at h
   refine codeAny_handlers_suite_as ?_
   refine lands_againW q5 fun h6 f6 up6 => ?_
   have F6 := FlyAt.step I0 q1 q2 q3 q4 q5 f6 up6
   obtain ⟨I6, hn⟩ := F6.held
   refine store_ok (v := .ref e) I6 hN hi (.inl hk) rfl (fun s7 I7 => ?_) (.inr hk)
   refine wpAny_mono (hs e pins s7 _ _ (behind i D) (I7.suite e) (h e hn)) (fun f s8 q => ?_) fun _ _ z => z.elim
   have go : ∀ {σ' : St} {H' : Hp} {f : Flow}, Inv (X.suite e) pins σ' H' s8 → (∀ s9, Inv X pins (σ'.set i none) H' s9 → SP X pins D f s9) → wpAny (model X.prog X.w) X.A (do bindName X.env n .none; unbindBehindTheSuite X.env n hpos) (fun _ s9 => SP X pins D f s9) X.xe s8 :=
     fun {σ' H' f} I8 k => unname_ok (I8.unsuite I.ok) hN hi hk k
   cases f with
   | next => obtain ⟨σ', H', I8, q⟩ := q; exact go I8 fun s9 I9 => ⟨_, H', I9, q⟩
   | brk => obtain ⟨σ', H', I8, q⟩ := q; exact go I8 fun s9 I9 => ⟨_, H', I9, q⟩
   | cont => obtain ⟨σ', H', I8, q⟩ := q; exact go I8 fun s9 I9 => ⟨_, H', I9, q⟩
   | ret u => obtain ⟨v, σ', H', I8, r, q⟩ := q; exact go I8 fun s9 I9 => ⟨v, _, H', I9, r, q⟩
noncomputable def tTry (tb : XJ → TS) (th : Ends → XJ) : TS := fun D σ H => tb (th D) D σ H
theorem ps_try {tb : XJ → TS} {body : List Stmt} {h0 : ExceptHandler} {hs : List ExceptHandler} {pos : Pos} (hb : ∀ pn J, PSs (X.tried pn J) body (tb J)) (hh : PH X (h0 :: hs) th) (hstk : X.stack = X.env :: X.outer := by rfl) (hfr : X.env.frame = some X.env.locals := by rfl) :
   PS X (.Try body (h0 :: hs) [] [] pos) (tTry tb th) := by
 intro pins s σ H D I h
 refine wpAny_Try_except (wpAny_mono (hb pins (th D) [] s σ H D (I.toPn.wish _) h) (fun f s1 q => ?_) fun u s1 q => ?_)
 · cases f with
   | next => obtain ⟨σ', H', I', q⟩ := q; exact wpAny_execs_nil ⟨σ', H', I'.unwish.ofPn, q⟩
   | brk => obtain ⟨σ', H', I', q⟩ := q; exact ⟨σ', H', I'.unwish.ofPn, q⟩
   | cont => obtain ⟨σ', H', I', q⟩ := q; exact ⟨σ', H', I'.unwish.ofPn, q⟩
   | ret u => obtain ⟨v, σ', H', I', r, q⟩ := q; exact ⟨v, σ', H', I'.unwish.ofPn, r, q⟩
 · obtain ⟨e, cls, a0, σ', H', rfl, ⟨B, H1, S, I1, q1, q2, q3, q4, q5⟩, hj⟩ := q
   have q5' : Heap.FlyingW B (X.env :: X.outer) e cls a0 s1.heap := hstk ▸ q5
   refine wpAny_looks_onW (L := X.env.locals) (I.ok.frames.trans (congrArg some hstk)) hfr q5' fun h4 held4 up4 => ?_
   refine wpAny_landsW held4 fun h5 fl5 up5 => ?_
   exact hh pins _ σ' H' D e cls a0 (FlyAt.step (s' := s1) I1.ofPn q1 q2 q3 q4 q5 (hstk ▸ fl5) (up4.trans up5)) hj
end
structure ExcC (K : Frag) (C : Addr) : Prop where
 cls : ktsIn K C "BaseException" = true
 ga : findIn K (.ref C) "__getattribute__" = some (some (.builtin "BaseException.__getattribute__"))
 gt : findIn K (.ref C) "__getattr__" = some none
 cl : findIn K (.ref C) "__class__" = some (some (.builtin "object.__class__"))
 ob : subIn K (.ref C) (.type "object") = some true
 be : subIn K (.ref C) (.type "BaseException") = some true
section
variable {prog : Program} {w : World} {A : Around} {E : Value → Shared → Prop} {h : Heap} {g : Array GenState} {d : Drawn} {t : Nat} {os : OsState} {a C : Addr} {o : Obj} {K : Frag}
theorem xcls_get {R : Result → Shared → Prop} (X : K.In h) (Z : ExcC K C) (hx : h.get? a = some o) (hc : o.cls = .ref C) (hq : R (.ok (.ret (.ref C))) ⟨h, g, d, t, os⟩) :
   codeAny (model prog w) A (.call (.builtin "getset_descriptor.__get__") ⟨[.builtin "object.__class__", .ref a, .ref C], []⟩) R ⟨h, g, d, t, os⟩ := by
 have ht : (⟨h, g, d, t, os⟩ : Shared).TypeIs (.builtin "object.__class__") "getset_descriptor" := F.typeOf_object_class
 have LS : Looks (model prog w) h (isSubtype (.ref C) (.type (".".intercalate ("object.__class__".cutAt '.').dropLast))) true := by rw [F.owner_object_class]; exact looks_subIn X Z.ob
 refine codeAny_call_builtin F.slot_gs_get.plain F.entry_gs_get (F.slot_gs_get.check _ _ _ _ _ _ _ _ ht (F.args_gs_get _ _ _) ?_)
 repeat (any_goals (first | assumption | (with_reducible refine wpAny_loadPart_at hx ?_; rw [hc]) | with_reducible refine LS.at ?_ | wp_step))
 refine ⟨Code.quiet_builtin _ (by decide +kernel), codeAny_builtin F.entry_object_class ?_⟩
 repeat (any_goals (first | assumption | (with_reducible refine wpAny_loadPart_at hx ?_; rw [hc]) | wp_step))
theorem xcls_entry {tk : Tok} {Q : Fin → Shared → Prop} (X : K.In h) (Z : ExcC K C) (hx : h.get? a = some o) (hc : o.cls = .ref C) (hq : Q (.done (.ret (.ref C))) ⟨h, g, d, t, os⟩) :
   wpAny (model prog w) A (Builtin.«object.__getattribute__» ⟨[.ref a, .str "__class__" tk], []⟩) Q E ⟨h, g, d, t, os⟩ := by
 have ht : (⟨h, g, d, t, os⟩ : Shared).TypeIs (.builtin "object.__class__") "getset_descriptor" := F.typeOf_object_class
 have L1 : Looks (model prog w) h (typeLookup (.ref C) "__class__") (some (.builtin "object.__class__")) := looks_findIn X Z.cl
 have f5 := F.typeOf_object_class
 have f6 := F.slot_gs_get.lookup
 have f7 := F.slot_gs_set.lookup
 repeat (any_goals (first | assumption | (with_reducible refine wpAny_loadPart_at hx ?_; rw [hc]) | with_reducible refine L1.at ?_ | wp_step))
 refine xcls_get X Z hx hc ?_
 repeat (any_goals (first | assumption | wp_step))
theorem xcls_check {M : Model} {nameV : Value} {Q : Unit → Shared → Prop} (X : K.In h) (Z : ExcC K C) (hx : h.get? a = some o) (hc : o.cls = .ref C) (hq : Q () ⟨h, g, d, t, os⟩) :
   wpAny M A (checkBuiltinCall "BaseException.__getattribute__" ⟨[.ref a, nameV], []⟩) Q E ⟨h, g, d, t, os⟩ := by
 have hk : builtinKind "BaseException.__getattribute__" = some .slot := by decide +kernel
 have hsp : splitId "BaseException.__getattribute__" = some ("BaseException", "__getattribute__") := by decide +kernel
 have LS : Looks M h (isSubtype (.ref C) (.type "BaseException")) true := looks_subIn X Z.be
 have ha := F.args_bexc_ga (.ref a) nameV
 simp only [checkBuiltinCall, hk, hsp]
 refine wpAny_bind ?_
 unfold isInstance
 repeat (first | (with_reducible refine wpAny_loadPart_at hx ?_; rw [hc]) | with_reducible refine LS.at ?_ | wp_step)
 exact hq
theorem xcls_call {tk : Tok} {R : Result → Shared → Prop} (X : K.In h) (Z : ExcC K C) (hx : h.get? a = some o) (hc : o.cls = .ref C) (hq : R (.ok (.ret (.ref C))) ⟨h, g, d, t, os⟩) :
   codeAny (model prog w) A (.call (.builtin "BaseException.__getattribute__") ⟨[.ref a, .str "__class__" tk], []⟩) R ⟨h, g, d, t, os⟩ :=
 codeAny_call_builtin F.attr_ValueError.ga.plain F.entry_bexc_ga (xcls_check X Z hx hc (xcls_entry X Z hx hc hq))
theorem xcls_by {tk : Tok} {fill expr : Bool} {Q : Value → Shared → Prop} (X : K.In h) (Z : ExcC K C) (hx : h.get? a = some o) (hc : o.cls = .ref C) (hq : Q (.ref C) ⟨h, g, d, t, os⟩) :
   wpAny (model prog w) A (getAttrBy (.ref a) (.str "__class__" tk) fill expr) Q E ⟨h, g, d, t, os⟩ := by
 have f3 := F.attr_ValueError.ga.bind (.ref a)
 have hx0 : (expr && onTheHeap (Value.builtin "BaseException.__getattribute__")) = false := by cases expr <;> rfl
 have hx2 : (Value.builtin "BaseException.__getattribute__" == Value.builtin "object.__getattribute__") = false := by decide +kernel
 have hx1 : (onTheHeap (Value.ref C) && Value.builtin "BaseException.__getattribute__" == Value.builtin "object.__getattribute__") = false := by rw [hx2]; rfl
 have L1 : Looks (model prog w) h (typeLookup (.ref C) "__getattribute__") (some (.builtin "BaseException.__getattribute__")) := looks_findIn X Z.ga
 have L2' : Looks (model prog w) h (typeLookup (.ref C) "__getattr__") none := looks_findIn X Z.gt
 repeat (any_goals (first | assumption | (with_reducible refine wpAny_loadPart_at hx ?_; rw [hc]) | with_reducible refine L1.at ?_ | with_reducible refine L2'.at ?_ | wp_step))
 refine xcls_call X Z hx hc ?_
 repeat (any_goals (first | assumption | wp_step))
theorem xcls_attr {Q : Option Value → Shared → Prop} (X : K.In h) (Z : ExcC K C) (hx : h.get? a = some o) (hc : o.cls = .ref C) (hq : Q (some (.ref C)) ⟨h, g, d, t + 1, os⟩) : wpAny (model prog w) A (getAttr? (.ref a) "__class__") Q E ⟨h, g, d, t, os⟩ := by
 unfold getAttr? getAttrBy?
 repeat (any_goals (first | assumption | with_reducible apply xcls_by X Z hx hc | wp_step))
theorem kitx_exc (Z : ExcC K C) : KitX K (.ref a) (.ref C) (fun h => ∃ o, h.get? a = some o ∧ o.cls = .ref C) where
 ty := fun M h X ⟨o, e, c⟩ => by
   have := (Looks.ld (M := M) (part := none) e).andThen (f := fun ob => pure ob.cls) .now
   rw [c] at this
   exact this
 it := fun M h X _ => by
   obtain ⟨nm, qn, N, bs', bm, hdct, sn, sub, ab, col, dd, k0, k1, k2, k3, k5, nid, hCo, _, _⟩ := kts_cls X Z.cls
   intro A' Q' E' s' k q
   unfold isType loadHead
   exact wpAny_bind (wpAny_loadPart (k _ _ hCo) (wpAny_pure q))
 ne := fun h tp dd its n sl X htp => by
   obtain ⟨nm, qn, N, bs', bm, hdct, sn, sub, ab, col, dd, k0, k1, k2, k3, k5, nid, hCo, _, _⟩ := kts_cls X Z.cls
   refine Bool.eq_false_iff.mpr fun q => ?_
   have e : C = tp := Value.ref.inj (beq_iff_eq.mp q)
   subst e
   have z := congrArg Obj.cls (Option.some.inj (hCo.symm.trans htp))
   have z2 : ("type" : String) = "tuple" := by injection z
   exact absurd z2 (by decide)
 ca := fun {prog w A E Q s} X ⟨o, e, c⟩ k => by
   obtain ⟨sh, sg, sd, st, so⟩ := s
   exact xcls_attr X Z e c k
end
section
variable {X : Cx} {K : Frag}
theorem kcall_isiX (hK : X.K = K := by rfl) : CallR X (.builtin "isinstance") (fun xs H Q => ∃ (e C : Addr) (y : V) (c : Value) (b : Bool), xs = [.ref e, y] ∧ RelV y c ∧ (∀ u, RelV y u → u = c) ∧ H e = some (excO e (.ref C)) ∧ ExcC K C ∧ kitOne K (.ref C) c = some b ∧ Q (.bl b) H) := by
 subst hK
 intro pins s σ H xs us Q I r h
 obtain ⟨e, C, y, c, b, rfl, _, hy, hH, Z, kk, q⟩ := h
 obtain ⟨u, v, rfl, rx, rt⟩ := vals2 r
 cases rx
 cases hy v rt
 have ho := I.hok e _ hH
 obtain ⟨⟨o, vs, e1, c1, _⟩, _⟩ := ho
 exact kia_one (kitx_exc Z) I.kIn ⟨o, e1, c1⟩ kk (fun z => nomatch z) fun tk => ⟨.bl b, H, I.tok tk, rfl, q⟩
theorem ref_only {D : Addr} : ∀ u, RelV (.ref D) u → u = .ref D := fun u h => h
end
end L2
namespace L2
open PySem PySem.Spec PyProof.Rows
noncomputable def Ite (K : PySem.W.Frag) (a : Addr) : It :=
 ⟨fun i H => ∃ xs x, SqL K H a xs ∧ xs[i]? = some x, fun i H x H' => ∃ p v, H p = none ∧ x = .ref p ∧ H' = upd H p (.tup [.int i, v]) ∧ ∀ xs, SqL K H a xs → xs[i]? = some v, fun i H => ∃ xs, SqL K H a xs ∧ xs.length ≤ i⟩
theorem turn_enum {P : Program} {w : World} {K : PySem.W.Frag} {es : List Expr} {x1 : Nat} {tpos : Pos} (a e it : Addr) (hne : e ≠ it) : Turn P w K (.Tuple es x1 tpos) (Ite K a) [e, it] e (fun i h => (∃ old, IsEnum h e it (i : Int) old) ∧ h.IsListIter it a i) where
 mem := by simp
 obj := fun i h st b hb => by
   obtain ⟨⟨old, h1⟩, o, h2, c, d⟩ := st
   rcases List.mem_cons.mp hb with rfl | hb
   · exact ⟨_, h1, fun v z => by cases (show Data.fields _ = Data.cell v from z)⟩
   · have z : b = it := by simpa using hb
     subst z
     exact ⟨o, h2, fun v z => by rw [d] at z; cases z⟩
 keep := fun i h h' st k => by
   obtain ⟨⟨old, h1⟩, h2⟩ := st
   exact ⟨⟨old, k e (by simp) _ h1⟩, h2.at fun o z => k it (by simp) o z⟩
 item := by
   intro X hP hw hK hc i pins s σ H E I hf st hg
   subst hP hw hK
   obtain ⟨⟨old, h1⟩, h2⟩ := st
   obtain ⟨xs, x, hq, hx⟩ := hg
   obtain ⟨its, rv, p, hz⟩ := I.list hq
   obtain ⟨u, hu, ru⟩ := rv.get hx
   have fe := hf e (by simp)
   have fi := hf it (by simp)
   have lte : e < s.heap.objs.size := Heap.lt_size h1
   have hfresh : H s.heap.objs.size = none := I.hok.fresh (Nat.le_refl _)
   refine wpAny_pyNext_enum_item h1 h2 p.isList (x := u) (by simpa using hu) hne fun h' hout hit' htup hsz hk => ?_
   refine ⟨_, rfl, wpAny_letOwnedTupleGo_enum hout fun h3 hen hsb => ?_⟩
   replace hsb : Heap.SameBut e h' h3 := hsb
   have kk : ∀ b o, b ≠ e → b ≠ it → s.heap.get? b = some o → h3.get? b = some o := fun b o n1 n2 z => (hsb.2 b n1).trans (hk b o n1 n2 z)
   have ht3 : h3.get? s.heap.objs.size = some { cls := .type "tuple", data := .seq #[.int i s.toks, u] } := (hsb.2 _ (Nat.ne_of_gt lte)).trans htup
   have hi3 : h3.IsListIter it a (i + 1) := hit'.at fun o z => (hsb.2 it hne.symm).trans z
   have nch : ∀ b, b ∉ [e, it] → b ≠ e ∧ b ≠ it := fun b hb => by simpa using hb
   have ntr : ∀ b v, H b = some v → b ≠ e ∧ b ≠ it := fun b v z => ⟨ne_of_none z fe.1, ne_of_none z fi.1⟩
   have nsz : ∀ b v, H b = some v → b ≠ s.heap.objs.size := fun b v z => ne_of_none z hfresh
   refine ⟨.ref s.heap.objs.size, upd H s.heap.objs.size (.tup [.int i, x]), ?_, rfl, ⟨s.heap.objs.size, x, hfresh, rfl, rfl, fun ys hy => by rw [I.list_inj hy hq]; exact hx⟩, ⟨⟨_, hen⟩, hi3⟩, fun b hb => ?_⟩
   · refine Inv.step (s := s) (h' := h3) (t' := s.toks + 1) (H' := upd H s.heap.objs.size (.tup [.int i, x])) I (g' := s.gens) (d' := s.drawn) (ch := [e, it]) (fun b hb => ?_) (fun b o _ _ hb z _ => kk b o (nch b hb).1 (nch b hb).2 z) (fun b o _ _ hb z _ => ⟨o.slots, kk b o (nch b hb).1 (nch b hb).2 z⟩) (fun b o hb z n => ?_) (fun b o hb z => ⟨o, kk b o (nch b hb).1 (nch b hb).2 z⟩)
       (fun b ys z => by rw [upd_ne (nsz b _ z)]; exact z) (fun b o v z => by rw [upd_ne (nsz b _ z)]; exact z) (fun b ps z => ⟨#[], by rw [upd_ne (nsz b _ z), z]; simp⟩) (fun m hm => ?_) (fun b v z => ?_) I.bare
     · rcases List.mem_cons.mp hb with rfl | hb
       · exact ⟨fe.2.2.2.1, fe.2.1, fe.2.2.2.2.1, fe.2.2.2.2.2⟩
       · have z : b = it := by simpa using hb
         subst z
         exact ⟨fi.2.2.2.1, fi.2.1, fi.2.2.2.2.1, fi.2.2.2.2.2⟩
     · rw [upd_ne (Nat.ne_of_lt (Heap.lt_size z))]
       exact n
     · obtain ⟨o, es', ep, ho, r⟩ := hm
       exact ⟨o, es', ep, kk _ o fe.2.1.symm fi.2.1.symm ho, r⟩
     · by_cases hb : b = s.heap.objs.size
       · subst hb
         rw [upd_same] at z
         cases z
         exact ⟨(by show (2 : Nat) ≤ sizeLine; decide), [.int i s.toks, u], .cons ⟨_, rfl⟩ (.cons ru .nil), ⟨_, ht3, rfl, rfl, _, rfl⟩⟩
       · rw [upd_ne hb] at z
         refine (I.hok b v z).stay (fun c y hc' q => ?_) (fun c q => by rw [upd_ne (nsz c _ q)]; exact q) fun c ys q => by rw [upd_ne (nsz c _ q)]; exact q
         rcases hc' with rfl | hc'
         · exact kk _ _ (ntr _ _ z).1 (ntr _ _ z).2 q
         · exact kk _ _ (ntr _ _ hc').1 (ntr _ _ hc').2 q
   · have lb : b < s.heap.objs.size := by
       rcases List.mem_cons.mp hb with rfl | hb
       · exact lte
       · have z : b = it := by simpa using hb
         subst z
         obtain ⟨o, z, _⟩ := h2
         exact Heap.lt_size z
     rw [upd_ne (Nat.ne_of_lt lb)]
     exact (hf b hb).1
 done := by
   intro X hP hw hK hc i pins s σ H E I hf st hg
   subst hP hw hK
   obtain ⟨⟨old, h1⟩, h2⟩ := st
   obtain ⟨xs, hq, hx⟩ := hg
   obtain ⟨its, rv, p, hz⟩ := I.list hq
   obtain ⟨f0, f1, f2, f3, f4, f5⟩ := hf it (by simp)
   have hl := rv.length
   exact wpAny_pyNext_enum_end (I.ok.hd hc) h1 h2 p.isList (by simp; omega) fun h' eb => ⟨rfl, I.turned (t' := s.toks) (fun b o hb z => eb b o hb z) f0 f1 f3 f4 f5⟩
 self := fun _ _ _ _ _ st h => by
   obtain ⟨⟨old, h1⟩, h2⟩ := st
   exact wpAny_pyIter_enum h1 h
noncomputable def iEnum (K : PySem.W.Frag) (ta : TA) : TI := fun σ H R => ta σ H fun vs H1 => ∃ a, vs = [.ref a] ∧ (∃ xs, SqL K H1 a xs) ∧ R (Ite K a) H1
theorem boot_enumerateT : bootBuiltins "enumerate" = some (.type "enumerate") := by decide +kernel
theorem pi_enum {X : Cx} {K : PySem.W.Frag} {es : List Expr} {x1 : Nat} {tpos : Pos} {a : Expr} {ta : TA} {p pos : Pos} (hg : Gl X "enumerate") (hm : X.mg "enumerate" = none) (ha : PA X [a] ta) (hK : X.K = K := by rfl) (hs : starEach [a] X.env = [(false, eval a X.env)] := by rfl) : PI X (.Tuple es x1 tpos) (.Call (.Name "enumerate" p) [a] [] pos) (iEnum K ta) := by
 subst hK
 intro pins s σ H R I h
 refine Call_ (ld_blt I hg hm boot_enumerateT (PyProof.Rows.callWith_type1 (thn (ha pos pins s σ H _ I h) fun us s1 ⟨vs, H1, I1, r1, q1⟩ => ?_) hs rfl))
 obtain ⟨l, e, ⟨xs, hq⟩, q⟩ := q1
 subst e
 cases r1 with
 | cons r rr =>
   cases rr
   cases r
   obtain ⟨its, rv, pl, hz⟩ := I1.list hq
   refine call_enumerate_list pl.isList fun h' hen hit hsz hk => ?_
   refine wpAny_pyIter_enum hen ⟨s1.heap.objs.size + 1, [s1.heap.objs.size + 1, s1.heap.objs.size], _, _, H1, rfl, I1.kept (t' := s1.toks) hk, turn_enum l _ _ (Nat.succ_ne_self _), ⟨⟨_, hen⟩, hit⟩, fun b hb => ?_, q⟩
   have lb : s1.heap.objs.size ≤ b := by
     rcases List.mem_cons.mp hb with rfl | hb
     · exact Nat.le_succ _
     · have z : b = s1.heap.objs.size := by simpa using hb
       rw [z]
       exact Nat.le_refl _
   exact I1.fpOk lb (I1.hok.fresh lb)
section
variable {g : TG} {tc : TT} {te : TE} {D : Addr} {Q : Hp → Prop} {τ : St} {H : Hp}
theorem comp_enum {K : PySem.W.Frag} {a : Addr} {xs : List V} (Pv : Nat → List V → St → Hp → Prop) (h0 : Pv 0 [] τ H) (hl : ∀ i ys τ H, i ≤ xs.length → Pv i ys τ H → SqL K H a xs)
   (hs : ∀ i x ys τ H p, xs[i]? = some x → Pv i ys τ H → H p = none → g (.ref p) τ (upd H p (.tup [.int i, x])) fun τ2 H2 => tc τ2 H2 fun b H3 => if b = true then te τ2 H3 fun y H4 => H4 D = some (.lst ys) ∧ ys.length < sizeLine ∧ Pv (i + 1) (ys ++ [y]) τ2 (upd H4 D (.lst (ys ++ [y]))) else Pv (i + 1) ys τ2 H3)
   (hd : ∀ ys τ H, Pv xs.length ys τ H → Q H) : RunC (Ite K a) g tc te D Q τ H := by
 refine ⟨fun i m ys τ H => m = xs.length - i ∧ i ≤ xs.length ∧ Pv i ys τ H, ⟨xs.length, by simp, Nat.zero_le _, h0⟩, ?_⟩
 rintro i m ys τ H ⟨rfl, hi, pp⟩
 have q := hl i ys τ H hi pp
 by_cases hlt : i < xs.length
 · refine .inr ⟨⟨xs, xs[i], q, by simp [hlt]⟩, Pv (i + 1), fun ys' τ' H' p' => ⟨xs.length - (i + 1), by omega, rfl, hlt, p'⟩, fun x H' y => ?_⟩
   obtain ⟨p, v, hp, rfl, rfl, y⟩ := y
   exact hs i v ys τ _ p (y xs q) pp hp
 · have e : i = xs.length := by omega
   subst e
   exact .inl ⟨⟨xs, q, Nat.le_refl _⟩, hd ys τ H pp⟩
end
end L2
namespace L2
open PySem PySem.Spec PyProof.Rows
theorem Inv.turnedN {X : Cx} {pins : List (Addr × Obj)} {σ : St} {H : Hp} {s : Shared} {h' : Heap} {t' : Nat} {fp : List Addr} (I : Inv X pins σ H s) (k : ∀ b o, b ∉ fp → s.heap.get? b = some o → h'.get? b = some o) (hf : ∀ b ∈ fp, FpOk X pins H b) :
   Inv X pins σ H { s with heap := h', toks := t' } := by
 have ntr : ∀ c o, H c = some o → c ∉ fp := fun c o e hm => by rw [(hf c hm).1] at e; cases e
 refine I.step (g' := s.gens) (d' := s.drawn) (ch := fp) (fun b hb => ?_) (fun b o _ _ hc e _ => k b o hc e) (fun b o _ _ hc e _ => ⟨o.slots, k b o hc e⟩) (fun _ _ _ _ n => n)
   (fun b o hc e => ⟨o, k b o hc e⟩) (fun _ _ e => e) (fun _ _ _ e => e) (fun b ps e => ⟨#[], by rw [e]; simp⟩) (fun m hm => ?_) (fun b u e => ?_) I.bare
 · have f := hf b hb
   exact ⟨f.2.2.2.1, f.2.1, f.2.2.2.2.1, f.2.2.2.2.2⟩
 · obtain ⟨o, es', ep, ho, r⟩ := hm
   exact ⟨o, es', ep, k _ o (fun z => (hf _ z).2.1 rfl) ho, r⟩
 · refine (I.hok b u e).stay (fun c y hc' q => ?_) (fun c q => q) fun c ys q => q
   rcases hc' with rfl | hc'
   · exact k _ _ (ntr _ _ e) q
   · exact k _ _ (ntr _ _ hc') q
section
variable {g : TG} {tc : TT} {te : TE} {D : Addr} {Q : Hp → Prop} {τ : St} {H : Hp}
end
theorem preSum_sum (ns : List Int) : ∀ k, k ≤ ns.length → preSum (fun i => ns.getD i 0) k = (ns.take k).sum
 | 0, _ => by simp [preSum]
 | k + 1, h => by
   show preSum _ k + ns.getD k 0 = _
   rw [preSum_sum ns k (by omega), List.take_succ, List.getElem?_eq_getElem (by omega), List.sum_append, List.getD_eq_getElem?_getD, List.getElem?_eq_getElem (by omega)]
   simp
theorem call_sumI {X : Cx} (hc : X.calm = true) : CallR X (.builtin "sum") (fun xs H Q => ∃ (p : Addr) (ns : List Int), xs = [.ref p] ∧ SqL X.K H p (ns.map V.int) ∧ Q (.int ns.sum) H) := by
 intro pins s σ H xs us Q I r h
 obtain ⟨p, ns, rfl, hq, q⟩ := h
 obtain ⟨u, rfl, ru⟩ := vals1 r
 cases ru
 obtain ⟨its, rv, pl, hz⟩ := I.list hq
 have hh : X.A.handled = none := I.ok.hd hc
 have l1 := rv.length
 rw [List.length_map] at l1
 have rel : ∀ (i : Nat) (v : Value), its.toArray[i]? = some v → ∃ t, v = .int (ns.getD i 0) t := fun i v e => by
   have e' : its[i]? = some v := by simpa using e
   have hlt : i < its.length := (List.getElem?_eq_some_iff.mp e').1
   have hb : ns[i]? = some (ns[i]'(by omega)) := by simp <;> omega
   obtain ⟨u, hu, ru⟩ := rv.get (i := i) (x := V.int (ns[i]'(by omega))) (by rw [List.getElem?_map, hb]; rfl)
   rw [e'] at hu
   cases hu
   rw [List.getD_eq_getElem?_getD, hb]
   exact ru
 refine call_sum_walkG (wpAny_pyIter_list pl.isList ?_)
 refine ⟨s.heap.objs.size, [s.heap.objs.size, p], [s.heap.objs.size], its.toArray.size, _, _, fun i => ns.getD i 0, rfl, Walks.list (show X.A.in1.handled = none from hh) s.heap.objs.size p ?_ its.toArray, ⟨⟨_, Heap.get?_push_size _ rfl, rfl, rfl⟩, ?_⟩, ?_, rel, fun h' tk t' k => ?_⟩
 · obtain ⟨o, _, ho, _⟩ := pl
   exact Nat.ne_of_lt (Heap.lt_size ho)
 · exact pl.isList.at fun o e => Heap.get?_push_of_some _ e
 · intro b hb
   have hb' : b = s.heap.objs.size ∨ b = p := by simpa using hb
   rw [Heap.size_push]
   rcases hb' with rfl | rfl
   · exact Nat.lt_succ_self _
   · obtain ⟨o, _, ho, _⟩ := pl
     exact Nat.lt_succ_of_lt (Heap.lt_size ho)
 · have I1 : Inv X pins σ H { s with heap := h', toks := tk } := I.kept (fun b o e => k b o (by simp; exact Nat.ne_of_lt (Heap.lt_size e)) (Heap.get?_push_of_some _ e))
   refine ⟨.int ns.sum, H, I1, ⟨t', ?_⟩, q⟩
   have e : preSum (fun i => ns.getD i 0) its.toArray.size = ns.sum := by
     rw [List.size_toArray, ← l1, preSum_sum ns _ (Nat.le_refl _), List.take_length]
   rw [e]
theorem kcall_sumI {X : Cx} {K : PySem.W.Frag} (hc : X.calm = true) (hK : X.K = K := by rfl) : CallR X (.builtin "sum") (fun xs H Q => ∃ (p : Addr) (ns : List Int), xs = [.ref p] ∧ SqL K H p (ns.map V.int) ∧ Q (.int ns.sum) H) := by subst hK; exact call_sumI hc
theorem boot_sumB : bootBuiltins "sum" = some (.builtin "sum") := by decide +kernel
theorem op_mulX {X : Cx} : OpR X (binaryOp .Mult) (rI IntMulOk fun i j => .int (i * j)) := opI fun _ _ _ _ _ _ _ hc q => mul_int q hc
theorem bits_le {i : Int} {m : Nat} (h : i.natAbs < 2 ^ m) : Builtin.Int.intBits i ≤ m := by
 unfold Builtin.Int.intBits
 split
 · exact Nat.zero_le _
 · rename_i h0
   have hne : i.natAbs ≠ 0 := by
     intro z
     exact h0 (by have : i = 0 := by omega
                  simp [this])
   exact (Nat.log2_lt hne).mpr h
theorem mulok {i j : Int} {m n : Nat} (hi : i.natAbs < 2 ^ m) (hj : j.natAbs < 2 ^ n) (h : m + n ≤ 134217728) : IntMulOk i j := by
 have h1 := bits_le hi
 have h2 := bits_le hj
 have h3 : ¬ ((Builtin.Int.intBits i : Nat) : Int) + ((Builtin.Int.intBits j : Nat) : Int) > ((bitsLine : Nat) : Int) := by
   have : bitsLine = 134217728 := by decide
   omega
 unfold IntMulOk
 intro hz
 simp only [Bool.and_eq_true] at hz
 have h4 := hz.2
 unfold Builtin.Int.intTooBig at h4
 exact h3 (by simpa using h4)
theorem mulokR {i j : Int} (h1 : -(2 ^ 64) < j) (h2 : j < 2 ^ 64) : IntMulOk i j := CMul.ok (.inr ⟨h1, h2⟩)
end L2
namespace L2
open PySem PySem.W PySem.Calls PyProof.Rows
end L2
namespace L2
open PySem PySem.Spec PyProof.Rows
section
variable {X : Cx} {pins : List (Addr × Obj)} {σ : St} {H : Hp} {s : Shared} {a : Addr} {kvs : List (Key × V)}
theorem Inv.freeze (I : Inv X pins σ H s) (e : H a = some (.dK kvs)) : ∃ o, Inv X pins σ (upd H a (.frz o (.dK kvs))) s := by
 obtain ⟨z, y, vs, r, o, es, ep, ho, c⟩ := id (I.hok a _ e)
 refine ⟨o, ?_⟩
 have ne : ∀ b u, H b = some u → u ≠ .dK kvs → b ≠ a := fun b u q n z => by rw [z, e] at q; exact n (Option.some.inj q).symm
 have up : ∀ b u, H b = some u → u ≠ .dK kvs → upd H a (.frz o (.dK kvs)) b = some u := fun b u q n => by rw [upd_ne (ne b u q n)]; exact q
 refine I.step (g' := s.gens) (t' := s.toks) (d' := s.drawn) (h' := s.heap) (H' := upd H a (.frz o (.dK kvs))) (ch := []) (fun _ q => nomatch q) (fun b ob _ _ _ q _ => q) (fun b ob _ _ _ q _ => ⟨ob.slots, q⟩) (fun b ob _ q n => by rw [upd_ne (fun z => by rw [z, e] at n; cases n)]; exact n) (fun b ob _ q => ⟨ob, q⟩)
   (fun b xs q => up b _ q (by intro z; cases z)) (fun b ob u q => up b _ q (by intro z; cases z)) (fun b ps q => ⟨#[], by rw [up b _ q (by intro z; cases z)]; simp⟩) (fun m q => q) (fun b u q => ?_) I.bare
 by_cases hb : b = a
 · subst hb
   rw [upd_same] at q
   cases q
   exact ⟨ho, (I.hok b _ e).stay (fun _ _ _ q => q) (fun c q => up c _ q (by intro z; cases z)) fun c xs q => up c _ q (by intro z; cases z)⟩
 · rw [upd_ne hb] at q
   exact (I.hok b u q).stay (fun _ _ _ q => q) (fun c q => up c _ q (by intro z; cases z)) fun c xs q => up c _ q (by intro z; cases z)
theorem Inv.thaw {o : Obj} (I : Inv X pins σ H s) (e : H a = some (.frz o (.dK kvs))) (hb : ∀ ob u, X.H₀ a ≠ some (.frz ob u)) : Inv X pins σ (upd H a (.dK kvs)) s := by
 have ne : ∀ b u, H b = some u → u ≠ .frz o (.dK kvs) → b ≠ a := fun b u q n z => by rw [z, e] at q; exact n (Option.some.inj q).symm
 have up : ∀ b u, H b = some u → u ≠ .frz o (.dK kvs) → upd H a (.dK kvs) b = some u := fun b u q n => by rw [upd_ne (ne b u q n)]; exact q
 have no : ∀ b, H b = none → upd H a (.dK kvs) b = none := fun b n => by rw [upd_ne (fun z => by rw [z, e] at n; cases n)]; exact n
 refine ⟨I.ok, I.os, I.bare, ⟨I.base.keep, I.base.slot, fun b ob q n x => no b (I.base.free b ob q n x), I.base.there, fun b xs q => up b _ (I.base.tups b xs q) (by intro z; cases z), fun b ob u q => ?_, fun b ps q => ?_⟩, I.loc, I.cell, no _ I.free, fun x c q => no _ (I.freeC x c q), fun p hp => ?_, fun b u q => ?_, I.len⟩
 · have hne : b ≠ a := fun z => hb ob u (z ▸ q)
   rw [upd_ne hne]
   exact I.base.frzs b ob u q
 · obtain ⟨m, q'⟩ := I.base.tbls b ps q
   exact ⟨m, up b _ q' (by intro z; cases z)⟩
 · obtain ⟨p1, p2, p3⟩ := I.pin p hp
   exact ⟨p1, no _ p2, p3⟩
 · by_cases hba : b = a
   · subst hba
     rw [upd_same] at q
     cases q
     obtain ⟨_, q'⟩ := I.hok b _ e
     exact q'.stay (fun _ _ _ q => q) (fun c q => up c _ q (by intro z; cases z)) fun c xs q => up c _ q (by intro z; cases z)
   · rw [upd_ne hba] at q
     exact (I.hok b u q).stay (fun _ _ _ q => q) (fun c q => up c _ q (by intro z; cases z)) fun c xs q => up c _ q (by intro z; cases z)
theorem Inv.notfrz (I : Inv X pins σ H s) (e : H a = some (.dK kvs)) : ∀ ob u, X.H₀ a ≠ some (.frz ob u) := fun ob u q => by
 have := I.base.frzs a ob u q
 rw [e] at this
 cases this
theorem Inv.nodupK (I : Inv X pins σ H s) (e : Rd H a (.dK kvs)) : (kvs.map (·.1)).Nodup := by
 obtain ⟨z, hd, vs, rel, o, es, ep, _, _, _, _, _, hn⟩ := dk_rd I.hok e
 rw [rel.keys]
 exact hn
end
noncomputable def tFrz (t : TE) : TE := fun σ H Q => t σ H Q ∨ ∃ (a : Addr) (kvs : List (Key × V)), H a = some (.dK kvs) ∧ ((kvs.map (·.1)).Nodup → ∀ o : Obj, t σ (upd H a (.frz o (.dK kvs))) fun v H' => H' a = some (.frz o (.dK kvs)) ∧ Q v (upd H' a (.dK kvs)))
noncomputable def sFrz (t : TS) : TS := fun D σ H => t D σ H ∨ ∃ (a : Addr) (kvs : List (Key × V)), H a = some (.dK kvs) ∧ ((kvs.map (·.1)).Nodup → ∀ o : Obj, t ⟨fun σ' H' => H' a = some (.frz o (.dK kvs)) ∧ D.nx σ' (upd H' a (.dK kvs)), fun v H' => H' a = some (.frz o (.dK kvs)) ∧ D.rt v (upd H' a (.dK kvs)),
 fun σ' H' => H' a = some (.frz o (.dK kvs)) ∧ D.bk σ' (upd H' a (.dK kvs)), fun σ' H' => H' a = some (.frz o (.dK kvs)) ∧ D.ct σ' (upd H' a (.dK kvs))⟩ σ (upd H a (.frz o (.dK kvs))))
theorem pe_frz {X : Cx} {e : Expr} {t : TE} (h : PE X e t) : PE X e (tFrz t) := by
 intro pins s σ H Q I hw
 rcases hw with hw | ⟨a, kvs, ea, hw⟩
 · exact h pins s σ H Q I hw
 · obtain ⟨o, I'⟩ := I.freeze ea
   have hb := I.notfrz ea
   refine thn (h pins s σ _ _ I' (hw (I.nodupK (.inl ea)) o)) fun u s' ⟨v, H', I2, r, e2, q⟩ => ⟨v, _, I2.thaw e2 hb, r, q⟩
theorem ps_frz {X : Cx} {st : Stmt} {t : TS} (h : PS X st t) : PS X st (sFrz t) := by
 intro pins s σ H D I hw
 rcases hw with hw | ⟨a, kvs, ea, hw⟩
 · exact h pins s σ H D I hw
 · obtain ⟨o, I'⟩ := I.freeze ea
   have hb := I.notfrz ea
   refine thn (h pins s σ _ _ I' (hw (I.nodupK (.inl ea)) o)) fun f s' hq => ?_
   cases f with
   | next => obtain ⟨σ', H', I2, e2, q⟩ := hq; exact ⟨σ', _, I2.thaw e2 hb, q⟩
   | brk => obtain ⟨σ', H', I2, e2, q⟩ := hq; exact ⟨σ', _, I2.thaw e2 hb, q⟩
   | cont => obtain ⟨σ', H', I2, e2, q⟩ := hq; exact ⟨σ', _, I2.thaw e2 hb, q⟩
   | ret u => obtain ⟨v, σ', H', I2, r, e2, q⟩ := hq; exact ⟨v, σ', _, I2.thaw e2 hb, r, q⟩
theorem frz_at {X : Cx} {pins : List (Addr × Obj)} {σ : St} {H : Hp} {s : Shared} {a : Addr} {kvs : List (Key × V)} {o : Obj} (I : Inv X pins σ H s) (e : H a = some (.frz o (.dK kvs))) :
   s.heap.get? a = some o ∧ (a == sysModules) = false ∧ kvs.length ≤ sizeLine ∧ ∃ vs es ep, KV kvs vs ∧ o.data = .dict es ep ∧ es.size = kvs.length ∧ o.ExactDict ∧ s.heap.DictAt (mixKind X.prog X.w) a vs ep := by
 obtain ⟨ho, z, y, vs, r, o', es, ep, ho', ex, hd, hk, hp, hn⟩ := I.hok a _ e
 rw [ho] at ho'
 cases ho'
 refine ⟨ho, y, z, vs, es, ep, r, hd, ?_, ex, ⟨o, es, ho, ex, hd, hk, hp, hn⟩⟩
 rw [r.length, ← hp.length]
 simp
theorem KV.getV : ∀ {kvs : List (Key × V)} {vs : List (Key × Value)} {i : Nat} {k : Key} {v : V}, KV kvs vs → kvs[i]? = some (k, v) → ∃ u, vs[i]? = some (k, u) ∧ RelV v u
 | _, _, i, k, v, .nil, e => by simp at e
 | _, _, 0, k, v, .cons (b := q) r t, e => by
   simp only [List.getElem?_cons_zero, Option.some.injEq] at e
   subst e
   obtain ⟨k', u⟩ := q
   have e1 : k = k' := r.1
   subst e1
   exact ⟨u, by simp, r.2⟩
 | _, _, i + 1, k, v, .cons r t, e => by
   obtain ⟨u, e1, e2⟩ := KV.getV (i := i) t (by simpa using e)
   exact ⟨u, by simpa using e1, e2⟩
theorem is_kV {P : Program} {w : World} {k : Key} {u : Value} (h : (mixKind P w).is k u = true) : RelV (kV k) u := by
 rcases keyIs_shape h with ⟨i, t, rfl, rfl⟩ | ⟨x, t, rfl, rfl⟩
 · exact ⟨t, rfl⟩
 · exact ⟨t, rfl⟩
noncomputable def Itm (d : Addr) (o : Obj) : It :=
 ⟨fun i H => ∃ kvs k v, H d = some (.frz o (.dK kvs)) ∧ kvs[i]? = some (k, v),
  fun i H x H' => ∃ p k v, H p = none ∧ x = .ref p ∧ H' = upd H p (.tup [kV k, v]) ∧ ∀ kvs, H d = some (.frz o (.dK kvs)) → kvs[i]? = some (k, v),
  fun i H => ∃ kvs, H d = some (.frz o (.dK kvs)) ∧ kvs.length ≤ i⟩
theorem pyIter_itemiter {prog : Program} {w : World} {A : Around} {E : Value → Shared → Prop} {s : Shared} {it d : Addr} {i n ep : Nat} {ok ov : Value} {Q : Value → Shared → Prop} (hit : IsItemIter s.heap it d i n ep ok ov) (h : Q (.ref it) s) : wpAny (model prog w) A (pyIter (.ref it)) Q E s := by
 have hT : s.TypeIs (.ref it) "dict_itemiterator" := ⟨_, hit, rfl⟩
 refine wpAny_pyIter_slot hT PySem.F.slot_dict_itemiterator_iter (wpAny_call_entry PySem.F.slot_dict_itemiterator_iter hT (entryFor_alias (id' := "dict_keyiterator.__iter__") (by kernel_rfl) rfl (by decide +kernel) (by kernel_rfl) : entryFor table "dict_itemiterator.__iter__" = some Builtin.«dict_keyiterator.__iter__») ?_ (PySem.F.args_dict_itemiterator_iter_1 _))
 show wpAny _ _ (ret (.ref it)) _ _ s
 exact wpAny_pure ⟨_, rfl, "dict_itemiterator", _, hT, PySem.F.slot_dict_itemiterator_next.lookup, h⟩
theorem turn_items {P : Program} {w : World} {K : PySem.W.Frag} {tes : List Expr} {x1 : Nat} {tpos : Pos} (d it : Addr) (o : Obj) {es : Array DictEntry} {ep : Nat} (hd : o.data = .dict es ep) :
   Turn P w K (.Tuple tes x1 tpos) (Itm d o) [it] it (fun i h => ∃ ok ov, IsItemIter h it d i es.size ep ok ov) where
 mem := by simp
 obj := fun i h st b hb => by
   obtain ⟨ok, ov, h1⟩ := st
   have z : b = it := by simpa using hb
   subst z
   exact ⟨_, h1, fun v q => by cases (show Data.fields _ = Data.cell v from q)⟩
 keep := fun i h h' st k => by
   obtain ⟨ok, ov, h1⟩ := st
   exact ⟨ok, ov, k it (by simp) _ h1⟩
 item := by
   intro X hP hw hK hc i pins s σ H E I hf st hg
   subst hP hw hK
   obtain ⟨ok, ov, hit⟩ := st
   obtain ⟨kvs, k, v, hz, hx⟩ := hg
   obtain ⟨ho, hsys, hl, vs, es', ep', rel, hd', hsz, ex, hm⟩ := frz_at I hz
   rw [hd] at hd'
   cases hd'
   obtain ⟨u, hu, ru⟩ := rel.getV hx
   have hn : es.size = vs.length := by rw [hsz, rel.length]
   have fi := hf it (by simp)
   have lti : it < s.heap.objs.size := Heap.lt_size hit
   have hfresh : H s.heap.objs.size = none := I.hok.fresh (Nat.le_refl _)
   rw [hn] at hit
   refine wpAny_pyNext_items_item hit hm hu fun key h' hkey hout htup hsz' hk => ?_
   refine ⟨_, rfl, wpAny_letOwnedTupleGo_items hout fun h3 hen hsb => ?_⟩
   replace hsb : Heap.SameBut it h' h3 := hsb
   have kk : ∀ b ob, b ∉ [it] → s.heap.get? b = some ob → h3.get? b = some ob := fun b ob n z => by
     have n1 : b ≠ it := by simpa using n
     exact (hsb.2 b n1).trans (hk b ob n1 z)
   have ht3 : h3.get? s.heap.objs.size = some { cls := .type "tuple", data := .seq #[key, u] } := (hsb.2 _ (Nat.ne_of_gt lti)).trans htup
   have ntr : ∀ c ob, H c = some ob → c ∉ [it] := fun c ob e hm => by rw [(hf c hm).1] at e; cases e
   have nsz : ∀ b ob, H b = some ob → b ≠ s.heap.objs.size := fun b ob z => ne_of_none z hfresh
   refine ⟨.ref s.heap.objs.size, upd H s.heap.objs.size (.tup [kV k, v]), ?_, rfl, ⟨s.heap.objs.size, k, v, hfresh, rfl, rfl, fun kvs' q => by rw [hz] at q; cases q; exact hx⟩, ⟨_, _, by rw [hn]; exact hen⟩, fun b hb => ?_⟩
   · refine Inv.step (s := s) (h' := h3) (t' := s.toks) (H' := upd H s.heap.objs.size (.tup [kV k, v])) I (g' := s.gens) (d' := s.drawn) (ch := [it]) (fun b hb => ?_) (fun b ob _ _ hb z _ => kk b ob hb z) (fun b ob _ _ hb z _ => ⟨ob.slots, kk b ob hb z⟩) (fun b ob hb z n => ?_) (fun b ob hb z => ⟨ob, kk b ob hb z⟩)
       (fun b ys z => by rw [upd_ne (nsz b _ z)]; exact z) (fun b ob w' z => by rw [upd_ne (nsz b _ z)]; exact z) (fun b ps z => ⟨#[], by rw [upd_ne (nsz b _ z), z]; simp⟩) (fun m hm => ?_) (fun b w' z => ?_) I.bare
     · have f := hf b hb
       exact ⟨f.2.2.2.1, f.2.1, f.2.2.2.2.1, f.2.2.2.2.2⟩
     · rw [upd_ne (Nat.ne_of_lt (Heap.lt_size z))]
       exact n
     · obtain ⟨ob, es', ep', hob, r⟩ := hm
       exact ⟨ob, es', ep', kk _ ob (fun q => (hf _ q).2.1 rfl) hob, r⟩
     · by_cases hb : b = s.heap.objs.size
       · subst hb
         rw [upd_same] at z
         cases z
         exact ⟨(by show (2 : Nat) ≤ sizeLine; decide), [key, u], .cons (is_kV hkey) (.cons ru .nil), ⟨_, ht3, rfl, rfl, _, rfl⟩⟩
       · rw [upd_ne hb] at z
         refine (I.hok b w' z).stay (fun c y hc' q => ?_) (fun c q => by rw [upd_ne (nsz c _ q)]; exact q) fun c ys q => by rw [upd_ne (nsz c _ q)]; exact q
         rcases hc' with rfl | hc'
         · exact kk _ _ (ntr _ _ z) q
         · exact kk _ _ (ntr _ _ hc') q
   · have z : b = it := by simpa using hb
     subst z
     rw [upd_ne (Nat.ne_of_lt lti)]
     exact (hf b hb).1
 done := by
   intro X hP hw hK hc i pins s σ H E I hf st hg
   subst hP hw hK
   obtain ⟨ok, ov, hit⟩ := st
   obtain ⟨kvs, hz, hx⟩ := hg
   obtain ⟨ho, hsys, hl, vs, es', ep', rel, hd', hsz, ex, hm⟩ := frz_at I hz
   rw [hd] at hd'
   cases hd'
   have hn : es.size = vs.length := by rw [hsz, rel.length]
   have hl2 := rel.length
   rw [hn] at hit
   exact wpAny_pyNext_items_end (I.ok.hd hc) hit hm (by simp; omega) fun h' eb => ⟨rfl, I.turnedN (t' := s.toks) (fp := [it]) (fun b ob hb z => eb b ob (by simpa using hb) z) hf⟩
 self := fun _ _ _ _ _ st h => by
   obtain ⟨ok, ov, hit⟩ := st
   exact pyIter_itemiter hit h
noncomputable def iItems (td : TE) : TI := fun σ H R => td σ H fun x H1 => ∃ d o kvs, x = .ref d ∧ H1 d = some (.frz o (.dK kvs)) ∧ R (Itm d o) H1
theorem pi_items {X : Cx} {tes : List Expr} {x1 : Nat} {tpos apos cpos : Pos} {e : Expr} {td : TE} (he : PE X e td)
   (hbase : attributeBase e "items" X.env (eval e X.env) = eval e X.env := by rfl) (hline : (apos.endLine == cpos.line) = true := by rfl) : PI X (.Tuple tes x1 tpos) (.Call (.Attribute e "items" apos) [] [] cpos) (iItems td) := by
 intro pins s σ H R I h
 refine wpAny_Call_method0_late hbase hline (thn (he pins s σ H _ I h) fun v s1 ⟨x, H1, I1, r1, d, o, kvs, ex, hz, q⟩ => ?_)
 subst ex
 obtain rfl : v = Value.ref d := r1
 obtain ⟨ho, hsys, hl, vs, es, ep, rel, hd, hsz, exd, hm⟩ := frz_at I1 hz
 refine ⟨"dict", "dict.items", PySem.F.plainAttrs_dict, PySem.F.slot_dict_items, PySem.F.type_dict_items, ⟨o, ho, exd.1⟩, fun b e => by cases e; exact ⟨o, ho, exd.2.1⟩, Calls.callWith_builtin rfl (PySem.evalArgs_none ?_)⟩
 refine call_meetsIn PySem.F.slot_dict_items hm.dictOf.typeIs PySem.F.entry_dict_items (PySem.F.args_dict_items_1 _) (meets_dict_items (mixKind X.prog X.w) d hsys) ⟨⟨vs, hm.dictOf⟩, ?_⟩
 have I2 : Inv X pins σ H1 { s1 with heap := s1.heap.push { cls := .type "dict_items", data := .fields #[.ref d] } } := I1.kept (t' := s1.toks) fun b ob z => Heap.get?_push_of_some _ z
 have hm2 := hm.push { cls := .type "dict_items", data := .fields #[.ref d] }
 refine wpAny_pyIter_items (s := { s1 with heap := s1.heap.push { cls := .type "dict_items", data := .fields #[.ref d] } }) (v := s1.heap.objs.size) (d := d) ⟨_, Heap.get?_push_size _ rfl, rfl, rfl⟩ hm2 ?_
 have hsz2 : (s1.heap.push { cls := .type "dict_items", data := .fields #[.ref d] }).objs.size = s1.heap.objs.size + 1 := Heap.size_push ..
 refine ⟨_, [_], _, Itm d o, H1, rfl, I2.kept (t' := s1.toks) fun b ob z => Heap.get?_push_of_some _ z, turn_items d _ o hd, ⟨.none, .none, ?_⟩, fun b hb => ?_, q⟩
 · rw [hsz, rel.length]
   exact Heap.get?_push_size _ rfl
 · have z : b = (s1.heap.push { cls := .type "dict_items", data := .fields #[.ref d] }).objs.size := by simpa using hb
   subst z
   exact I2.fpOk (Nat.le_refl _) (I2.hok.fresh (Nat.le_refl _))
noncomputable def Itk (d : Addr) (o : Obj) : It :=
 ⟨fun i H => ∃ kvs k v, H d = some (.frz o (.dK kvs)) ∧ kvs[i]? = some (k, v),
  fun i H x H' => H' = H ∧ ∃ k v, x = kV k ∧ ∀ kvs, H d = some (.frz o (.dK kvs)) → kvs[i]? = some (k, v),
  fun i H => ∃ kvs, H d = some (.frz o (.dK kvs)) ∧ kvs.length ≤ i⟩
theorem turn_keys {P : Program} {w : World} {K : PySem.W.Frag} {tg : Expr} (d it : Addr) (o : Obj) {es : Array DictEntry} {ep : Nat} (hd : o.data = .dict es ep) :
   Turn P w K tg (Itk d o) [it] it (fun i h => h.IsKeyIter it d i es.size ep) where
 mem := by simp
 obj := fun i h st b hb => by
   obtain ⟨oi, h1, c1, d1⟩ := st
   have z : b = it := by simpa using hb
   subst z
   exact ⟨oi, h1, fun v q => by rw [d1] at q; cases q⟩
 keep := fun i h h' st k => st.at fun ob z => k it (by simp) ob z
 item := by
   intro X hP hw hK hc i pins s σ H E I hf st hg
   subst hP hw hK
   obtain ⟨kvs, k, v, hz, hx⟩ := hg
   obtain ⟨ho, hsys, hl, vs, es', ep', rel, hd', hsz, ex, hm⟩ := frz_at I hz
   rw [hd] at hd'
   cases hd'
   obtain ⟨u, hu, ru⟩ := rel.getV hx
   have hn : es.size = vs.length := by rw [hsz, rel.length]
   rw [hn] at st
   refine wpAny_pyNext_dict_item st hm hu fun key h' hkey hit' hs' => ?_
   refine ⟨_, rfl, ?_⟩
   obtain ⟨oi, h1, c1, d1⟩ := id hit'
   refine go_of h1 c1 d1 (by decide) ⟨kV k, H, ?_, is_kV hkey, ⟨rfl, k, v, rfl, fun kvs' q => by rw [hz] at q; cases q; exact hx⟩, by rw [hn]; exact hit', fun b hb => (hf b hb).1⟩
   exact I.turnedN (t' := s.toks) (fp := [it]) (fun b ob hb z => (hs'.2 b (by simpa using hb)).trans z) hf
 done := by
   intro X hP hw hK hc i pins s σ H E I hf st hg
   subst hP hw hK
   obtain ⟨kvs, hz, hx⟩ := hg
   obtain ⟨ho, hsys, hl, vs, es', ep', rel, hd', hsz, ex, hm⟩ := frz_at I hz
   rw [hd] at hd'
   cases hd'
   have hn : es.size = vs.length := by rw [hsz, rel.length]
   have hl2 := rel.length
   rw [hn] at st
   exact wpAny_pyNext_dict_end (I.ok.hd hc) st hm (by simp; omega) fun h' eb => ⟨rfl, I.turnedN (t' := s.toks) (fp := [it]) (fun b ob hb z => eb b ob (by simpa using hb) z) hf⟩
 self := fun _ _ _ _ _ st h => wpAny_pyIter_keyiter st h
noncomputable def iKeys (td : TE) : TI := fun σ H R => td σ H fun x H1 => ∃ d o kvs, x = .ref d ∧ H1 d = some (.frz o (.dK kvs)) ∧ R (Itk d o) H1
theorem pi_keys {X : Cx} {tg e : Expr} {td : TE} (he : PE X e td) : PI X tg e (iKeys td) := by
 intro pins s σ H R I h
 refine thn (he pins s σ H _ I h) fun v s1 ⟨x, H1, I1, r1, d, o, kvs, ex, hz, q⟩ => ?_
 subst ex
 obtain rfl : v = Value.ref d := r1
 obtain ⟨ho, hsys, hl, vs, es, ep, rel, hd, hsz, exd, hm⟩ := frz_at I1 hz
 refine wpAny_pyIter_dict hsys hm ?_
 refine ⟨_, [_], _, Itk d o, H1, rfl, I1.kept (t' := s1.toks) fun b ob z => Heap.get?_push_of_some _ z, turn_keys d _ o hd, ?_, fun b hb => ?_, q⟩
 · rw [hsz, rel.length]
   exact ⟨_, Heap.get?_push_size _ rfl, rfl, rfl⟩
 · have z : b = s1.heap.objs.size := by simpa using hb
   subst z
   exact I1.fpOk (Nat.le_refl _) (I1.hok.fresh (Nat.le_refl _))
section
variable {g : TG} {tc : TT} {te : TE} {D : Addr} {Q : Hp → Prop} {τ : St} {H : Hp}
theorem comp_items {d : Addr} {o : Obj} {kvs : List (Key × V)} (Pv : Nat → List V → St → Hp → Prop) (h0 : Pv 0 [] τ H) (hl : ∀ i zs τ H, i ≤ kvs.length → Pv i zs τ H → H d = some (.frz o (.dK kvs)))
   (hs : ∀ i k v zs τ H p, kvs[i]? = some (k, v) → Pv i zs τ H → H p = none → g (.ref p) τ (upd H p (.tup [kV k, v])) fun τ2 H2 => tc τ2 H2 fun b H3 => if b = true then te τ2 H3 fun y H4 => H4 D = some (.lst zs) ∧ zs.length < sizeLine ∧ Pv (i + 1) (zs ++ [y]) τ2 (upd H4 D (.lst (zs ++ [y]))) else Pv (i + 1) zs τ2 H3)
   (hd : ∀ zs τ H, Pv kvs.length zs τ H → Q H) : RunC (Itm d o) g tc te D Q τ H := by
 refine ⟨fun i m zs τ H => m = kvs.length - i ∧ i ≤ kvs.length ∧ Pv i zs τ H, ⟨kvs.length, by simp, Nat.zero_le _, h0⟩, ?_⟩
 rintro i m zs τ H ⟨rfl, hi, pp⟩
 have q := hl i zs τ H hi pp
 by_cases hlt : i < kvs.length
 · refine .inr ⟨⟨kvs, kvs[i].1, kvs[i].2, q, by simp [hlt]⟩, Pv (i + 1), fun ys' τ' H' p' => ⟨kvs.length - (i + 1), by omega, rfl, hlt, p'⟩, fun x H' y => ?_⟩
   obtain ⟨p, k, v, hp, rfl, rfl, y⟩ := y
   exact hs i k v zs τ _ p (y kvs q) pp hp
 · have e : i = kvs.length := by omega
   subst e
   exact .inl ⟨⟨kvs, q, Nat.le_refl _⟩, hd zs τ H pp⟩
theorem comp_keys {d : Addr} {o : Obj} {kvs : List (Key × V)} (Pv : Nat → List V → St → Hp → Prop) (h0 : Pv 0 [] τ H) (hl : ∀ i zs τ H, i ≤ kvs.length → Pv i zs τ H → H d = some (.frz o (.dK kvs)))
   (hs : ∀ i k v zs τ H, kvs[i]? = some (k, v) → Pv i zs τ H → g (kV k) τ H fun τ2 H2 => tc τ2 H2 fun b H3 => if b = true then te τ2 H3 fun y H4 => H4 D = some (.lst zs) ∧ zs.length < sizeLine ∧ Pv (i + 1) (zs ++ [y]) τ2 (upd H4 D (.lst (zs ++ [y]))) else Pv (i + 1) zs τ2 H3)
   (hd : ∀ zs τ H, Pv kvs.length zs τ H → Q H) : RunC (Itk d o) g tc te D Q τ H := by
 refine ⟨fun i m zs τ H => m = kvs.length - i ∧ i ≤ kvs.length ∧ Pv i zs τ H, ⟨kvs.length, by simp, Nat.zero_le _, h0⟩, ?_⟩
 rintro i m zs τ H ⟨rfl, hi, pp⟩
 have q := hl i zs τ H hi pp
 by_cases hlt : i < kvs.length
 · refine .inr ⟨⟨kvs, kvs[i].1, kvs[i].2, q, by simp [hlt]⟩, Pv (i + 1), fun ys' τ' H' p' => ⟨kvs.length - (i + 1), by omega, rfl, hlt, p'⟩, fun x H' y => ?_⟩
   obtain ⟨rfl, k, v, rfl, y⟩ := y
   exact hs i k v zs τ _ (y kvs q) pp
 · have e : i = kvs.length := by omega
   subst e
   exact .inl ⟨⟨kvs, q, Nat.le_refl _⟩, hd zs τ H pp⟩
theorem for_items {d : Addr} {o : Obj} {kvs : List (Key × V)} {g : TG} {tb : TS} {D : Ends} {σ : St} {H : Hp} (Pv : Nat → St → Hp → Prop) (h0 : Pv 0 σ H) (hl : ∀ i σ H, i ≤ kvs.length → Pv i σ H → H d = some (.frz o (.dK kvs)))
   (hs : ∀ i k v σ H p, kvs[i]? = some (k, v) → Pv i σ H → H p = none → g (.ref p) σ (upd H p (.tup [kV k, v])) fun σ2 H2 => tb { D with nx := Pv (i + 1), ct := Pv (i + 1), bk := D.nx } σ2 H2) (hd : ∀ σ H, Pv kvs.length σ H → D.nx σ H) :
   ∃ W : Nat → Nat → St → Hp → Prop, (∃ m, W 0 m σ H) ∧ ∀ i m σ H, W i m σ H →
     ((Itm d o).stop i H ∧ D.nx σ H) ∨ ((Itm d o).go i H ∧ ∃ N : St → Hp → Prop, (∀ σ' H', N σ' H' → ∃ m', m' < m ∧ W (i + 1) m' σ' H') ∧ ∀ x H', (Itm d o).yld i H x H' → g x σ H' fun σ2 H2 => tb { D with nx := N, ct := N, bk := D.nx } σ2 H2) := by
 refine ⟨fun i m σ H => m = kvs.length - i ∧ i ≤ kvs.length ∧ Pv i σ H, ⟨kvs.length, by simp, Nat.zero_le _, h0⟩, ?_⟩
 rintro i m σ H ⟨rfl, hi, pp⟩
 have q := hl i σ H hi pp
 by_cases hlt : i < kvs.length
 · refine .inr ⟨⟨kvs, kvs[i].1, kvs[i].2, q, by simp [hlt]⟩, Pv (i + 1), fun σ' H' p' => ⟨kvs.length - (i + 1), by omega, rfl, hlt, p'⟩, fun x H' y => ?_⟩
   obtain ⟨p, k, v, hp, rfl, rfl, y⟩ := y
   exact hs i k v σ _ p (y kvs q) pp hp
 · have e : i = kvs.length := by omega
   subst e
   exact .inl ⟨⟨kvs, q, Nat.le_refl _⟩, hd σ H pp⟩
theorem for_keys {d : Addr} {o : Obj} {kvs : List (Key × V)} {g : TG} {tb : TS} {D : Ends} {σ : St} {H : Hp} (Pv : Nat → St → Hp → Prop) (h0 : Pv 0 σ H) (hl : ∀ i σ H, i ≤ kvs.length → Pv i σ H → H d = some (.frz o (.dK kvs)))
   (hs : ∀ i k v σ H, kvs[i]? = some (k, v) → Pv i σ H → g (kV k) σ H fun σ2 H2 => tb { D with nx := Pv (i + 1), ct := Pv (i + 1), bk := D.nx } σ2 H2) (hd : ∀ σ H, Pv kvs.length σ H → D.nx σ H) :
   ∃ W : Nat → Nat → St → Hp → Prop, (∃ m, W 0 m σ H) ∧ ∀ i m σ H, W i m σ H →
     ((Itk d o).stop i H ∧ D.nx σ H) ∨ ((Itk d o).go i H ∧ ∃ N : St → Hp → Prop, (∀ σ' H', N σ' H' → ∃ m', m' < m ∧ W (i + 1) m' σ' H') ∧ ∀ x H', (Itk d o).yld i H x H' → g x σ H' fun σ2 H2 => tb { D with nx := N, ct := N, bk := D.nx } σ2 H2) := by
 refine ⟨fun i m σ H => m = kvs.length - i ∧ i ≤ kvs.length ∧ Pv i σ H, ⟨kvs.length, by simp, Nat.zero_le _, h0⟩, ?_⟩
 rintro i m σ H ⟨rfl, hi, pp⟩
 have q := hl i σ H hi pp
 by_cases hlt : i < kvs.length
 · refine .inr ⟨⟨kvs, kvs[i].1, kvs[i].2, q, by simp [hlt]⟩, Pv (i + 1), fun σ' H' p' => ⟨kvs.length - (i + 1), by omega, rfl, hlt, p'⟩, fun x H' y => ?_⟩
   obtain ⟨rfl, k, v, rfl, y⟩ := y
   exact hs i k v σ _ (y kvs q) pp
 · have e : i = kvs.length := by omega
   subst e
   exact .inl ⟨⟨kvs, q, Nat.le_refl _⟩, hd σ H pp⟩
end
end L2
namespace L2
open PySem PySem.Spec PyProof.Rows PySem.SeqAt
theorem ients_of {P : Program} {w : World} {es : List DictEntry} {vs : List (Key × Value)} (hp : Pairs (mixKind P w) es vs) : ∀ {ms : List (Int × Int)}, (∀ e ∈ es, ∃ k, (mixKind P w).is k e.key = true ∧ e.hash = (mixKind P w).hash k) → KV (cK ms) vs → IEnts es ms := by
 induction hp with
 | nil =>
   intro ms _ r
   cases ms with
   | nil => exact .nil
   | cons p ms => cases r
 | @cons e kv es kvs h1 h2 _ ih =>
   intro ms hk r
   cases ms with
   | nil => cases r
   | cons p ms =>
     cases r with
     | cons r0 r1 =>
       obtain ⟨k, v⟩ := kv
       obtain ⟨e1, t', e2⟩ := r0
       have e1' : Sum.inl p.1 = k := e1
       subst e1'
       obtain ⟨t, ek⟩ := (show ∃ t, e.key = Value.int p.1 t from is_kV h1)
       obtain ⟨k', hk1, hk2⟩ := hk e (List.mem_cons_self ..)
       have ek' : k' = Sum.inl p.1 := by
         rw [ek] at hk1
         rcases keyIs_shape hk1 with ⟨i, t2, z1, z2⟩ | ⟨x, t2, z1, z2⟩
         · cases z2; exact z1
         · cases z2
       subst ek'
       obtain ⟨p1, p2⟩ := p
       exact .cons ek hk2 (h2.trans e2) (ih (fun e' he => hk e' (List.mem_cons_of_mem _ he)) r1)
theorem nodup_cK {ms : List (Int × Int)} : ((cK ms).map (·.1)).Nodup ↔ (ms.map (·.1)).Nodup := by
 unfold cK List.Nodup
 rw [List.map_map, List.pairwise_map, List.pairwise_map]
 constructor
 · intro h; exact h.imp fun {a b} n z => n (by simp [z])
 · intro h; exact h.imp fun {a b} n z => n (by simpa using z)
section
variable {X : Cx} {pins : List (Addr × Obj)} {σ : St} {H : Hp} {s : Shared} {a : Addr} {ms : List (Int × Int)}
theorem Inv.nodupC (I : Inv X pins σ H s) (e : Rd H a (.dK (cK ms))) : (ms.map (·.1)).Nodup := nodup_cK.mp (I.nodupK e)
theorem Inv.idict (I : Inv X pins σ H s) (e : Rd H a (.dK (cK ms))) : IDict s.heap a ms := by
 obtain ⟨z, hd, vs, rel, o, es, ep, ho, ex, hda, hk, hp, hn⟩ := dk_rd I.hok e
 exact ⟨⟨o, es, ep, ho, ex, hda, ients_of hp (fun e he => hk e (by simpa using he)) rel⟩, hd, I.nodupC e⟩
end
noncomputable def sameC (ms ns : List (Int × Int)) : Bool := ms.length == ns.length && ms.all fun p => decide (lookI ns p.1 = some p.2)
noncomputable def rEqC : R2 := fun x y H Q => ∃ a b ms ns, x = .ref a ∧ y = .ref b ∧ Rd H a (.dK (cK ms)) ∧ Rd H b (.dK (cK ns)) ∧ Q (.bl (sameC ms ns)) H
section
variable {X : Cx} {n : Nat} {K : PySem.W.Frag}
theorem op_eqC (hu : X.A.units + n < cLine) : OpR X (compareOp .Eq) rEqC := by
 intro pins s σ H x y v u Q I rx ry h
 obtain ⟨a, b, ms, ns, rfl, rfl, ha, hb, q⟩ := h
 cases rx
 cases ry
 exact RcAt.dicts (I.idict ha) (I.idict hb) (by omega) X.prog X.w X.xe _ ⟨.bl (sameC ms ns), H, I, rfl, q⟩
theorem call_isDict : CallR X (.builtin "isinstance") (fun xs H Q => ∃ a kvs, xs = [.ref a, .ty "dict"] ∧ Rd H a (.dK kvs) ∧ Q (.bl true) H) := by
 intro pins s σ H xs us Q I r h
 obtain ⟨a, kvs, rfl, e, q⟩ := h
 obtain ⟨u, v, rfl, rx, rt⟩ := vals2 r
 cases rt
 cases rx
 obtain ⟨z, hd, vs, rel, o, es, ep, ho, ex, _⟩ := dk_rd I.hok e
 exact PySem.IsiPair.dict_dict ho ex.1 ⟨.bl true, H, I, rfl, q⟩
end
end L2
namespace L2
open PySem PySem.Spec PyProof.Rows
theorem call_dictC {X : Cx} : CallR X (.type "dict") (fun xs H Q => ∃ a kvs, xs = [.ref a] ∧ Rd H a (.dK kvs) ∧ ∀ p, H p = none → Q (.ref p) (upd H p (.dK kvs))) := by
 intro pins s σ H xs us Q I r h
 obtain ⟨a, kvs, rfl, e, q⟩ := h
 obtain ⟨u, rfl, rx⟩ := vals1 r
 cases rx
 exact d_copyOf I e fun p s' hp I' => ⟨.ref p, _, I', rfl, q p hp⟩
theorem u1 {n c : Nat} (h : n + 8 < c) : n + 1 < c := by omega
noncomputable def getI (ms : List (Int × Int)) (k : Int) : Int := (lookI ms k).getD 0
noncomputable def putI (ms : List (Int × Int)) (k v : Int) : List (Int × Int) := if (ms.any fun p => decide (p.1 = k)) = true then ms.map (fun p => if p.1 = k then (p.1, v) else p) else ms ++ [(k, v)]
noncomputable def dropI (ms : List (Int × Int)) (k : Int) : List (Int × Int) := ms.filter fun p => decide (p.1 ≠ k)
theorem cK_put (ms : List (Int × Int)) (k v : Int) : putK (cK ms) (Sum.inl k) (V.int v) = cK (putI ms k v) := by
 unfold putK putI cK
 have e : ((ms.map fun p => ((Sum.inl p.1 : Key), V.int p.2)).any fun kv => decide (kv.1 = Sum.inl k)) = (ms.any fun p => decide (p.1 = k)) := by
   rw [List.any_map]
   congr 1
   funext p
   simp
 rw [e]
 split
 · rw [List.map_map, List.map_map]
   congr 1
   funext p
   simp only [Function.comp]
   by_cases q : p.1 = k
   · simp [q]
   · have q' : ¬ (Sum.inl p.1 : Key) = Sum.inl k := fun z => q (by simpa using z)
     simp [q]
 · simp
theorem cK_val (ms : List (Int × Int)) (k : Int) : valV (cK ms) (Sum.inl k) = (lookI ms k).map V.int := by
 unfold lookI cK valV
 rw [List.find?_map, Option.map_map, Option.map_map]
 have e : ((fun p : Key × V => decide (p.1 = Sum.inl k)) ∘ fun p : Int × Int => ((Sum.inl p.1 : Key), V.int p.2)) = fun p : Int × Int => decide (p.1 = k) := by
   funext p
   simp
 rw [e]
 rfl
theorem cK_getD (ms : List (Int × Int)) (k : Int) : ((lookI ms k).map V.int).getD (V.int 0) = V.int (getI ms k) := by
 unfold getI
 cases lookI ms k <;> rfl
theorem lookI_cons (p : Int × Int) (ms : List (Int × Int)) (k : Int) : lookI (p :: ms) k = if p.1 = k then some p.2 else lookI ms k := by
 unfold lookI
 by_cases q : p.1 = k
 · rw [List.find?_cons_of_pos (by simpa using q), if_pos q]; rfl
 · rw [List.find?_cons_of_neg (by simpa using q), if_neg q]
theorem lookI_put (ms : List (Int × Int)) (k v j : Int) : lookI (putI ms k v) j = if j = k then some v else lookI ms j := by
 have hs : ∀ (ns : List (Int × Int)), lookI (ns.map (fun p => if p.1 = k then (p.1, v) else p)) j = if j = k then (lookI ns j).map (fun _ => v) else lookI ns j := by
   intro ns
   induction ns with
   | nil => simp [lookI]
   | cons p ns ih =>
     rw [List.map_cons, lookI_cons, lookI_cons, ih]
     by_cases e1 : p.1 = k
     · by_cases e2 : j = k
       · simp [e1, e2]
       · have e3 : ¬ k = j := fun z => e2 z.symm
         simp [e1, e2, e3]
     · by_cases e2 : j = k
       · simp [e1, e2]
       · simp [e1, e2]
 have hn : ∀ (ns : List (Int × Int)), (ns.any fun p => decide (p.1 = k)) = (lookI ns k).isSome := by
   intro ns
   induction ns with
   | nil => rfl
   | cons p ns ih =>
     rw [List.any_cons, lookI_cons, ih]
     by_cases e1 : p.1 = k <;> simp [e1]
 have ha : ∀ (ns : List (Int × Int)), lookI (ns ++ [(k, v)]) j = (lookI ns j).or (if k = j then some v else none) := by
   intro ns
   induction ns with
   | nil => simp [lookI_cons, lookI]
   | cons p ns ih =>
     rw [List.cons_append, lookI_cons, lookI_cons, ih]
     by_cases e1 : p.1 = j <;> simp [e1]
 unfold putI
 rw [hn]
 cases q : lookI ms k with
 | some z =>
   simp only [Option.isSome_some, if_true]
   rw [hs]
   by_cases e : j = k
   · subst e; simp [q]
   · simp [e]
 | none =>
   simp only [Option.isSome_none, Bool.false_eq_true, if_false]
   rw [ha]
   by_cases e : j = k
   · subst e; simp [q]
   · have e' : ¬ k = j := fun z => e z.symm
     simp [e, e']
end L2
namespace L2
open PySem PySem.Spec PyProof.Rows
noncomputable def thash : Int := reduceHash (Builtin.Tuple.tupleHashOf [hashInt 0])
noncomputable def hsh : V → Int
 | .int i => hashInt i
 | .bl b => if b then 1 else 0
 | .non => 0xFCA86420
 | .ref _ => thash
 | _ => 0
theorem hashInt_small {i : Int} (h0 : 0 ≤ i) (h1 : i < 1000) : hashInt i = i := by
 have e : ((i.natAbs : Int) % ((2 ^ 61 - 1 : Nat) : Int)) = i := by
   rw [Int.natAbs_of_nonneg h0]
   exact Int.emod_eq_of_lt h0 (Int.lt_trans h1 (by decide))
 have n1 : ¬ (i == -1) = true := fun z => absurd (eq_of_beq z ▸ h0) (by decide)
 have r : rawHash i = i := by
   show (if ((if i < 0 then -((i.natAbs : Int) % ((2 ^ 61 - 1 : Nat) : Int)) else ((i.natAbs : Int) % ((2 ^ 61 - 1 : Nat) : Int))) == -1) = true then (-2 : Int) else (if i < 0 then -((i.natAbs : Int) % ((2 ^ 61 - 1 : Nat) : Int)) else ((i.natAbs : Int) % ((2 ^ 61 - 1 : Nat) : Int)))) = i
   rw [e, if_neg (Int.not_lt.mpr h0), if_neg n1]
 unfold hashInt
 rw [r, if_neg n1]
theorem thash_big : ¬ (0 ≤ thash ∧ thash < 1000) := by
 decide +kernel
noncomputable abbrev Ent : List (V × V) → List DictEntry → Prop := Paired fun p e => RelV p.1 e.key ∧ RelV p.2 e.val ∧ e.hash = hsh p.1
noncomputable def OddObj (o : Obj) (kvs : List (V × V)) : Prop := o.ExactDict ∧ ∃ es ep, o.data = .dict es ep ∧ Ent kvs es.toList
inductive KeyV : Value → Prop
 | non : KeyV .none
 | bl (b : Bool) : KeyV (.bool b)
 | int (i : Int) (t : Tok) : KeyV (.int i t)
 | ref (a : Addr) : KeyV (.ref a)
theorem range_filter_one (j : Nat) (p : Nat → Bool) : ∀ n, (∀ i, i < n → (p i = true ↔ i = j)) → (List.range n).filter p = if j < n then [j] else []
 | 0, _ => rfl
 | n + 1, h => by
   rw [List.range_succ, List.filter_append, range_filter_one j p n (fun i hi => h i (by omega))]
   have hn := h n (by omega)
   by_cases e : n = j
   · subst e
     have e1 : p n = true := hn.mpr rfl
     simp [e1]
   · have e1 : p n = false := by
       cases q : p n with
       | false => rfl
       | true => exact absurd (hn.mp q) e
     by_cases l : j < n
     · rw [if_pos l, if_pos (by omega)]
       simp [e1]
     · rw [if_neg l, if_neg (by omega)]
       simp [e1]
section
variable {prog : Program} {w : World} {A : Around} {E : Value → Shared → Prop} {s : Shared}
theorem find_absent {d : Addr} {o : Obj} {es : Array DictEntry} {ep : Nat} {key : Value} {h : Int} {Q : Option Nat → Shared → Prop} (hv : KeyV key) (ho : s.heap.get? d = some o) (hd : o.data = .dict es ep)
   (hh : ∀ e ∈ es, e.hash ≠ h) (hk : ∀ e ∈ es, e.key ≠ key) (q : Q none s) : wpAny (model prog w) A (dictFind d key h) Q E s := by
 have hp : placesWithHash es.size (fun i => es[i]?.map (·.hash)) h = [] := by
   unfold placesWithHash
   rw [List.filter_eq_nil_iff]
   intro i hi
   have hl : i < es.size := List.mem_range.mp hi
   show ¬ ((es[i]?.map (·.hash)) == some h) = true
   rw [Array.getElem?_eq_getElem hl, Option.map_some]
   have := hh es[i] (Array.getElem_mem hl)
   simpa using this
 unfold dictFind
 try with_reducible refine wpAny_holding ?_
 refine wpAny_bind (wpAny_dictEntries ho hd ?_)
 cases hv with
 | ref a =>
   rw [hp]
   try dsimp only
   have hany : ¬ (es.any fun e => e.key == Value.ref a && e.hash != h) = true := by
     rw [← Array.any_toList, List.any_eq_true]
     rintro ⟨e, hin, hc⟩
     have := hk e (Array.mem_toList_iff.mp hin)
     simp only [Bool.and_eq_true, beq_iff_eq] at hc
     exact this hc.1
   rw [if_neg (by simp [carriedByValue]), if_neg hany]
   exact wpAny_bind (wpAny_pure (wpAny_pure q))
 | _ => rw [hp]; exact wpAny_pure q
theorem find_there {d : Addr} {o : Obj} {es : Array DictEntry} {ep : Nat} {key : Value} {h : Int} {j : Nat} {Q : Option Nat → Shared → Prop} (hv : KeyV key) (ho : s.heap.get? d = some o) (hd : o.data = .dict es ep)
   (hj : j < es.size) (hkey : es[j].key = key) (hh : ∀ i (hi : i < es.size), es[i].hash = h ↔ i = j) (hk : ∀ i (hi : i < es.size), es[i].key = key → i = j) (q : Q (some j) s) : wpAny (model prog w) A (dictFind d key h) Q E s := by
 have hp : placesWithHash es.size (fun i => es[i]?.map (·.hash)) h = [j] := by
   unfold placesWithHash
   rw [range_filter_one j _ es.size (fun i hi => ?_), if_pos hj]
   show ((es[i]?.map (·.hash)) == some h) = true ↔ i = j
   rw [Array.getElem?_eq_getElem hi, Option.map_some, beq_iff_eq, Option.some.injEq]
   exact hh i hi
 have hej : es[j]? = some es[j] := Array.getElem?_eq_getElem hj
 have hhj : (es[j].hash == h) = true := by rw [(hh j hj).mpr rfl]; simp
 have hst : (([j] : List Nat).filterMap fun i => es[i]?.map (·.key)) = [key] := by simp [hej, hkey]
 unfold dictFind
 try with_reducible refine wpAny_holding ?_
 refine wpAny_bind (wpAny_dictEntries ho hd ?_)
 have one : wpAny (model prog w) A (dictWalkPlain d key h es [j]) Q E s := by
   unfold dictWalkPlain
   refine wpAny_bind ?_
   rw [List.forIn_cons]
   refine wpAny_bind ?_
   rw [hej]
   dsimp only
   rw [if_pos hhj]
   refine wpAny_bind (wpAny_dictEpoch ho hd (wpAny_bind ?_))
   rw [hkey]
   refine SeqAt.EqAt.same key _ _ _ _ (wpAny_bind (wpAny_dictEpoch ho hd ?_))
   show wpAny _ _ (if (ep != ep) = true then _ else _) _ E _
   rw [if_neg (by simp)]
   exact wpAny_bind (wpAny_rule (wpAny_pure (wpAny_pure (wpAny_pure q))))
 cases hv with
 | ref a =>
   rw [hp]
   try dsimp only
   rw [hst]
   have hany : ¬ (es.any fun e => e.key == Value.ref a && e.hash != h) = true := by
     rw [Array.any_eq_true]
     rintro ⟨i, hi, hc⟩
     simp only [Bool.and_eq_true, beq_iff_eq, bne_iff_ne, ne_eq] at hc
     exact hc.2 ((hh i hi).mpr (hk i hi hc.1))
   rw [if_neg (by simp [carriedByValue]), if_neg hany, if_pos (by simp)]
   refine wpAny_bind (wpAny_pure ?_)
   rw [if_neg (by simp)]
   refine wpAny_bind ?_
   rw [List.forIn_cons]
   refine wpAny_bind ?_
   rw [hej]
   dsimp only
   rw [if_pos hhj]
   refine wpAny_bind (wpAny_dictEpoch ho hd (wpAny_bind ?_))
   rw [hkey]
   refine SeqAt.EqAt.same (Value.ref a) _ _ _ _ (wpAny_bind (wpAny_dictEpoch ho hd ?_))
   show wpAny _ _ (if (ep != ep) = true then _ else _) _ E _
   rw [if_neg (by simp)]
   exact wpAny_bind (wpAny_rule (wpAny_pure (wpAny_pure (wpAny_pure q))))
 | _ =>
   rw [hp]
   try dsimp only
   rw [hst]
   exact one
end
end L2
namespace L2
open PySem PySem.Spec PyProof.Rows
inductive DA where
 | d (d : D) | dic
noncomputable def RepA (K : PySem.W.Frag) (H : Hp) (v : V) : DA → Prop
 | .d d => Rep K H v d
 | .dic => ∃ a kvs, v = .ref a ∧ Rd H a (.dK kvs)
noncomputable def isA (n : String) : DA → Bool
 | .d d => isD n d
 | .dic => n == "dict"
theorem call_isiA {X : Cx} {K : PySem.W.Frag} (hK : X.K = K := by rfl) : CallR X (.builtin "isinstance") (fun xs H Q => ∃ x n d, xs = [x, .ty n] ∧ (n = "int" ∨ n = "bool" ∨ n = "str" ∨ n = "tuple" ∨ n = "list" ∨ n = "dict") ∧ RepA K H x d ∧ Q (.bl (isA n d)) H) := by
 subst hK
 intro pins s σ H xs us Q I r h
 obtain ⟨x, n, d, e, hn, hx, q⟩ := h
 cases d with
 | d d => exact call_isinst pins s σ H xs us Q I r ⟨x, n, d, e, hn, hx, q⟩
 | dic =>
   subst e
   obtain ⟨a, kvs, rfl, hr⟩ := hx
   obtain ⟨u, v, rfl, rx, rt⟩ := vals2 r
   cases rt
   cases rx
   obtain ⟨z, hd, vs, rel, o, es, ep, ho, ex, _⟩ := dk_rd I.hok hr
   rcases hn with rfl | rfl | rfl | rfl | rfl | rfl
   · exact PySem.IsiPair.dict_int ho ex.1 ⟨.bl false, H, I.tok _, rfl, q⟩
   · exact PySem.IsiPair.dict_bool ho ex.1 ⟨.bl false, H, I.tok _, rfl, q⟩
   · exact PySem.IsiPair.dict_str ho ex.1 ⟨.bl false, H, I.tok _, rfl, q⟩
   · exact PySem.IsiPair.dict_tuple ho ex.1 ⟨.bl false, H, I.tok _, rfl, q⟩
   · exact PySem.IsiPair.dict_list ho ex.1 ⟨.bl false, H, I.tok _, rfl, q⟩
   · exact PySem.IsiPair.dict_dict ho ex.1 ⟨.bl true, H, I, rfl, q⟩
end L2
namespace L2
open PySem PySem.Spec PyProof.Rows
noncomputable def XO (a : Addr) (o : Obj) : HO := .ext fun h => h.get? a = some o
noncomputable def OddAt (H : Hp) (a : Addr) (kvs : List (V × V)) : Prop := (a == sysModules) = false ∧ ∃ o, H a = some (XO a o) ∧ OddObj o kvs
noncomputable def IsKey (H : Hp) (y : V) : Prop := (∃ i, y = .int i) ∨ (∃ b, y = .bl b) ∨ y = .non ∨ ∃ t, y = .ref t ∧ H t = some (.tup [.int 0])
theorem xo_ok {P : Program} {w : World} {H : Hp} {h : Heap} {a : Addr} {o : Obj} (e : h.get? a = some o) : ObjOk P w H h a (XO a o) := ⟨e, ⟨o, e⟩, fun h1 h2 q k => k o q⟩
theorem IsKey.val {H : Hp} {y : V} {u : Value} (k : IsKey H y) (r : RelV y u) : KeyV u := by
 rcases k with ⟨i, rfl⟩ | ⟨b, rfl⟩ | rfl | ⟨t, rfl, _⟩
 · obtain ⟨t, rfl⟩ := r; exact .int i t
 · cases r; exact .bl b
 · cases r; exact .non
 · cases r; exact .ref t
section
variable {X : Cx} {pins : List (Addr × Obj)} {σ : St} {H : Hp} {s : Shared} {a : Addr} {y v : V} {u r : Value} {A : Around} {E : Value → Shared → Prop} {o : Obj} {kvs : List (V × V)}
theorem odd_obj (I : Inv X pins σ H s) (e : H a = some (XO a o)) : s.heap.get? a = some o := (show ObjOk X.prog X.w H s.heap a (XO a o) from I.hok a _ e).1
theorem hash_of {Q : Int → Shared → Prop} (hu : A.units < cLine) (I : Inv X pins σ H s) (k : IsKey H y) (ry : RelV y u) (h : ∀ tk, Q (hsh y) { s with toks := tk }) : wpAny (model X.prog X.w) A (pyHash u) Q E s := by
 rcases k with ⟨i, rfl⟩ | ⟨b, rfl⟩ | rfl | ⟨t, rfl, ht⟩
 · obtain ⟨t, rfl⟩ := ry
   exact wpAny_pyHash_int (h _)
 · cases ry
   refine PySem.W.pyHash_slot (T := "bool") rfl F.slot_bool_hash entry_int_hash (args_int_hash _) (beq_builtin_none _) (.inr hu) ?_
   cases b
   · exact (show wpAny _ _ (do ret (← mkInt 0)) _ _ s from wpAny_bind (wpAny_mkInt (wpAny_pure ⟨_, _, rfl, h _⟩)))
   · exact (show wpAny _ _ (do ret (← mkInt 1)) _ _ s from wpAny_bind (wpAny_mkInt (wpAny_pure ⟨_, _, rfl, h _⟩)))
 · cases ry
   exact PySem.W.pyHash_slot (T := "NoneType") rfl F.slot_NoneType_hash F.entry_NoneType_hash (F.args_NoneType_hash_1 _) (beq_builtin_none _) (.inr hu) (wpAny_bind (wpAny_pure (wpAny_bind (wpAny_mkInt (wpAny_pure ⟨_, _, rfl, h _⟩)))))
 · cases ry
   have hk : IsTupleKey (mixKind X.prog X.w) s.heap [Sum.inl 0] t := key_of (ks := [Sum.inl 0]) I.hok (by simpa [kV] using ht)
   exact wpAny_pyHash_tuple hu hk (h _)
theorem Ent.mem {kvs : List (V × V)} {es : List DictEntry} (r : Ent kvs es) : ∀ e ∈ es, ∃ p ∈ kvs, RelV p.1 e.key ∧ e.hash = hsh p.1 := by
 induction r with
 | nil => intro e he; exact nomatch he
 | @cons p q ps qs h t ih =>
   intro e he
   rcases List.mem_cons.mp he with rfl | he
   · exact ⟨p, List.mem_cons_self, h.1, h.2.2⟩
   · obtain ⟨p', h1, h2⟩ := ih e he
     exact ⟨p', List.mem_cons_of_mem _ h1, h2⟩
theorem odd_set {Q : Unit → Shared → Prop} (hu : A.units + 1 < cLine) (I : Inv X pins σ H s) (mu : Mut (H a)) (ho : s.heap.get? a = some o) (hO : OddObj o kvs) (k : IsKey H y) (ry : RelV y u) (rv : RelV v r) (hne : ∀ p ∈ kvs, hsh p.1 ≠ hsh y) (hl : kvs.length < sizeLine)
   (h : ∀ o' s', OddObj o' (kvs ++ [(y, v)]) → Inv X pins σ (upd H a (XO a o')) s' → Q () s') : wpAny (model X.prog X.w) A (setItem (.ref a) u r) Q E s := by
 obtain ⟨hx, es, ep, hd, hE⟩ := hO
 have hT : s.TypeIs (.ref a) "dict" := ⟨o, ho, hx.1⟩
 have kv := k.val ry
 unfold setItem
 try with_reducible refine wpAny_holding ?_
 refine wpAny_bind (wpAny_sequenceKey hT (by decide) ?_)
 refine wpAny_bind (wpAny_callSpecial?_slot (name := Str.ofString "__setitem__") hT slot_dict_setitem
   (wpAny_call_entry slot_dict_setitem hT entry_dict_setitem ?_ (args_dict_setitem _ _ _)))
 show wpAny _ _ (Builtin.Dict.notOrdered "__setitem__" ⟨[.ref a, u, r], []⟩ >>= _) _ _ s
 refine wpAny_bind (wpAny_notOrdered_dict hT ?_)
 show wpAny _ _ (dictSet a u r >>= _) _ _ s
 refine wpAny_bind ?_
 unfold dictSet
 try with_reducible refine wpAny_holding ?_
 refine wpAny_bind (hash_of (by simpa using hu) I k ry fun tk => ?_)
 unfold dictSetHashed
 try with_reducible refine wpAny_holding ?_
 have hmem := hE.mem
 refine wpAny_bind (find_absent (s := { s with toks := tk }) kv ho hd (fun e he q => ?_) (fun e he q => ?_) ?_)
 · obtain ⟨p, hp, _, h2⟩ := hmem e (Array.mem_toList_iff.mpr he)
   exact hne p hp (h2.symm.trans q)
 · obtain ⟨p, hp, h1, h2⟩ := hmem e (Array.mem_toList_iff.mpr he)
   rw [q] at h1
   exact hne p hp (by rw [RelV.inj h1 ry])
 · have hsz : es.size = kvs.length := by
     have := Paired.length hE
     simpa using this.symm
   refine wpAny_bind (wpAny_rule (wpAny_updateDictKeys (hz := by omega) (s := { s with toks := tk }) ho hd (wpAny_pure ⟨.none, rfl, wpAny_pure ?_⟩)))
   refine h (o.mapDictKeys fun es => es.push ⟨hsh y, u, r⟩) _ ⟨hx.mapDictKeys _, _, ep + 1, Obj.data_mapDictKeys hd _, ?_⟩ ?_
   · rw [Array.toList_push]
     exact Paired.snoc hE ⟨ry, rv, rfl⟩
   · have hg := Heap.get?_update_self (h := s.heap) (a := a) (fun o => o.mapDictKeys fun es => es.push ⟨hsh y, u, r⟩) ho (Obj.isFreed_of_dict (Obj.data_mapDictKeys hd _))
     exact d_write (I.tok tk) mu (Heap.SameBut.update ..) ⟨_, hg⟩ (xo_ok hg)
theorem odd_notIn {Q : Value → Shared → Prop} (hu : A.units + 1 < cLine) (I : Inv X pins σ H s) (hs : (a == sysModules) = false) (ho : s.heap.get? a = some o) (hO : OddObj o kvs) (k : IsKey H y) (ry : RelV y u) (hne : ∀ p ∈ kvs, hsh p.1 ≠ hsh y)
   (h : ∀ tk, Q (.bool true) { s with toks := tk }) : wpAny (model X.prog X.w) A (compareOp .NotIn u (.ref a)) Q E s := by
 obtain ⟨hx, es, ep, hd, hE⟩ := hO
 have hT : s.TypeIs (.ref a) "dict" := ⟨o, ho, hx.1⟩
 have kv := k.val ry
 have hmem := hE.mem
 show wpAny _ _ (do return .bool (!(← contains (.ref a) u))) Q E s
 refine wpAny_bind ?_
 unfold contains
 try with_reducible refine wpAny_holding ?_
 refine wpAny_bind (wpAny_specialOf hT slot_dict_contains.lookup ?_)
 show wpAny _ _ (if (some (Value.builtin "dict.__contains__") == some Value.none) = true then _ else _) _ E s
 rw [if_neg (by rw [beq_builtin_none]; exact Bool.false_ne_true)]
 refine wpAny_bind (wpAny_callSpecialUnlessNone?_slot (name := Str.ofString "__contains__") hT slot_dict_contains
   (wpAny_call_entry slot_dict_contains hT entry_dict_contains ?_ (args_dict_contains _ _)))
 show wpAny _ _ (dictGet a u >>= _) _ _ s
 refine wpAny_bind ?_
 unfold dictGet
 try with_reducible refine wpAny_holding ?_
 refine wpAny_bind (hash_of (by simpa using hu) I k ry fun tk => wpAny_bind (find_absent (s := { s with toks := tk }) kv ho hd (fun e he q => ?_) (fun e he q => ?_) (wpAny_pure ?_)))
 · obtain ⟨p, hp, _, h2⟩ := hmem e (Array.mem_toList_iff.mpr he)
   exact hne p hp (h2.symm.trans q)
 · obtain ⟨p, hp, h1, h2⟩ := hmem e (Array.mem_toList_iff.mpr he)
   rw [q] at h1
   exact hne p hp (by rw [RelV.inj h1 ry])
 · show wpAny _ _ (Builtin.Dict.pendingKey? a u >>= _) _ _ _
   exact wpAny_bind (wpAny_pendingKey_other hs (wpAny_pure ⟨_, rfl, wpAny_truthy_bool (wpAny_pure (h _))⟩))
theorem Ent.get {kvs : List (V × V)} {es : List DictEntry} (r : Ent kvs es) : ∀ {i : Nat} {p : V × V}, kvs[i]? = some p → ∃ e, es[i]? = some e ∧ RelV p.1 e.key ∧ RelV p.2 e.val ∧ e.hash = hsh p.1 := by
 induction r with
 | nil => intro i p e; simp at e
 | @cons p' q ps qs h t ih =>
   intro i p e
   cases i with
   | zero =>
     have e' : p' = p := by simpa using e
     subst e'
     exact ⟨q, by simp, h⟩
   | succ i =>
     obtain ⟨x, h1, h2⟩ := ih (i := i) (p := p) (by simpa using e)
     exact ⟨x, by simpa using h1, h2⟩
theorem odd_there {Q : Value → Shared → Prop} (hu : A.units + 1 < cLine) (I : Inv X pins σ H s) (hs : (a == sysModules) = false) (ho : s.heap.get? a = some o) (hO : OddObj o kvs) (k : IsKey H y) (hni : ∀ i, y ≠ .int i) (ry : RelV y u) {j : Nat} {z : V} (hj : kvs[j]? = some (y, z))
   (hone : ∀ i p, kvs[i]? = some p → hsh p.1 = hsh y → i = j) (h : ∀ tk, Q (.bool false) { s with toks := tk }) : wpAny (model X.prog X.w) A (compareOp .NotIn u (.ref a)) Q E s := by
 obtain ⟨hx, es, ep, hd, hE⟩ := hO
 have hT : s.TypeIs (.ref a) "dict" := ⟨o, ho, hx.1⟩
 have kv := k.val ry
 have hl : kvs.length = es.size := by simpa using Paired.length hE
 have hjl : j < kvs.length := (List.getElem?_eq_some_iff.mp hj).1
 have at_ : ∀ (i : Nat) (hi : i < es.size), ∃ p, kvs[i]? = some p ∧ RelV p.1 es[i].key ∧ RelV p.2 es[i].val ∧ es[i].hash = hsh p.1 := fun i hi => by
   have hi2 : i < kvs.length := by omega
   obtain ⟨e, h1, h2⟩ := hE.get (i := i) (p := kvs[i]) (List.getElem?_eq_getElem hi2)
   have h3 : es[i] = e := by
     rw [List.getElem?_eq_getElem (by simpa using hi)] at h1
     simpa using h1
   exact ⟨kvs[i], List.getElem?_eq_getElem hi2, by rw [h3]; exact h2⟩
 have hjs : j < es.size := by omega
 obtain ⟨pj, e1, rk, rz, hhj⟩ := at_ j hjs
 rw [hj] at e1
 cases e1
 have hkey : es[j].key = u := by
   rcases k with ⟨i, rfl⟩ | ⟨b, rfl⟩ | rfl | ⟨t, rfl, ht⟩
   · exact absurd rfl (hni i)
   · exact (show es[j].key = Value.bool b from rk).trans (show u = Value.bool b from ry).symm
   · exact (show es[j].key = Value.none from rk).trans (show u = Value.none from ry).symm
   · exact (show es[j].key = Value.ref t from rk).trans (show u = Value.ref t from ry).symm
 show wpAny _ _ (do return .bool (!(← contains (.ref a) u))) Q E s
 refine wpAny_bind ?_
 unfold contains
 try with_reducible refine wpAny_holding ?_
 refine wpAny_bind (wpAny_specialOf hT slot_dict_contains.lookup ?_)
 show wpAny _ _ (if (some (Value.builtin "dict.__contains__") == some Value.none) = true then _ else _) _ E s
 rw [if_neg (by rw [beq_builtin_none]; exact Bool.false_ne_true)]
 refine wpAny_bind (wpAny_callSpecialUnlessNone?_slot (name := Str.ofString "__contains__") hT slot_dict_contains
   (wpAny_call_entry slot_dict_contains hT entry_dict_contains ?_ (args_dict_contains _ _)))
 show wpAny _ _ (dictGet a u >>= _) _ _ s
 refine wpAny_bind ?_
 unfold dictGet
 try with_reducible refine wpAny_holding ?_
 refine wpAny_bind (hash_of (by simpa using hu) I k ry fun tk => wpAny_bind (find_there (s := { s with toks := tk }) kv ho hd hjs hkey (fun i hi => ⟨fun q => ?_, fun q => ?_⟩) (fun i hi q => ?_) ?_))
 · obtain ⟨p, e1, _, _, e4⟩ := at_ i hi
   exact hone i p e1 (e4.symm.trans q)
 · subst q
   exact hhj
 · obtain ⟨p, e1, e2, _, _⟩ := at_ i hi
   rw [q] at e2
   exact hone i p e1 (by rw [RelV.inj e2 ry])
 · refine wpAny_bind (wpAny_dictEntries (s := { s with toks := tk }) ho hd ?_)
   rw [Array.getElem?_eq_getElem hjs]
   refine wpAny_pure ?_
   show wpAny _ _ (ret (.bool true)) _ _ _
   exact wpAny_pure ⟨_, rfl, wpAny_truthy_bool (wpAny_pure (h _))⟩
theorem odd_len {Q : Value → Shared → Prop} (I : Inv X pins σ H s) (hs : (a == sysModules) = false) (ho : s.heap.get? a = some o) (hO : OddObj o kvs) (hl : kvs.length ≤ sizeLine) (h : ∀ t tk, Q (.int kvs.length t) { s with toks := tk }) :
   wpAny (model X.prog X.w) A (call (.builtin "len") [.ref a]) Q E s := by
 obtain ⟨hx, es, ep, hd, hE⟩ := hO
 have hT : s.TypeIs (.ref a) "dict" := ⟨o, ho, hx.1⟩
 have hsz : es.size = kvs.length := by
   have := Paired.length hE
   simpa using this.symm
 refine Calls.call_function_entry kind_len plain_len entry_len (args_len1 _) ?_
 unfold Builtin.«len»
 refine wpAny_bind (m := oneArg "len" _) (wpAny_pure ?_)
 refine wpAny_bind (m := callSpecial? (.ref a) (Str.ofString "__len__")) (wpAny_callSpecial?_slot (name := Str.ofString "__len__") hT F.slot_dict_len
   (wpAny_call_entry F.slot_dict_len hT F.entry_dict_len ?_ (F.args_dict_len_1 _)))
 show wpAny _ _ (dictSize a >>= _) _ _ s
 unfold dictSize
 refine wpAny_bind (wpAny_bind (wpAny_dictEntries ho hd (wpAny_pure ?_)))
 show wpAny _ _ (Builtin.Dict.pendingCount a >>= _) _ _ s
 refine wpAny_bind (wpAny_pendingCount_other hs ?_)
 refine wpAny_ret_mkInt ?_
 rw [Nat.add_zero, hsz]
 rw [sizeLine_eq] at hl
 show wpAny _ _ _ _ _ { s with toks := s.toks + 1 }
 refine wpAny_bind (wpAny_holding (wpAny_pure ?_))
 refine wpAny_bind (wpAny_letGo ?_)
 show wpAny _ _ (if ((kvs.length : Nat) : Int) < 0 then _ else _) _ _ _
 rw [if_neg (by omega)]
 show wpAny _ _ (if ((kvs.length : Nat) : Int) ≥ 2 ^ 63 then _ else _) _ _ _
 rw [if_neg (by omega)]
 exact wpAny_bind (wpAny_mkInt (wpAny_pure ⟨_, rfl, h _ _⟩))
theorem dk_odd {ms : List (Key × V)} (I : Inv X pins σ H s) (e : H a = some (.dK ms)) (hi : ∀ p ∈ ms, ∃ i, p.1 = Sum.inl i) : (a == sysModules) = false ∧ ms.length ≤ sizeLine ∧ ∃ o, s.heap.get? a = some o ∧ OddObj o (ms.map fun p => (kV p.1, p.2)) := by
 obtain ⟨z, hs, vs, rel, o, es, ep, ho, hx, hd, hk, hp, hn⟩ := dk_of I.hok e
 refine ⟨hs, z, o, ho, hx, es, ep, hd, ?_⟩
 have hk' : ∀ e ∈ es.toList, ∃ k, (mixKind X.prog X.w).is k e.key = true ∧ e.hash = (mixKind X.prog X.w).hash k := fun e he => hk e (Array.mem_toList_iff.mp he)
 clear hk hn hd e z
 generalize es.toList = el at hk' hp
 induction hp generalizing ms with
 | nil => cases rel; exact .nil
 | @cons x kv el' vs' h1 h2 h3 ih =>
   cases rel with
   | @cons p _ ps _ hpq ht =>
     refine .cons ?_ (ih (fun q hq => hi q (List.mem_cons_of_mem _ hq)) ht (fun e he => hk' e (List.mem_cons_of_mem _ he)))
     obtain ⟨i, hpi⟩ := hi p List.mem_cons_self
     obtain ⟨k', g1, g2⟩ := hk' x List.mem_cons_self
     have ek : kv.1 = k' := (mixKind X.prog X.w).inj _ _ _ h1 g1
     have ep : p.1 = kv.1 := hpq.1
     refine ⟨(show RelV (kV p.1) x.key by rw [ep]; exact is_kV h1), (show RelV p.2 x.val by rw [h2]; exact hpq.2), (show x.hash = hsh (kV p.1) from ?_)⟩
     rw [g2, ← ek, ← ep, hpi]
     rfl
end
section
variable {prog : Program} {w : World} {A : Around} {E : Value → Shared → Prop} {s : Shared}
theorem raw_items {d : Addr} {o : Obj} {es : Array DictEntry} {ep : Nat} {Q : Value → Shared → Prop} (hs : (d == sysModules) = false) (ho : s.heap.get? d = some o) (hx : o.ExactDict) (hd : o.data = .dict es ep)
   (h : Q (.ref s.heap.objs.size) { s with heap := s.heap.push { cls := .type "dict_items", data := .fields #[.ref d] } }) : wpAny (model prog w) A (call (.builtin "dict.items") [.ref d]) Q E s := by
 have hT : s.TypeIs (.ref d) "dict" := ⟨o, ho, hx.1⟩
 refine wpAny_call_entry PySem.F.slot_dict_items hT PySem.F.entry_dict_items ?_ (PySem.F.args_dict_items_1 _)
 unfold Builtin.«dict.items»
 refine wpAny_bind ?_
 unfold Builtin.Dict.noArgs
 refine wpAny_bind (wpAny_notOrdered_dict hT (show wpAny _ _ (pure d) _ _ s from wpAny_pure ?_))
 show wpAny _ _ (Builtin.Dict.showsAll d >>= _) _ _ s
 unfold Builtin.Dict.showsAll
 rw [if_neg (by rw [hs]; decide)]
 exact wpAny_bind (wpAny_pure (wpAny_bind (wpAny_newObj_type (wpAny_pure ⟨_, rfl, h⟩))))
theorem raw_iter {v d : Addr} {o : Obj} {es : Array DictEntry} {ep : Nat} {Q : Value → Shared → Prop} (hv : s.heap.IsItemsView v d) (ho : s.heap.get? d = some o) (hd : o.data = .dict es ep)
   (h : Q (.ref s.heap.objs.size) { s with heap := s.heap.push { cls := .type "dict_itemiterator", data := .fields #[.none, .bool false, .ref d, .int 0 0, .int es.size 0, .int ep 0, .none, .none] } }) :
   wpAny (model prog w) A (pyIter (.ref v)) Q E s := by
 have hT := hv.typeIs
 obtain ⟨ov, hov, hcv, hdv⟩ := hv
 refine wpAny_pyIter_slot hT F.slot_dict_items_iter (wpAny_call_entry F.slot_dict_items_iter hT F.entry_dict_items_iter ?_ (F.args_dict_items_iter_1 _))
 unfold Builtin.«dict_items.__iter__»
 refine wpAny_bind (wpAny_pure (wpAny_bind ?_))
 unfold Builtin.Dict_items.dictOf
 refine wpAny_bind (wpAny_field hov hdv (x := .ref d) rfl (wpAny_pure (wpAny_bind ?_)))
 unfold Builtin.Dict_items.newIterator
 refine wpAny_bind (wpAny_dictEntries ho hd (wpAny_bind (wpAny_dictEpoch ho hd ?_)))
 simp only [show Builtin.Dict_items.ownsTuple "dict_itemiterator" = true by decide, if_true]
 refine wpAny_newObj_type (wpAny_pure ⟨_, rfl, "dict_itemiterator", _, ⟨_, Heap.get?_push_size _ rfl, rfl⟩, F.slot_dict_itemiterator_next.lookup, ?_⟩)
   (by simp only [sizeOk, Builtin.Dict_items.ownedTupleFields, List.size_toArray, List.length_append, List.length_cons, List.length_nil, sizeLine_eq]; omega)
 simpa [rawInt, Builtin.Dict_items.ownedTupleFields] using h
theorem raw_next {it d : Addr} {i ep : Nat} {o : Obj} {es : Array DictEntry} {ok ov : Value} {Q : Option Value → Shared → Prop} (hit : IsItemIter s.heap it d i es.size ep ok ov) (ho : s.heap.get? d = some o) (hd : o.data = .dict es ep) (hi : i < es.size)
   (h : ∀ h', IsItemIterOut h' it d (i + 1) es.size ep es[i].key es[i].val s.heap.objs.size → h'.get? s.heap.objs.size = some { cls := .type "tuple", data := .seq #[es[i].key, es[i].val] } → h'.objs.size = s.heap.objs.size + 1 →
     (∀ b o, b ≠ it → s.heap.get? b = some o → h'.get? b = some o) → Q (some (.ref s.heap.objs.size)) { s with heap := h' }) : wpAny (model prog w) A (pyNext (.ref it)) Q E s := by
 obtain ⟨hp, g, dr, tk, os⟩ := s
 have hT : Shared.TypeIs ⟨hp, g, dr, tk, os⟩ (.ref it) "dict_itemiterator" := ⟨_, hit, rfl⟩
 unfold pyNext
 refine wpAny_bind (wpAny_attempt (wpAny_callSpecial?_slot (name := Str.ofString "__next__") hT F.slot_dict_itemiterator_next (wpAny_call_entry F.slot_dict_itemiterator_next hT F.entry_dict_itemiterator_next ?_ (F.args_dict_itemiterator_next_1 _))))
 refine wpAny_bind (wpAny_pure (wpAny_bind (wpAny_bind ?_)))
 first | refine wpAny_bind (wpAny_typeNameOfWhole_itemiter hT (wpAny_pure (wpAny_bind (wpAny_fieldsOf hit rfl ?_)))) | refine wpAny_bind (wpAny_typeNameOf_itemiter hT (wpAny_pure (wpAny_bind (wpAny_fieldsOf hit rfl ?_))))
 simp only [show Builtin.Dict_items.ownsTuple "dict_itemiterator" = true by decide, if_true]
 show wpAny _ _ (if (Value.ref d == Value.none) = true then _ else _) _ _ _
 have nz : ¬ (Value.ref d == Value.none) = true := Bool.false_ne_true
 rw [if_neg nz]
 refine wpAny_bind (wpAny_pure (wpAny_bind (wpAny_dictEntries ho hd ?_)))
 rw [if_neg (by simp)]
 refine wpAny_bind (wpAny_pure (wpAny_bind (wpAny_dictEpoch ho hd ?_)))
 rw [if_neg (by simp)]
 refine wpAny_pure ?_
 simp only [show ¬ ((i : Int) < 0) from by omega, if_false, Int.toNat_natCast, Array.getElem?_eq_getElem hi]
 refine wpAny_bind ?_
 first | refine wpAny_bind (wpAny_typeNameOfWhole_itemiter hT (wpAny_pure (wpAny_bind (wpAny_isOneOf_itemiter hT ?_)))) | refine wpAny_bind (wpAny_typeNameOf_itemiter hT (wpAny_pure (wpAny_bind (wpAny_isOneOf_itemiter hT ?_))))
 show wpAny _ _ (setField (.ref it) 3 (rawInt ((i : Int) + 1)) >>= _) _ _ ⟨hp, g, dr, tk, os⟩
 refine wpAny_bind (wpAny_setField_rec hit (by simp) fun g1 q1 k1 => ?_)
 replace k1 : Heap.SameBut it hp g1 := k1
 replace q1 : IsItemIter g1 it d (i + 1) es.size ep ok ov := by
   have e : ((i + 1 : Nat) : Int) = (i : Int) + 1 := by omega
   unfold IsItemIter
   rw [e]
   simpa [rawInt] using q1
 have hT1 : Shared.TypeIs ⟨g1, g, dr, tk, os⟩ (.ref it) "dict_itemiterator" := ⟨_, q1, rfl⟩
 refine wpAny_bind (wpAny_holding (wpAny_bind (wpAny_isOneOf_itemiter hT1 (wpAny_bind (wpAny_isOneOf_itemiter hT1 ?_)))))
 show wpAny _ _ (Builtin.Dict_items.pairFromOwner (.ref it) 6 es[i].key es[i].val) _ _ ⟨g1, g, dr, tk, os⟩
 unfold Builtin.Dict_items.pairFromOwner
 refine wpAny_bind (wpAny_newTuple ?_)
 have q2 : IsItemIter (g1.push { cls := .type "tuple", data := .seq #[es[i].key, es[i].val] }) it d (i + 1) es.size ep ok ov := Heap.get?_push_of_some _ q1
 have z1 : g1.objs.size = hp.objs.size := k1.1
 have il : it < hp.objs.size := Heap.lt_size hit
 have t2 : (g1.push { cls := .type "tuple", data := .seq #[es[i].key, es[i].val] }).get? hp.objs.size = some { cls := .type "tuple", data := .seq #[es[i].key, es[i].val] } := by rw [← z1]; exact Heap.get?_push_size _ rfl
 have z2 : (g1.push { cls := .type "tuple", data := .seq #[es[i].key, es[i].val] }).objs.size = hp.objs.size + 1 := by rw [Heap.size_push, z1]
 have k2 : ∀ b o, b ≠ it → hp.get? b = some o → (g1.push { cls := .type "tuple", data := .seq #[es[i].key, es[i].val] }).get? b = some o := fun b o hb e => Heap.get?_push_of_some _ (k1.extBut b o hb e)
 generalize g1.push { cls := .type "tuple", data := .seq #[es[i].key, es[i].val] } = g2 at q2 t2 z2 k2
 show wpAny _ _ (Builtin.Dict_items.ownedTupleIsFree (.ref it) >>= _) _ _ ⟨g2, g, dr, tk, os⟩
 rw [z1]
 refine wpAny_bind ?_
 unfold Builtin.Dict_items.ownedTupleIsFree
 refine wpAny_bind (wpAny_field q2 rfl (x := .none) rfl (wpAny_pure ?_))
 simp only [if_true]
 refine wpAny_bind (wpAny_field q2 rfl (x := ok) rfl (wpAny_bind (wpAny_field q2 rfl (x := ov) rfl ?_)))
 refine wpAny_bind (wpAny_setField_rec q2 (by simp) fun g3 q3 k3 => ?_)
 replace k3 : Heap.SameBut it g2 g3 := k3
 replace q3 : IsItemIter g3 it d (i + 1) es.size ep es[i].key ov := q3
 refine wpAny_bind (wpAny_setField_rec q3 (by simp) fun g4 q4 k4 => ?_)
 replace k4 : Heap.SameBut it g3 g4 := k4
 replace q4 : IsItemIter g4 it d (i + 1) es.size ep es[i].key es[i].val := q4
 refine wpAny_bind (wpAny_setField_rec q4 (by simp) fun g5 q5 k5 => ?_)
 replace k5 : Heap.SameBut it g4 g5 := k5
 replace q5 : IsItemIterOut g5 it d (i + 1) es.size ep es[i].key es[i].val hp.objs.size := q5
 refine wpAny_bind (wpAny_setField_rec q5 (by simp) fun g6 q6 k6 => ?_)
 replace k6 : Heap.SameBut it g5 g6 := k6
 replace q6 : IsItemIterOut g6 it d (i + 1) es.size ep es[i].key es[i].val hp.objs.size := q6
 have up : ∀ b o, b ≠ it → g2.get? b = some o → g6.get? b = some o := fun b o n e => k6.extBut b o n (k5.extBut b o n (k4.extBut b o n (k3.extBut b o n e)))
 refine wpAny_bind (wpAny_letGo (wpAny_pure (wpAny_pure ⟨_, rfl, wpAny_pure (h g6 q6 (up _ _ (Nat.ne_of_gt il) t2) ?_ fun b o n e => up b o n (k2 b o n e))⟩)))
 show g6.objs.size = hp.objs.size + 1
 rw [k6.1, k5.1, k4.1, k3.1, z2]
theorem raw_end {it d : Addr} {i ep : Nat} {o : Obj} {es : Array DictEntry} {ok ov : Value} {Q : Option Value → Shared → Prop} (hh : A.handled = none) (hit : IsItemIter s.heap it d i es.size ep ok ov) (ho : s.heap.get? d = some o) (hd : o.data = .dict es ep) (hi : es.size ≤ i)
   (h : ∀ h', Heap.ExtBut it s.heap h' → Q none { s with heap := h' }) : wpAny (model prog w) A (pyNext (.ref it)) Q E s := by
 have hT : s.TypeIs (.ref it) "dict_itemiterator" := ⟨_, hit, rfl⟩
 unfold pyNext
 refine wpAny_bind (wpAny_attempt (wpAny_callSpecial?_slot (name := Str.ofString "__next__") hT F.slot_dict_itemiterator_next (wpAny_call_entry F.slot_dict_itemiterator_next hT F.entry_dict_itemiterator_next ?_ (F.args_dict_itemiterator_next_1 _))))
 refine wpAny_bind (wpAny_pure (wpAny_bind (wpAny_bind ?_)))
 first | refine wpAny_bind (wpAny_typeNameOfWhole_itemiter hT (wpAny_pure (wpAny_bind (wpAny_fieldsOf hit rfl ?_)))) | refine wpAny_bind (wpAny_typeNameOf_itemiter hT (wpAny_pure (wpAny_bind (wpAny_fieldsOf hit rfl ?_))))
 simp only [show Builtin.Dict_items.ownsTuple "dict_itemiterator" = true by decide, if_true]
 show wpAny _ _ (if (Value.ref d == Value.none) = true then _ else _) _ _ s
 have nz : ¬ (Value.ref d == Value.none) = true := Bool.false_ne_true
 rw [if_neg nz]
 refine wpAny_bind (wpAny_pure (wpAny_bind (wpAny_dictEntries ho hd ?_)))
 rw [if_neg (by simp)]
 refine wpAny_bind (wpAny_pure (wpAny_bind (wpAny_dictEpoch ho hd ?_)))
 rw [if_neg (by simp)]
 refine wpAny_pure ?_
 simp only [show ¬ ((i : Int) < 0) from by omega, if_false, Int.toNat_natCast, Array.getElem?_eq_none hi]
 refine wpAny_bind ?_
 first | refine wpAny_bind (wpAny_typeNameOfWhole_itemiter hT (wpAny_pure ?_)) | refine wpAny_bind (wpAny_typeNameOf_itemiter hT (wpAny_pure ?_))
 show wpAny _ _ (setField (.ref it) 2 .none >>= _) _ _ s
 refine wpAny_bind (wpAny_setField hit rfl (by simp) ?_)
 show wpAny _ _ (newExc (.type "StopIteration") [] >>= _) _ _ _
 refine wpAny_bind ?_
 simp only [newExc, newTuple]
 refine wpAny_bind (wpAny_newObj_type (wpAny_bind (m := firstArgMember _ _) (wpAny_of_eq (a := Value.none) (by first | rfl | (simp only [firstArgMember]; rfl)) (wpAny_newObj_type ?_ (by size_fits)))) (by size_fits))
 simp only [raiseNew]
 refine wpAny_bind (wpAny_handled ?_)
 rw [show A.in1.handled = none from hh]
 refine wpAny_bind (wpAny_pure (wpAny_throw ?_))
 refine wpAny_bind (wpAny_isInstance (T := "StopIteration") (b := true) ⟨_, Heap.get?_push_size _ rfl, rfl⟩ isSubtype_stop (wpAny_pure ?_))
 exact (h _ (((Heap.SameBut.update ..).extBut.push _).push _))
end
noncomputable def ItmX (d : Addr) (o : Obj) (kvs : List (V × V)) : It :=
 ⟨fun i H => H d = some (XO d o) ∧ i < kvs.length,
  fun i H x H' => ∃ p k v, H p = none ∧ x = .ref p ∧ H' = upd H p (.tup [k, v]) ∧ kvs[i]? = some (k, v),
  fun i H => H d = some (XO d o) ∧ kvs.length ≤ i⟩
theorem turn_odd {P : Program} {w : World} {K : PySem.W.Frag} {tes : List Expr} {x1 : Nat} {tpos : Pos} (d it : Addr) (o : Obj) {es : Array DictEntry} {ep : Nat} {kvs : List (V × V)} (hd : o.data = .dict es ep) (hE : Ent kvs es.toList) :
   Turn P w K (.Tuple tes x1 tpos) (ItmX d o kvs) [it] it (fun i h => ∃ ok ov, IsItemIter h it d i es.size ep ok ov) where
 mem := by simp
 obj := fun i h st b hb => by
   obtain ⟨ok, ov, h1⟩ := st
   have z : b = it := by simpa using hb
   subst z
   exact ⟨_, h1, fun v q => by cases (show Data.fields _ = Data.cell v from q)⟩
 keep := fun i h h' st k => by
   obtain ⟨ok, ov, h1⟩ := st
   exact ⟨ok, ov, k it (by simp) _ h1⟩
 item := by
   intro X hP hw hK hc i pins s σ H E I hf st hg
   subst hP hw hK
   obtain ⟨ok, ov, hit⟩ := st
   obtain ⟨hz, hi⟩ := hg
   have ho := odd_obj I hz
   have hl : kvs.length = es.size := by simpa using Paired.length hE
   have hie : i < es.size := by omega
   obtain ⟨e, he1, rk, rv, _⟩ := hE.get (i := i) (p := kvs[i]) (List.getElem?_eq_getElem hi)
   have he2 : es[i] = e := by
     rw [List.getElem?_eq_getElem (by simpa using hie)] at he1
     simpa using he1
   subst he2
   have lti : it < s.heap.objs.size := Heap.lt_size hit
   have hfresh : H s.heap.objs.size = none := I.hok.fresh (Nat.le_refl _)
   refine raw_next hit ho hd hie fun h' hout htup hsz' hk => ?_
   refine ⟨_, rfl, wpAny_letOwnedTupleGo_items hout fun h3 hen hsb => ?_⟩
   replace hsb : Heap.SameBut it h' h3 := hsb
   have kk : ∀ b ob, b ∉ [it] → s.heap.get? b = some ob → h3.get? b = some ob := fun b ob n z => by
     have n1 : b ≠ it := by simpa using n
     exact (hsb.2 b n1).trans (hk b ob n1 z)
   have ht3 : h3.get? s.heap.objs.size = some { cls := .type "tuple", data := .seq #[es[i].key, es[i].val] } := (hsb.2 _ (Nat.ne_of_gt lti)).trans htup
   have ntr : ∀ c ob, H c = some ob → c ∉ [it] := fun c ob e hm => by rw [(hf c hm).1] at e; cases e
   have nsz : ∀ b ob, H b = some ob → b ≠ s.heap.objs.size := fun b ob z => ne_of_none z hfresh
   refine ⟨.ref s.heap.objs.size, upd H s.heap.objs.size (.tup [kvs[i].1, kvs[i].2]), ?_, rfl, ⟨s.heap.objs.size, _, _, hfresh, rfl, rfl, List.getElem?_eq_getElem hi⟩, ⟨_, _, hen⟩, fun b hb => ?_⟩
   · refine Inv.step (s := s) (h' := h3) (t' := s.toks) (H' := upd H s.heap.objs.size (.tup [kvs[i].1, kvs[i].2])) I (g' := s.gens) (d' := s.drawn) (ch := [it]) (fun b hb => ?_) (fun b ob _ _ hb z _ => kk b ob hb z) (fun b ob _ _ hb z _ => ⟨ob.slots, kk b ob hb z⟩) (fun b ob hb z n => ?_) (fun b ob hb z => ⟨ob, kk b ob hb z⟩)
       (fun b ys z => by rw [upd_ne (nsz b _ z)]; exact z) (fun b ob w' z => by rw [upd_ne (nsz b _ z)]; exact z) (fun b ps z => ⟨#[], by rw [upd_ne (nsz b _ z), z]; simp⟩) (fun m hm => ?_) (fun b w' z => ?_) I.bare
     · have f := hf b hb
       exact ⟨f.2.2.2.1, f.2.1, f.2.2.2.2.1, f.2.2.2.2.2⟩
     · rw [upd_ne (Nat.ne_of_lt (Heap.lt_size z))]
       exact n
     · obtain ⟨ob, es', ep', hob, r⟩ := hm
       exact ⟨ob, es', ep', kk _ ob (fun q => (hf _ q).2.1 rfl) hob, r⟩
     · by_cases hb : b = s.heap.objs.size
       · subst hb
         rw [upd_same] at z
         cases z
         exact ⟨(by show (2 : Nat) ≤ sizeLine; decide), [es[i].key, es[i].val], .cons rk (.cons rv .nil), ⟨_, ht3, rfl, rfl, _, rfl⟩⟩
       · rw [upd_ne hb] at z
         refine (I.hok b w' z).stay (fun c y hc' q => ?_) (fun c q => by rw [upd_ne (nsz c _ q)]; exact q) fun c ys q => by rw [upd_ne (nsz c _ q)]; exact q
         rcases hc' with rfl | hc'
         · exact kk _ _ (ntr _ _ z) q
         · exact kk _ _ (ntr _ _ hc') q
   · have z : b = it := by simpa using hb
     subst z
     rw [upd_ne (Nat.ne_of_lt lti)]
     exact (hf b hb).1
 done := by
   intro X hP hw hK hc i pins s σ H E I hf st hg
   subst hP hw hK
   obtain ⟨ok, ov, hit⟩ := st
   obtain ⟨hz, hx⟩ := hg
   have ho := odd_obj I hz
   have hl : kvs.length = es.size := by simpa using Paired.length hE
   exact raw_end (I.ok.hd hc) hit ho hd (by omega) fun h' eb => ⟨rfl, I.turnedN (t' := s.toks) (fp := [it]) (fun b ob hb z => eb b ob (by simpa using hb) z) hf⟩
 self := fun _ _ _ _ _ st h => by
   obtain ⟨ok, ov, hit⟩ := st
   exact pyIter_itemiter hit h
noncomputable def iItemsX (td : TE) : TI := fun σ H R => td σ H fun x H1 => (∃ d o kvs, x = .ref d ∧ H1 d = some (.frz o (.dK kvs)) ∧ R (Itm d o) H1) ∨
 ∃ d o kvs, x = .ref d ∧ (d == sysModules) = false ∧ H1 d = some (XO d o) ∧ OddObj o kvs ∧ R (ItmX d o kvs) H1
theorem pi_itemsX {X : Cx} {tes : List Expr} {x1 : Nat} {tpos apos cpos : Pos} {e : Expr} {td : TE} (he : PE X e td)
   (hbase : attributeBase e "items" X.env (eval e X.env) = eval e X.env := by rfl) (hline : (apos.endLine == cpos.line) = true := by rfl) : PI X (.Tuple tes x1 tpos) (.Call (.Attribute e "items" apos) [] [] cpos) (iItemsX td) := by
 intro pins s σ H R I h
 refine wpAny_Call_method0_late hbase hline (thn (he pins s σ H _ I h) fun v s1 ⟨x, H1, I1, r1, hq⟩ => ?_)
 rcases hq with ⟨d, o, kvs, ex, hz, q⟩ | ⟨d, o, kvs, ex, hsys, hz, hO, q⟩
 · subst ex
   obtain rfl : v = Value.ref d := r1
   obtain ⟨ho, hsys, hl, vs, es, ep, rel, hd, hsz, exd, hm⟩ := frz_at I1 hz
   refine ⟨"dict", "dict.items", PySem.F.plainAttrs_dict, PySem.F.slot_dict_items, PySem.F.type_dict_items, ⟨o, ho, exd.1⟩, fun b e => by cases e; exact ⟨o, ho, exd.2.1⟩, Calls.callWith_builtin rfl (PySem.evalArgs_none ?_)⟩
   refine raw_items hsys ho exd hd ?_
   have I2 : Inv X pins σ H1 { s1 with heap := s1.heap.push { cls := .type "dict_items", data := .fields #[.ref d] } } := I1.kept (t' := s1.toks) fun b ob z => Heap.get?_push_of_some _ z
   refine raw_iter (s := { s1 with heap := s1.heap.push { cls := .type "dict_items", data := .fields #[.ref d] } }) (v := s1.heap.objs.size) (d := d) ⟨_, Heap.get?_push_size _ rfl, rfl, rfl⟩ (Heap.get?_push_of_some _ ho) hd ?_
   refine ⟨_, [_], _, Itm d o, H1, rfl, I2.kept (t' := s1.toks) fun b ob z => Heap.get?_push_of_some _ z, turn_items d _ o hd, ⟨.none, .none, Heap.get?_push_size _ rfl⟩, fun b hb => ?_, q⟩
   have z : b = (s1.heap.push { cls := .type "dict_items", data := .fields #[.ref d] }).objs.size := by simpa using hb
   subst z
   exact I2.fpOk (Nat.le_refl _) (I2.hok.fresh (Nat.le_refl _))
 · subst ex
   obtain rfl : v = Value.ref d := r1
   obtain ⟨exd, es, ep, hd, hE⟩ := hO
   have ho := odd_obj I1 hz
   refine ⟨"dict", "dict.items", PySem.F.plainAttrs_dict, PySem.F.slot_dict_items, PySem.F.type_dict_items, ⟨o, ho, exd.1⟩, fun b e => by cases e; exact ⟨o, ho, exd.2.1⟩, Calls.callWith_builtin rfl (PySem.evalArgs_none ?_)⟩
   refine raw_items hsys ho exd hd ?_
   have I2 : Inv X pins σ H1 { s1 with heap := s1.heap.push { cls := .type "dict_items", data := .fields #[.ref d] } } := I1.kept (t' := s1.toks) fun b ob z => Heap.get?_push_of_some _ z
   refine raw_iter (s := { s1 with heap := s1.heap.push { cls := .type "dict_items", data := .fields #[.ref d] } }) (v := s1.heap.objs.size) (d := d) ⟨_, Heap.get?_push_size _ rfl, rfl, rfl⟩ (Heap.get?_push_of_some _ ho) hd ?_
   refine ⟨_, [_], _, ItmX d o kvs, H1, rfl, I2.kept (t' := s1.toks) fun b ob z => Heap.get?_push_of_some _ z, turn_odd d _ o hd hE, ⟨.none, .none, Heap.get?_push_size _ rfl⟩, fun b hb => ?_, q⟩
   have z : b = (s1.heap.push { cls := .type "dict_items", data := .fields #[.ref d] }).objs.size := by simpa using hb
   subst z
   exact I2.fpOk (Nat.le_refl _) (I2.hok.fresh (Nat.le_refl _))
noncomputable def OddOf (H : Hp) (a : Addr) (kvs : List (V × V)) : Prop := OddAt H a kvs ∨ ∃ ms : List (Key × V), H a = some (.dK ms) ∧ (∀ p ∈ ms, ∃ i, p.1 = Sum.inl i) ∧ kvs = ms.map fun p => (kV p.1, p.2)
theorem OddOf.raw {X : Cx} {pins : List (Addr × Obj)} {σ : St} {H : Hp} {s : Shared} {a : Addr} {kvs : List (V × V)} (I : Inv X pins σ H s) (h : OddOf H a kvs) : Mut (H a) ∧ (a == sysModules) = false ∧ ∃ o, s.heap.get? a = some o ∧ OddObj o kvs := by
 rcases h with ⟨hs, o, e, hO⟩ | ⟨ms, e, hi, rfl⟩
 · exact ⟨by rw [e]; exact True.intro, hs, o, odd_obj I e, hO⟩
 · obtain ⟨hs, _, o, ho, hO⟩ := dk_odd I e hi
   exact ⟨by rw [e]; exact True.intro, hs, o, ho, hO⟩
noncomputable def sDPutX (td ty tv : TE) : TS := fun D σ H => tv σ H fun v H1 => td σ H1 fun x H2 => ty σ H2 fun y H3 => ∃ a, x = .ref a ∧ ((∃ H4, DPut H3 a y v H4 ∧ D.nx σ H4) ∨
 ∃ kvs, OddOf H3 a kvs ∧ IsKey H3 y ∧ (∀ p ∈ kvs, hsh p.1 ≠ hsh y) ∧ kvs.length < sizeLine ∧ ∀ o', OddAt (upd H3 a (XO a o')) a (kvs ++ [(y, v)]) → D.nx σ (upd H3 a (XO a o')))
noncomputable def rNotInX : R2 := fun x y H Q => ∃ a, y = .ref a ∧ ((∃ kvs k, H a = some (.dK kvs) ∧ x = kV k ∧ Q (.bl (!(valV kvs k).isSome)) H) ∨
 (∃ kvs, OddOf H a kvs ∧ IsKey H x ∧ (∀ p ∈ kvs, hsh p.1 ≠ hsh x) ∧ Q (.bl true) H) ∨
 ∃ (kvs : List (V × V)) (j : Nat) (z : V), OddOf H a kvs ∧ IsKey H x ∧ (∀ i, x ≠ .int i) ∧ kvs[j]? = some (x, z) ∧ (∀ (i : Nat) (p : V × V), kvs[i]? = some p → hsh p.1 = hsh x → i = j) ∧ Q (.bl false) H)
section
variable {X : Cx} {o i e value : Expr} {pos pos' tpos : Pos} {td ty tv : TE}
theorem ps_dputX (hu : X.A.units + 1 < cLine) (ho : PE X o td) (hi : PE X i ty) (hv : PE X value tv) (hs : swapsWith value (some (.Subscript o i pos')) pos.line X.env = pure false) :
   PS X (.Assign [.Subscript o i pos'] value pos) (sDPutX td ty tv) := by
 intro pins s σ H D I h
 refine wpAny_Assign_Subscript (thn (hv pins s σ H _ I h) fun r s1 ⟨v, H1, I1, rv, q1⟩ => thn (ho pins s1 σ H1 _ I1 q1) fun u s2 ⟨x, H2, I2, rx, q2⟩ => thn (hi pins s2 σ H2 _ I2 q2) fun iv s3 ⟨y, H3, I3, ry, a, ex, g⟩ => ?_) hs
 subst ex
 obtain rfl : u = Value.ref a := rx
 rcases g with ⟨H4, g, q3⟩ | ⟨kvs, hO, hk, hne, hl, q3⟩
 · exact d_setItem hu I3 g ry rv fun s4 I4 => ⟨σ, H4, I4, q3⟩
 · obtain ⟨mu, hsys, ob, hob, hOb⟩ := hO.raw I3
   exact odd_set hu I3 mu hob hOb hk ry rv hne hl fun o' s4 hO' I4 => ⟨σ, _, I4, q3 o' ⟨hsys, o', upd_same, hO'⟩⟩
theorem op_notInX (hu : X.A.units + 1 < cLine) : OpR X (compareOp .NotIn) rNotInX := by
 intro pins s σ H x y v u Q I rx ry h
 obtain ⟨a, rfl, h⟩ := h
 obtain rfl : u = Value.ref a := ry
 rcases h with ⟨kvs, k, ha, rfl, q⟩ | ⟨kvs, hO, hk, hne, q⟩ | ⟨kvs, j, z, hO, hk, hni, hj, hone, q⟩
 · exact d_notIn hu I (.k ha) rx fun s3 I3 => ⟨.bl (!(valV kvs k).isSome), H, I3, rfl, q⟩
 · obtain ⟨mu, hsys, ob, hob, hOb⟩ := hO.raw I
   exact odd_notIn hu I hsys hob hOb hk rx hne fun tk => ⟨.bl true, H, I.tok tk, rfl, q⟩
 · obtain ⟨mu, hsys, ob, hob, hOb⟩ := hO.raw I
   exact odd_there hu I hsys hob hOb hk hni rx hj hone fun tk => ⟨.bl false, H, I.tok tk, rfl, q⟩
theorem call_lenX : CallR X (.builtin "len") (fun xs H Q => ∃ a, xs = [V.ref a] ∧ ((∃ kvs, Rd H a (.dK kvs) ∧ Q (.int kvs.length) H) ∨ ∃ kvs, OddOf H a kvs ∧ kvs.length ≤ sizeLine ∧ Q (.int kvs.length) H)) := by
 intro pins s σ H xs us Q I r h
 obtain ⟨a, rfl, h⟩ := h
 obtain ⟨u, rfl, ru⟩ := vals1 r
 cases ru
 rcases h with ⟨kvs, ha, q⟩ | ⟨kvs, hO, hl, q⟩
 · exact d_len I ha fun t s' I' => ⟨.int kvs.length, H, I', ⟨t, rfl⟩, q⟩
 · obtain ⟨mu, hsys, ob, hob, hOb⟩ := hO.raw I
   exact odd_len I hsys hob hOb hl fun t tk => ⟨.int kvs.length, H, I.tok tk, ⟨t, rfl⟩, q⟩
theorem call_isiO {K : PySem.W.Frag} (hK : X.K = K := by rfl) : CallR X (.builtin "isinstance") (fun xs H Q => ∃ x n, xs = [x, .ty n] ∧ (n = "int" ∨ n = "bool" ∨ n = "str" ∨ n = "tuple" ∨ n = "list" ∨ n = "dict") ∧
   ((∃ d, RepA K H x d ∧ Q (.bl (isA n d)) H) ∨ (∃ a kvs, x = .ref a ∧ OddAt H a kvs ∧ Q (.bl (n == "dict")) H) ∨ ∃ a us, x = .ref a ∧ H a = some (.lst us) ∧ Q (.bl (n == "list")) H)) := by
 intro pins s σ H xs us Q I r h
 obtain ⟨x, n, e, hn, h⟩ := h
 rcases h with ⟨d, hx, q⟩ | ⟨a, kvs, rfl, ⟨hs, ob, ha, hO⟩, q⟩ | ⟨a, vs, rfl, ha, q⟩
 · exact call_isiA hK pins s σ H xs us Q I r ⟨x, n, d, e, hn, hx, q⟩
 · subst e
   obtain ⟨u, v, rfl, rx, rt⟩ := vals2 r
   cases rt
   cases rx
   have ho := odd_obj I ha
   have ex := hO.1
   rcases hn with rfl | rfl | rfl | rfl | rfl | rfl
   · exact PySem.IsiPair.dict_int ho ex.1 ⟨.bl false, H, I.tok _, rfl, q⟩
   · exact PySem.IsiPair.dict_bool ho ex.1 ⟨.bl false, H, I.tok _, rfl, q⟩
   · exact PySem.IsiPair.dict_str ho ex.1 ⟨.bl false, H, I.tok _, rfl, q⟩
   · exact PySem.IsiPair.dict_tuple ho ex.1 ⟨.bl false, H, I.tok _, rfl, q⟩
   · exact PySem.IsiPair.dict_list ho ex.1 ⟨.bl false, H, I.tok _, rfl, q⟩
   · exact PySem.IsiPair.dict_dict ho ex.1 ⟨.bl true, H, I, rfl, q⟩
 · subst e
   obtain ⟨u, v, rfl, rx, rt⟩ := vals2 r
   cases rt
   cases rx
   obtain ⟨_, its, m, _, ho⟩ := (show ObjOk X.prog X.w H s.heap a (.lst vs) from I.hok a _ ha)
   rcases hn with rfl | rfl | rfl | rfl | rfl | rfl
   · exact PySem.IsiPair.list_int ho rfl ⟨.bl false, H, I.tok _, rfl, q⟩
   · exact PySem.IsiPair.list_bool ho rfl ⟨.bl false, H, I.tok _, rfl, q⟩
   · exact PySem.IsiPair.list_str ho rfl ⟨.bl false, H, I.tok _, rfl, q⟩
   · exact PySem.IsiPair.list_tuple ho rfl ⟨.bl false, H, I.tok _, rfl, q⟩
   · exact PySem.IsiPair.list_list ho rfl ⟨.bl true, H, I, rfl, q⟩
   · exact PySem.IsiPair.list_dict ho rfl ⟨.bl false, H, I.tok _, rfl, q⟩
theorem comp_itemsX {g : TG} {tc : TT} {te : TE} {D : Addr} {Q : Hp → Prop} {τ : St} {H : Hp} {d : Addr} {o : Obj} {kvs : List (V × V)} (Pv : Nat → List V → St → Hp → Prop) (h0 : Pv 0 [] τ H) (hl : ∀ i zs τ H, i ≤ kvs.length → Pv i zs τ H → H d = some (XO d o))
   (hs : ∀ i k v zs τ H p, kvs[i]? = some (k, v) → Pv i zs τ H → H p = none → g (.ref p) τ (upd H p (.tup [k, v])) fun τ2 H2 => tc τ2 H2 fun b H3 => if b = true then te τ2 H3 fun y H4 => H4 D = some (.lst zs) ∧ zs.length < sizeLine ∧ Pv (i + 1) (zs ++ [y]) τ2 (upd H4 D (.lst (zs ++ [y]))) else Pv (i + 1) zs τ2 H3)
   (hd : ∀ zs τ H, Pv kvs.length zs τ H → Q H) : RunC (ItmX d o kvs) g tc te D Q τ H := by
 refine ⟨fun i m zs τ H => m = kvs.length - i ∧ i ≤ kvs.length ∧ Pv i zs τ H, ⟨kvs.length, by simp, Nat.zero_le _, h0⟩, ?_⟩
 rintro i m zs τ H ⟨rfl, hi, pp⟩
 have q := hl i zs τ H hi pp
 by_cases hlt : i < kvs.length
 · refine .inr ⟨⟨q, hlt⟩, Pv (i + 1), fun ys' τ' H' p' => ⟨kvs.length - (i + 1), by omega, rfl, hlt, p'⟩, fun x H' y => ?_⟩
   obtain ⟨p, k, v, hp, rfl, rfl, y⟩ := y
   exact hs i k v zs τ _ p y pp hp
 · have e : i = kvs.length := by omega
   subst e
   exact .inl ⟨⟨q, Nat.le_refl _⟩, hd zs τ H pp⟩
end
end L2
namespace L2
open PySem PySem.Spec PyProof.Rows
noncomputable def VwO (p d : Addr) : HO := .ext fun h => h.get? p = some { cls := .type "dict_items", data := .fields #[.ref d] }
noncomputable def tItems (td : TE) : TE := fun σ H Q => td σ H fun x H1 => ∃ a kvs, x = .ref a ∧ H1 a = some (.dK kvs) ∧ ∀ p, H1 p = none → Q (.ref p) (upd H1 p (VwO p a))
theorem pe_itemsV {X : Cx} {apos cpos : Pos} {e : Expr} {td : TE} (he : PE X e td)
   (hbase : attributeBase e "items" X.env (eval e X.env) = eval e X.env := by rfl) (hline : (apos.endLine == cpos.line) = true := by rfl) : PE X (.Call (.Attribute e "items" apos) [] [] cpos) (tItems td) := by
 intro pins s σ H Q I h
 refine wpAny_Call_method0_late hbase hline (thn (he pins s σ H _ I h) fun v s1 ⟨x, H1, I1, r1, a, kvs, ex, hz, q⟩ => ?_)
 subst ex
 obtain rfl : v = Value.ref a := r1
 obtain ⟨z, hs, vs, rel, o, es, ep, ho, hx, hd, _⟩ := dk_of I1.hok hz
 refine ⟨"dict", "dict.items", PySem.F.plainAttrs_dict, PySem.F.slot_dict_items, PySem.F.type_dict_items, ⟨o, ho, hx.1⟩, fun b e => by cases e; exact ⟨o, ho, hx.2.1⟩, Calls.callWith_builtin rfl (PySem.evalArgs_none ?_)⟩
 refine raw_items hs ho hx hd ⟨.ref s1.heap.objs.size, _, ?_, rfl, q _ (I1.hok.fresh (Nat.le_refl _))⟩
 have hg : (s1.heap.push { cls := .type "dict_items", data := .fields #[.ref a] }).get? s1.heap.objs.size = some { cls := .type "dict_items", data := .fields #[.ref a] } := Heap.get?_push_size _ rfl
 exact I1.laid (a := s1.heap.objs.size) (t' := s1.toks) (fun _ _ q => Heap.get?_push_of_some _ q) (Nat.le_refl _) ⟨hg, ⟨_, hg⟩, fun h1 h2 q k => k _ q⟩
theorem call_listV {X : Cx} (hc : X.calm = true) : CallR X (.type "list") (fun xs H Q => ∃ p d kvs, xs = [.ref p] ∧ H p = some (VwO p d) ∧ H d = some (.dK kvs) ∧ ∀ q us, H q = none → us.length = kvs.length → Q (.ref q) (upd H q (.lst us))) := by
 intro pins s σ H xs us Q I r h
 obtain ⟨p, d, kvs, rfl, hp, hd, q⟩ := h
 obtain ⟨u, rfl, ru⟩ := vals1 r
 cases ru
 have hh : X.A.handled = none := I.ok.hd hc
 obtain ⟨z, hs, vs, rel, o, es, ep, ho, c⟩ := dk_of I.hok hd
 have hm : s.heap.DictAt (mixKind X.prog X.w) d vs ep := ⟨o, es, ho, c⟩
 have hv : s.heap.get? p = some { cls := .type "dict_items", data := .fields #[.ref d] } := (show ObjOk X.prog X.w H s.heap p (VwO p d) from I.hok p _ hp).1
 have hl := rel.length
 refine PySem.W.kdx_call (knd := mixKind X.prog X.w) hh ⟨_, hv, rfl, rfl⟩ hm (by omega) fun h' tk acc c as hk hS hlen hG hacc => ?_
 refine ⟨.ref s.heap.objs.size, _, I.laid (a := s.heap.objs.size) (o := .lst (as.map V.ref)) (t' := tk) hk (Nat.le_refl _) ⟨by rw [List.length_map]; omega, as.map Value.ref, c, ?_, ?_⟩, rfl, q _ _ (I.hok.fresh (Nat.le_refl _)) (by rw [List.length_map]; omega)⟩
 · clear hlen hG hacc
   induction as with
   | nil => exact .nil
   | cons x xs ih => exact .cons rfl ih
 · rw [← hacc]
   simpa using hS
noncomputable def KAlt (H : Hp) (y : V) (d : D) : Prop := (∃ i, y = .int i ∧ d = .int i) ∨ (∃ b, y = .bl b ∧ d = .bl b) ∨ (y = .non ∧ d = .non) ∨ (∃ z, y = .str z ∧ d = .str z) ∨ ∃ t, y = .ref t ∧ H t = some (.tup [.int 0]) ∧ d = .tup [.int 0]
noncomputable def rNeK : R2 := fun x y H Q => ∃ (p : Int) (d : D), x = .int p ∧ KAlt H y d ∧ Q (.bl (!eqD (.int p) d)) H
open PySem.SeqAt in
theorem op_neK {X : Cx} (hu : X.A.units + 8 < cLine) : OpR X (compareOp .NotEq) rNeK := by
 intro pins s σ H x y v u Q I rx ry h
 obtain ⟨p, d, rfl, hy, q⟩ := h
 obtain ⟨t, rfl⟩ := rx
 have go : ∀ {k : Bool}, RcNeAt X.A s (.int p t) u k → k = (!eqD (.int p) d) → wpAny (model X.prog X.w) X.A (compareOp .NotEq (.int p t) u) (EP X pins σ Q) X.xe s := fun h1 h2 => by
   subst h2
   exact h1 X.prog X.w X.xe _ ⟨.bl (!eqD (.int p) d), H, I, rfl, q⟩
 rcases hy with ⟨i, rfl, rfl⟩ | ⟨b, rfl, rfl⟩ | ⟨rfl, rfl⟩ | ⟨z, rfl, rfl⟩ | ⟨a, rfl, ha, rfl⟩
 · obtain ⟨t2, rfl⟩ := ry
   exact go (.int_int p t i t2) rfl
 · cases ry
   exact go (.int_bool p t b) rfl
 · cases ry
   exact go (.int_none p t) rfl
 · obtain ⟨t2, rfl⟩ := ry
   exact go (.int_str p t z t2) rfl
 · cases ry
   obtain ⟨_, its, _, o, h1, h2, _, n, h3⟩ := (show ObjOk X.prog X.w H s.heap a (.tup [.int 0]) from I.hok a _ ha)
   exact go (.int_tuple p t ⟨o, h1, h2, n, h3⟩ (Nat.lt_of_le_of_lt (Nat.le_add_right _ _) hu)) rfl
end L2
namespace Hb
noncomputable def sumN (f : Nat → Int) : Nat → Int
 | 0 => 0
 | n + 1 => sumN f n + f n
theorem sumN_congr {f g : Nat → Int} : ∀ {n : Nat}, (∀ k, k < n → f k = g k) → sumN f n = sumN g n
 | 0, _ => rfl
 | n + 1, h => by
   show sumN f n + f n = sumN g n + g n
   rw [sumN_congr fun k hk => h k (by omega), h n (by omega)]
theorem sumN_mulL (c : Int) (f : Nat → Int) : ∀ n : Nat, sumN (fun k => c * f k) n = c * sumN f n
 | 0 => by show (0 : Int) = c * 0; rw [Int.mul_zero]
 | n + 1 => by
   show sumN _ n + c * f n = c * (sumN f n + f n)
   rw [sumN_mulL c f n, Int.mul_add]
noncomputable def lsI (n : Nat) (f : Nat → Int) : List Int := (List.range n).map f
theorem bd_mono {i : Int} {m n : Nat} (hi : i.natAbs < 2 ^ m) (h : m ≤ n) : i.natAbs < 2 ^ n := Nat.lt_of_lt_of_le hi (Nat.pow_le_pow_right (by decide) h)
end Hb
namespace Hb
open PySem L2
noncomputable abbrev Ms := List (Int × Int)
noncomputable def nd (ms : Ms) : Prop := (ms.map (·.1)).Nodup
noncomputable def nz (ms : Ms) : Prop := ∀ p ∈ ms, p.2 ≠ 0
noncomputable def addI (ms : Ms) (k n : Int) : Ms := if getI ms k + n = 0 then dropI ms k else putI ms k (getI ms k + n)
noncomputable def cutI (ms : Ms) : Ms := ms.filter fun p => decide (p.2 ≠ 0)
theorem lookI_mem {ms : Ms} {k v : Int} (h : lookI ms k = some v) : (k, v) ∈ ms := by
 induction ms with
 | nil => simp [lookI] at h
 | cons p ms ih =>
   rw [lookI_cons] at h
   by_cases e : p.1 = k
   · rw [if_pos e] at h
     have : p = (k, v) := by cases p; simp_all
     rw [this]; exact List.mem_cons_self ..
   · rw [if_neg e] at h
     exact List.mem_cons_of_mem _ (ih h)
theorem lookI_out {ms : Ms} {k : Int} (h : k ∉ ms.map (·.1)) : lookI ms k = none := by
 cases e : lookI ms k with
 | none => rfl
 | some v => exact absurd (List.mem_map_of_mem (f := (·.1)) (lookI_mem e)) h
theorem lookI_in {ms : Ms} (h : nd ms) {p : Int × Int} (hp : p ∈ ms) : lookI ms p.1 = some p.2 := by
 induction ms with
 | nil => cases hp
 | cons q ms ih =>
   rw [lookI_cons]
   unfold nd at h
   rw [List.map_cons, List.nodup_cons] at h
   rcases List.mem_cons.mp hp with rfl | hp
   · rw [if_pos rfl]
   · have : ¬ q.1 = p.1 := fun z => h.1 (by rw [z]; exact List.mem_map_of_mem (f := (·.1)) hp)
     rw [if_neg this]
     exact ih h.2 hp
theorem getI_out {ms : Ms} {k : Int} (h : k ∉ ms.map (·.1)) : getI ms k = 0 := by unfold getI; rw [lookI_out h]; rfl
theorem getI_cons (p : Int × Int) (ms : Ms) (k : Int) : getI (p :: ms) k = if p.1 = k then p.2 else getI ms k := by
 unfold getI; rw [lookI_cons]; split <;> rfl
theorem lookI_nz {ms : Ms} (h : nz ms) (k : Int) : lookI ms k = if getI ms k = 0 then none else some (getI ms k) := by
 unfold getI
 cases e : lookI ms k with
 | none => rfl
 | some v =>
   have := h _ (lookI_mem e)
   show some v = if v = 0 then none else some v
   rw [if_neg this]
theorem len_le : ∀ (l1 l2 : List Int), l1.Nodup → (∀ x ∈ l1, x ∈ l2) → l1.length ≤ l2.length
 | [], l2, _, _ => Nat.zero_le _
 | x :: l1, l2, h, hs => by
   rw [List.nodup_cons] at h
   have hx := hs x (List.mem_cons_self ..)
   have := len_le l1 (l2.erase x) h.2 fun y hy => by
     have ne : y ≠ x := fun z => h.1 (z ▸ hy)
     exact (List.mem_erase_of_ne ne).mpr (hs y (List.mem_cons_of_mem _ hy))
   have e := List.length_erase_of_mem hx
   have : 0 < l2.length := List.length_pos_of_mem hx
   rw [List.length_cons]
   omega
theorem sameC_of {ms ns : Ms} (h1 : nd ms) (h2 : nd ns) (h : ∀ k, lookI ms k = lookI ns k) : sameC ms ns = true := by
 have sub : ∀ {as bs : Ms}, nd as → (∀ k, lookI as k = lookI bs k) → ∀ x ∈ as.map (·.1), x ∈ bs.map (·.1) := fun {as bs} ha hh x hx => by
   obtain ⟨p, hp, rfl⟩ := List.mem_map.mp hx
   have e := lookI_in ha hp
   rw [hh] at e
   exact List.mem_map_of_mem (f := (·.1)) (lookI_mem e)
 have l1 := len_le _ _ h1 (sub h1 h)
 have l2 := len_le _ _ h2 (sub h2 fun k => (h k).symm)
 rw [List.length_map, List.length_map] at l1 l2
 unfold sameC
 rw [Bool.and_eq_true]
 refine ⟨by simp; omega, List.all_eq_true.mpr fun p hp => decide_eq_true ?_⟩
 rw [← h]
 exact lookI_in h1 hp
theorem sameC_get {ms ns : Ms} (h1 : nd ms) (h2 : nd ns) (z1 : nz ms) (z2 : nz ns) (h : ∀ k, getI ms k = getI ns k) : sameC ms ns = true :=
 sameC_of h1 h2 fun k => by rw [lookI_nz z1, lookI_nz z2, h]
theorem sameC_refl {ms : Ms} (h : nd ms) : sameC ms ms = true := sameC_of h h fun _ => rfl
theorem nd_drop {ms : Ms} (h : nd ms) (k : Int) : nd (dropI ms k) := by
 unfold nd dropI at *
 exact List.Nodup.sublist (List.Sublist.map _ List.filter_sublist) h
theorem any_key {ms : Ms} {k : Int} : (ms.any fun p => decide (p.1 = k)) = true ↔ k ∈ ms.map (·.1) := by
 rw [List.any_eq_true, List.mem_map]
 constructor
 · rintro ⟨p, hp, e⟩; exact ⟨p, hp, by simpa using e⟩
 · rintro ⟨p, hp, e⟩; exact ⟨p, hp, by simpa using e⟩
theorem nd_put {ms : Ms} (h : nd ms) (k v : Int) : nd (putI ms k v) := by
 unfold nd putI at *
 split
 · rw [List.map_map]
   have e : ((fun p : Int × Int => p.1) ∘ fun p : Int × Int => if p.1 = k then (p.1, v) else p) = (·.1) := by
     funext p
     simp only [Function.comp]
     split <;> rfl
   rw [e]; exact h
 · rename_i hn
   rw [any_key] at hn
   rw [List.map_append, List.nodup_append]
   refine ⟨h, by simp, fun a ha b hb e => ?_⟩
   have : b = k := by simpa using hb
   exact hn (by rw [← this, ← e]; exact ha)
theorem mem_put {ms : Ms} {k v : Int} {p : Int × Int} (hp : p ∈ putI ms k v) : p ∈ ms ∨ p = (k, v) := by
 unfold putI at hp
 split at hp
 · obtain ⟨q, hq, e⟩ := List.mem_map.mp hp
   by_cases z : q.1 = k
   · rw [if_pos z] at e; right; rw [← e, z]
   · rw [if_neg z] at e; left; rw [← e]; exact hq
 · rcases List.mem_append.mp hp with h | h
   · exact .inl h
   · exact .inr (by simpa using h)
theorem len_put (ms : Ms) (k v : Int) : (putI ms k v).length ≤ ms.length + 1 := by
 unfold putI
 split
 · rw [List.length_map]; omega
 · rw [List.length_append]; simp
theorem nz_put {ms : Ms} (h : nz ms) {k v : Int} (hv : v ≠ 0) : nz (putI ms k v) := fun p hp => by
 rcases mem_put hp with q | q
 · exact h p q
 · rw [q]; exact hv
theorem nd_add {ms : Ms} (h : nd ms) (k n : Int) : nd (addI ms k n) := by unfold addI; split; exact nd_drop h k; exact nd_put h k _
theorem nd_no {ms : Ms} (h : nd ms) : nd (cutI ms) := by
 unfold nd cutI at *
 exact List.Nodup.sublist (List.Sublist.map _ List.filter_sublist) h
theorem nz_no (ms : Ms) : nz (cutI ms) := fun p hp => by have := (List.mem_filter.mp hp).2; simpa using this
theorem get_no {ms : Ms} (h : nd ms) (k : Int) : getI (cutI ms) k = getI ms k := by
 induction ms with
 | nil => rfl
 | cons p ms ih =>
   unfold nd at h
   rw [List.map_cons, List.nodup_cons] at h
   unfold cutI
   rw [List.filter_cons, getI_cons]
   by_cases e : p.2 = 0
   · rw [if_neg (by simpa using e)]
     show getI (cutI ms) k = _
     rw [ih h.2]
     by_cases q : p.1 = k
     · rw [if_pos q, e, ← q, getI_out h.1]
     · rw [if_neg q]
   · rw [if_pos (by simpa using e), getI_cons]
     show (if p.1 = k then p.2 else getI (cutI ms) k) = _
     rw [ih h.2]
noncomputable def rangeI (f : Int → Int) (n : Nat) : Ms := (List.range n).map fun (i : Nat) => ((i : Int), f (i : Int))
end Hb
namespace Hb
open PySem L2
theorem take_new {ms : Ms} (h : nd ms) {i : Nat} {q : Int × Int} (hq : ms[i]? = some q) : q.1 ∉ (ms.take i).map (·.1) := by
 intro hm
 obtain ⟨p, hp, e⟩ := List.mem_map.mp hm
 obtain ⟨j, hj, ej⟩ := List.mem_take_iff_getElem.mp hp
 have hij : j < i := by omega
 have hi : i < ms.length := (List.getElem?_eq_some_iff.mp hq).1
 unfold nd List.Nodup at h
 rw [List.pairwise_map, List.pairwise_iff_getElem] at h
 have := h j i (by omega) hi hij
 rw [List.getElem?_eq_getElem hi] at hq
 have hq' := Option.some.inj hq
 exact this (by rw [ej, hq', e])
theorem cutI_take {ms : Ms} {i : Nat} {q : Int × Int} (hq : ms[i]? = some q) : cutI (ms.take (i + 1)) = if q.2 = 0 then cutI (ms.take i) else cutI (ms.take i) ++ [q] := by
 unfold cutI
 rw [List.take_add_one, hq, List.filter_append]
 by_cases e : q.2 = 0 <;> simp [e]
theorem cut_sub {ms : Ms} {k : Int} (h : k ∉ ms.map (·.1)) : k ∉ (cutI ms).map (·.1) := fun hm => by
 obtain ⟨p, hp, e⟩ := List.mem_map.mp hm
 exact h (List.mem_map.mpr ⟨p, (List.mem_filter.mp hp).1, e⟩)
theorem len_cut (ms : Ms) : (cutI ms).length ≤ ms.length := List.length_filter_le ..
theorem range_succ (f : Int → Int) (n : Nat) : rangeI f (n + 1) = rangeI f n ++ [((n : Int), f n)] := by
 unfold rangeI
 rw [List.range_succ, List.map_append]
 rfl
end Hb
namespace Hb
noncomputable def facesBy (w : List Int) (fam : Int) : List (List Int) :=
 if fam = 0 then (if w.length < 2 then [] else (List.range w.length).map fun i => w.take i ++ w.drop (i + 1))
 else if w.length = 0 then []
 else if fam < 0 then (if w.length = 1 then [[], []] else w.map fun l => [l])
 else w.drop 1 :: ((List.range (w.length - 1)).map fun i => w.take i ++ [(w.getD i 0 + w.getD (i + 1) 0) % fam] ++ w.drop (i + 2)) ++ [w.take (w.length - 1)]
noncomputable def Word (fam : Int) (w : List Int) : Prop :=
 (fam = 0 ∧ 1 ≤ w.length ∧ w.length ≤ 4) ∨ (fam < 0 ∧ (w.length = 0 ∨ w.length = 1 ∨ w.length = 3)) ∨ (0 < fam ∧ w.length ≤ 3)
noncomputable def lv (fam : Int) (w : List Int) : Nat := if fam = 0 then w.length - 1 else if fam < 0 then (if w.length = 3 then 2 else w.length) else w.length
theorem word_cases {fam : Int} {w : List Int} (h : Word fam w) :
   (fam = 0 ∧ ((∃ a, w = [a]) ∨ (∃ a b, w = [a, b]) ∨ (∃ a b c, w = [a, b, c]) ∨ ∃ a b c d, w = [a, b, c, d])) ∨
   (fam < 0 ∧ (w = [] ∨ (∃ a, w = [a]) ∨ ∃ a b c, w = [a, b, c])) ∨
   (0 < fam ∧ (w = [] ∨ (∃ a, w = [a]) ∨ (∃ a b, w = [a, b]) ∨ ∃ a b c, w = [a, b, c])) := by
 rcases h with ⟨h0, h1, h2⟩ | ⟨h0, h1⟩ | ⟨h0, h1⟩
 · left
   refine ⟨h0, ?_⟩
   match w, h1, h2 with
   | [a], _, _ => exact .inl ⟨a, rfl⟩
   | [a, b], _, _ => exact .inr (.inl ⟨a, b, rfl⟩)
   | [a, b, c], _, _ => exact .inr (.inr (.inl ⟨a, b, c, rfl⟩))
   | [a, b, c, d], _, _ => exact .inr (.inr (.inr ⟨a, b, c, d, rfl⟩))
   | _ :: _ :: _ :: _ :: _ :: _, _, h => simp at h
 · right; left
   refine ⟨h0, ?_⟩
   match w, h1 with
   | [], _ => exact .inl rfl
   | [a], _ => exact .inr (.inl ⟨a, rfl⟩)
   | [a, b], h => simp at h
   | [a, b, c], _ => exact .inr (.inr ⟨a, b, c, rfl⟩)
   | _ :: _ :: _ :: _ :: _, h => simp at h
 · right; right
   refine ⟨h0, ?_⟩
   match w, h1 with
   | [], _ => exact .inl rfl
   | [a], _ => exact .inr (.inl ⟨a, rfl⟩)
   | [a, b], _ => exact .inr (.inr (.inl ⟨a, b, rfl⟩))
   | [a, b, c], _ => exact .inr (.inr (.inr ⟨a, b, c, rfl⟩))
   | _ :: _ :: _ :: _ :: _, h => simp at h
theorem f0_1 (a : Int) : facesBy [a] 0 = [] := rfl
theorem f0_2 (a b : Int) : facesBy [a, b] 0 = [[b], [a]] := rfl
theorem f0_3 (a b c : Int) : facesBy [a, b, c] 0 = [[b, c], [a, c], [a, b]] := rfl
theorem f0_4 (a b c d : Int) : facesBy [a, b, c, d] 0 = [[b, c, d], [a, c, d], [a, b, d], [a, b, c]] := rfl
section
variable {fam : Int}
theorem fn_0 (h : fam < 0) : facesBy [] fam = [] := by unfold facesBy; rw [if_neg (by omega), if_pos (by simp)]
theorem fn_1 (h : fam < 0) (a : Int) : facesBy [a] fam = [[], []] := by unfold facesBy; rw [if_neg (by omega), if_neg (by simp), if_pos h, if_pos (by simp)]
theorem fn_3 (h : fam < 0) (a b c : Int) : facesBy [a, b, c] fam = [[a], [b], [c]] := by unfold facesBy; rw [if_neg (by omega), if_neg (by simp), if_pos h, if_neg (by simp)]; rfl
theorem fp_0 (h : 0 < fam) : facesBy [] fam = [] := by unfold facesBy; rw [if_neg (by omega), if_pos (by simp)]
theorem fp_1 (h : 0 < fam) (a : Int) : facesBy [a] fam = [[], []] := by unfold facesBy; rw [if_neg (by omega), if_neg (by simp), if_neg (by omega)]; rfl
theorem fp_2 (h : 0 < fam) (a b : Int) : facesBy [a, b] fam = [[b], [(a + b) % fam], [a]] := by unfold facesBy; rw [if_neg (by omega), if_neg (by simp), if_neg (by omega)]; rfl
theorem fp_3 (h : 0 < fam) (a b c : Int) : facesBy [a, b, c] fam = [[b, c], [(a + b) % fam, c], [a, (b + c) % fam], [a, b]] := by unfold facesBy; rw [if_neg (by omega), if_neg (by simp), if_neg (by omega)]; rfl
theorem faces_word {w f : List Int} (h : Word fam w) (hf : f ∈ facesBy w fam) : Word fam f ∧ lv fam f + 1 = lv fam w := by
 rcases word_cases h with ⟨h0, ⟨a, rfl⟩ | ⟨a, b, rfl⟩ | ⟨a, b, c, rfl⟩ | ⟨a, b, c, d, rfl⟩⟩ | ⟨h0, rfl | ⟨a, rfl⟩ | ⟨a, b, c, rfl⟩⟩ | ⟨h0, rfl | ⟨a, rfl⟩ | ⟨a, b, rfl⟩ | ⟨a, b, c, rfl⟩⟩
 · subst h0; rw [f0_1] at hf; exact nomatch hf
 · subst h0; rw [f0_2] at hf
   simp only [List.mem_cons, List.not_mem_nil, or_false] at hf
   rcases hf with rfl | rfl <;> simp [Word, lv]
 · subst h0; rw [f0_3] at hf
   simp only [List.mem_cons, List.not_mem_nil, or_false] at hf
   rcases hf with rfl | rfl | rfl <;> simp [Word, lv]
 · subst h0; rw [f0_4] at hf
   simp only [List.mem_cons, List.not_mem_nil, or_false] at hf
   rcases hf with rfl | rfl | rfl | rfl <;> simp [Word, lv]
 · rw [fn_0 h0] at hf; exact nomatch hf
 · rw [fn_1 h0] at hf
   simp only [List.mem_cons, List.not_mem_nil, or_false, or_self] at hf
   subst hf
   have e : ¬ fam = 0 := by omega
   simp [Word, lv, h0, e]
 · rw [fn_3 h0] at hf
   have e : ¬ fam = 0 := by omega
   simp only [List.mem_cons, List.not_mem_nil, or_false] at hf
   rcases hf with rfl | rfl | rfl <;> simp [Word, lv, h0, e]
 · rw [fp_0 h0] at hf; exact nomatch hf
 · rw [fp_1 h0] at hf
   have e : ¬ fam = 0 := by omega
   have e' : ¬ fam < 0 := by omega
   simp only [List.mem_cons, List.not_mem_nil, or_false, or_self] at hf
   subst hf
   simp [Word, lv, h0, e, e']
 · rw [fp_2 h0] at hf
   have e : ¬ fam = 0 := by omega
   have e' : ¬ fam < 0 := by omega
   simp only [List.mem_cons, List.not_mem_nil, or_false] at hf
   rcases hf with rfl | rfl | rfl <;> simp [Word, lv, h0, e, e']
 · rw [fp_3 h0] at hf
   have e : ¬ fam = 0 := by omega
   have e' : ¬ fam < 0 := by omega
   simp only [List.mem_cons, List.not_mem_nil, or_false] at hf
   rcases hf with rfl | rfl | rfl | rfl <;> simp [Word, lv, h0, e, e']
theorem faces_len {w : List Int} (h : Word fam w) : (facesBy w fam).length = (if lv fam w = 0 then 0 else lv fam w + 1) ∧ lv fam w ≤ 3 := by
 rcases word_cases h with ⟨h0, ⟨a, rfl⟩ | ⟨a, b, rfl⟩ | ⟨a, b, c, rfl⟩ | ⟨a, b, c, d, rfl⟩⟩ | ⟨h0, rfl | ⟨a, rfl⟩ | ⟨a, b, c, rfl⟩⟩ | ⟨h0, rfl | ⟨a, rfl⟩ | ⟨a, b, rfl⟩ | ⟨a, b, c, rfl⟩⟩
 · subst h0; simp [f0_1, lv]
 · subst h0; simp [f0_2, lv]
 · subst h0; simp [f0_3, lv]
 · subst h0; simp [f0_4, lv]
 all_goals have e : ¬ fam = 0 := by omega
 · simp [fn_0 h0, lv, e, h0]
 · simp [fn_1 h0, lv, e, h0]
 · simp [fn_3 h0, lv, e, h0]
 all_goals have e' : ¬ fam < 0 := by omega
 · simp [fp_0 h0, lv, e, e']
 · simp [fp_1 h0, lv, e, e']
 · simp [fp_2 h0, lv, e, e']
 · simp [fp_3 h0, lv, e, e']
theorem faces_agree {w f g : List Int} {i j : Nat} (h : Word fam w) (hl : 2 ≤ lv fam w) (hij : i < j) (hf : (facesBy w fam)[j]? = some f) (hg : (facesBy w fam)[i]? = some g) : (facesBy f fam)[i]? = (facesBy g fam)[j - 1]? := by
 have hj : j < (facesBy w fam).length := (List.getElem?_eq_some_iff.mp hf).1
 rcases word_cases h with ⟨h0, ⟨a, rfl⟩ | ⟨a, b, rfl⟩ | ⟨a, b, c, rfl⟩ | ⟨a, b, c, d, rfl⟩⟩ | ⟨h0, rfl | ⟨a, rfl⟩ | ⟨a, b, c, rfl⟩⟩ | ⟨h0, rfl | ⟨a, rfl⟩ | ⟨a, b, rfl⟩ | ⟨a, b, c, rfl⟩⟩
 · subst h0; simp [lv] at hl
 · subst h0; simp [lv] at hl
 · subst h0
   rw [f0_3] at hf hg hj
   have hc : (i = 0 ∧ j = 1) ∨ (i = 0 ∧ j = 2) ∨ (i = 1 ∧ j = 2) := by simp at hj; omega
   rcases hc with ⟨rfl, rfl⟩ | ⟨rfl, rfl⟩ | ⟨rfl, rfl⟩
   · simp at hf hg; subst hf hg; rfl
   · simp at hf hg; subst hf hg; rfl
   · simp at hf hg; subst hf hg; rfl
 · subst h0
   rw [f0_4] at hf hg hj
   have hc : (i = 0 ∧ j = 1) ∨ (i = 0 ∧ j = 2) ∨ (i = 0 ∧ j = 3) ∨ (i = 1 ∧ j = 2) ∨ (i = 1 ∧ j = 3) ∨ (i = 2 ∧ j = 3) := by simp at hj; omega
   rcases hc with ⟨rfl, rfl⟩ | ⟨rfl, rfl⟩ | ⟨rfl, rfl⟩ | ⟨rfl, rfl⟩ | ⟨rfl, rfl⟩ | ⟨rfl, rfl⟩
   · simp at hf hg; subst hf hg; rfl
   · simp at hf hg; subst hf hg; rfl
   · simp at hf hg; subst hf hg; rfl
   · simp at hf hg; subst hf hg; rfl
   · simp at hf hg; subst hf hg; rfl
   · simp at hf hg; subst hf hg; rfl
 all_goals have e : ¬ fam = 0 := by omega
 · simp [lv, e, h0] at hl
 · simp [lv, e, h0] at hl
 · rw [fn_3 h0] at hf hg hj
   have hc : (i = 0 ∧ j = 1) ∨ (i = 0 ∧ j = 2) ∨ (i = 1 ∧ j = 2) := by simp at hj; omega
   rcases hc with ⟨rfl, rfl⟩ | ⟨rfl, rfl⟩ | ⟨rfl, rfl⟩
   · simp at hf hg; subst hf hg; simp [fn_1 h0]
   · simp at hf hg; subst hf hg; simp [fn_1 h0]
   · simp at hf hg; subst hf hg; simp [fn_1 h0]
 all_goals have e' : ¬ fam < 0 := by omega
 · simp [lv, e, e'] at hl
 · simp [lv, e, e'] at hl
 · rw [fp_2 h0] at hf hg hj
   have hc : (i = 0 ∧ j = 1) ∨ (i = 0 ∧ j = 2) ∨ (i = 1 ∧ j = 2) := by simp at hj; omega
   rcases hc with ⟨rfl, rfl⟩ | ⟨rfl, rfl⟩ | ⟨rfl, rfl⟩
   · simp at hf hg; subst hf hg; simp [fp_1 h0]
   · simp at hf hg; subst hf hg; simp [fp_1 h0]
   · simp at hf hg; subst hf hg; simp [fp_1 h0]
 · rw [fp_3 h0] at hf hg hj
   have hc : (i = 0 ∧ j = 1) ∨ (i = 0 ∧ j = 2) ∨ (i = 0 ∧ j = 3) ∨ (i = 1 ∧ j = 2) ∨ (i = 1 ∧ j = 3) ∨ (i = 2 ∧ j = 3) := by simp at hj; omega
   rcases hc with ⟨rfl, rfl⟩ | ⟨rfl, rfl⟩ | ⟨rfl, rfl⟩ | ⟨rfl, rfl⟩ | ⟨rfl, rfl⟩ | ⟨rfl, rfl⟩
   · simp at hf hg; subst hf hg; simp [fp_2 h0]
   · simp at hf hg; subst hf hg; simp [fp_2 h0]
   · simp at hf hg; subst hf hg; simp [fp_2 h0]
   · skip
     simp at hf hg; subst hf hg
     simp only [fp_2 h0, List.getElem?_cons_succ, List.getElem?_cons_zero, Nat.add_one_sub_one]
     congr 2
     rw [Int.add_emod_emod, Int.emod_add_emod, Int.add_assoc]
   · simp at hf hg; subst hf hg; simp [fp_2 h0]
   · simp at hf hg; subst hf hg; simp [fp_2 h0]
end
noncomputable def lev (p : List Int) : Nat := p.length - 1
structure Fits (xs : List (List Int)) (p : List Int) : Prop where
 cnt : p.length = 0 ∨ p.length = 2 ∨ p.length = 3 ∨ p.length = 4
 low : ∀ f ∈ p, 0 ≤ f
 bel : ∀ f ∈ p, ∃ q, xs[f.toNat]? = some q ∧ lev q + 1 = lev p
 agr : 3 ≤ p.length → ∀ (i j : Nat) (f g : Int) (q r : List Int), i < j → p[j]? = some f → p[i]? = some g → xs[f.toNat]? = some q → xs[g.toNat]? = some r → q[i]? = r[j - 1]?
noncomputable def IsShape (xs : List (List Int)) : Prop := ∀ (k : Nat) (p : List Int), xs[k]? = some p → Fits (xs.take k) p
noncomputable def Ord (fam : Int) (ws : List (List Int)) : Prop := ∀ (k : Nat) (w : List Int), ws[k]? = some w → Word fam w ∧ ∀ f ∈ facesBy w fam, f ∈ ws.take k
theorem Ord.nil {fam : Int} : Ord fam [] := fun k w h => by simp at h
theorem Ord.snoc {fam : Int} {ws : List (List Int)} {w : List Int} (h : Ord fam ws) (hw : Word fam w) (hf : ∀ f ∈ facesBy w fam, f ∈ ws) : Ord fam (ws ++ [w]) := by
 intro k v hk
 by_cases hlt : k < ws.length
 · rw [List.getElem?_append_left hlt] at hk
   rw [List.take_append_of_le_length (by omega)]
   exact h k v hk
 · have hk' : k < (ws ++ [w]).length := (List.getElem?_eq_some_iff.mp hk).1
   have e : k = ws.length := by simp at hk'; omega
   subst e
   simp at hk
   subst hk
   rw [List.take_append_of_le_length (Nat.le_refl _), List.take_length]
   exact ⟨hw, hf⟩
theorem Ord.mem {fam : Int} {ws : List (List Int)} (h : Ord fam ws) {w : List Int} (hw : w ∈ ws) : Word fam w ∧ ∀ f ∈ facesBy w fam, f ∈ ws := by
 obtain ⟨k, hk⟩ := List.getElem?_of_mem hw
 obtain ⟨h1, h2⟩ := h k w hk
 exact ⟨h1, fun f hf => List.mem_of_mem_take (h2 f hf)⟩
noncomputable def addAll (ws : List (List Int)) : List (List Int) → List (List Int)
 | [] => ws
 | w :: r => addAll (if w ∈ ws then ws else ws ++ [w]) r
theorem addAll_len : ∀ (rows ws : List (List Int)), (addAll ws rows).length ≤ ws.length + rows.length
 | [], ws => by simp [addAll]
 | w :: r, ws => by
   have h1 := addAll_len r (if w ∈ ws then ws else ws ++ [w])
   have h2 : (if w ∈ ws then ws else ws ++ [w]).length ≤ ws.length + 1 := by
     split
     · omega
     · simp
   simp only [addAll, List.length_cons]
   omega
theorem addAll_ord {fam : Int} : ∀ (rows ws : List (List Int)), Ord fam ws → (∀ (k : Nat) (w : List Int), rows[k]? = some w → Word fam w ∧ ∀ f ∈ facesBy w fam, f ∈ ws ∨ f ∈ rows.take k) → Ord fam (addAll ws rows)
 | [], ws, h, _ => h
 | w :: r, ws, h, hr => by
   have h0 := hr 0 w rfl
   have hw : ∀ f ∈ facesBy w fam, f ∈ ws := fun f hf => (h0.2 f hf).resolve_right (by simp)
   simp only [addAll]
   refine addAll_ord r _ ?_ fun k v hk => ?_
   · split
     · exact h
     · exact h.snoc h0.1 hw
   · obtain ⟨h1, h2⟩ := hr (k + 1) v (by simpa using hk)
     refine ⟨h1, fun f hf => ?_⟩
     rcases h2 f hf with z | z
     · left
       split
       · exact z
       · exact List.mem_append_left _ z
     · rw [List.take_succ_cons] at z
       rcases List.mem_cons.mp z with z | z
       · left
         subst z
         split
         · assumption
         · simp
       · exact .inr z
noncomputable def addNew (ws : List (List Int)) : List (List Int) → List (List Int) → List (List Int)
 | acc, [] => acc
 | acc, f :: r => addNew ws (if f ∉ ws ∧ f ∉ acc then acc ++ [f] else acc) r
theorem addNew_sub {ws : List (List Int)} {x : List Int} : ∀ (fs acc : List (List Int)), x ∈ addNew ws acc fs → x ∈ acc ∨ x ∈ fs
 | [], acc, h => .inl h
 | f :: r, acc, h => by
   rcases addNew_sub r _ h with z | z
   · split at z
     · rcases List.mem_append.mp z with z | z
       · exact .inl z
       · exact .inr (by simp at z; simp [z])
     · exact .inl z
   · exact .inr (List.mem_cons_of_mem _ z)
theorem addNew_mono {ws : List (List Int)} {x : List Int} : ∀ (fs acc : List (List Int)), x ∈ acc → x ∈ addNew ws acc fs
 | [], acc, h => h
 | f :: r, acc, h => addNew_mono r _ (by split; exact List.mem_append_left _ h; exact h)
theorem addNew_has {ws : List (List Int)} {x : List Int} : ∀ (fs acc : List (List Int)), x ∈ fs → x ∈ ws ∨ x ∈ addNew ws acc fs
 | f :: r, acc, h => by
   rcases List.mem_cons.mp h with e | e
   · subst e
     by_cases h1 : x ∈ ws
     · exact .inl h1
     · right
       refine addNew_mono r _ ?_
       by_cases h2 : x ∈ acc
       · rw [if_neg (by simp [h2])]; exact h2
       · rw [if_pos ⟨h1, h2⟩]; simp
   · exact addNew_has r _ e
theorem addNew_len {ws : List (List Int)} : ∀ (fs acc : List (List Int)), (addNew ws acc fs).length ≤ acc.length + fs.length
 | [], acc => by simp [addNew]
 | f :: r, acc => by
   have h1 := addNew_len (ws := ws) r (if f ∉ ws ∧ f ∉ acc then acc ++ [f] else acc)
   have h2 : (if f ∉ ws ∧ f ∉ acc then acc ++ [f] else acc).length ≤ acc.length + 1 := by
     split
     · simp
     · omega
   simp only [addNew, List.length_cons]
   omega
noncomputable def below (ws : List (List Int)) (fam : Int) : List (List Int) → List (List Int) → List (List Int)
 | acc, [] => acc
 | acc, w :: r => below ws fam (addNew ws acc (facesBy w fam)) r
theorem below_sub {ws : List (List Int)} {fam : Int} {x : List Int} : ∀ (l acc : List (List Int)), x ∈ below ws fam acc l → x ∈ acc ∨ ∃ w ∈ l, x ∈ facesBy w fam
 | [], acc, h => .inl h
 | w :: r, acc, h => by
   rcases below_sub r _ h with z | ⟨v, hv, z⟩
   · rcases addNew_sub _ _ z with z | z
     · exact .inl z
     · exact .inr ⟨w, List.mem_cons_self, z⟩
   · exact .inr ⟨v, List.mem_cons_of_mem _ hv, z⟩
theorem below_mono {ws : List (List Int)} {fam : Int} {x : List Int} : ∀ (l acc : List (List Int)), x ∈ acc → x ∈ below ws fam acc l
 | [], acc, h => h
 | w :: r, acc, h => below_mono r _ (addNew_mono _ _ h)
theorem below_has {ws : List (List Int)} {fam : Int} {x w : List Int} : ∀ (l acc : List (List Int)), w ∈ l → x ∈ facesBy w fam → x ∈ ws ∨ x ∈ below ws fam acc l
 | v :: r, acc, h, hx => by
   rcases List.mem_cons.mp h with e | e
   · subst e
     rcases addNew_has (ws := ws) _ acc hx with z | z
     · exact .inl z
     · exact .inr (below_mono r _ z)
   · exact below_has r _ e hx
theorem below_len {ws : List (List Int)} {fam : Int} : ∀ (l acc : List (List Int)), (∀ w ∈ l, Word fam w) → (below ws fam acc l).length ≤ acc.length + 4 * l.length
 | [], acc, _ => by simp [below]
 | w :: r, acc, h => by
   have h1 := below_len (ws := ws) r (addNew ws acc (facesBy w fam)) fun v hv => h v (List.mem_cons_of_mem _ hv)
   have h2 := addNew_len (ws := ws) (facesBy w fam) acc
   have h3 := faces_len (h w List.mem_cons_self)
   simp only [below, List.length_cons]
   split at h3 <;> omega
theorem addNew_snoc (ws : List (List Int)) (f : List Int) : ∀ (fs acc : List (List Int)), addNew ws acc (fs ++ [f]) = (if f ∉ ws ∧ f ∉ addNew ws acc fs then addNew ws acc fs ++ [f] else addNew ws acc fs)
 | [], acc => rfl
 | g :: fs, acc => addNew_snoc ws f fs _
theorem below_snoc (ws : List (List Int)) (fam : Int) (w : List Int) : ∀ (l acc : List (List Int)), below ws fam acc (l ++ [w]) = addNew ws (below ws fam acc l) (facesBy w fam)
 | [], acc => rfl
 | v :: l, acc => below_snoc ws fam w l _
theorem addAll_snoc (w : List Int) : ∀ (rows ws : List (List Int)), addAll ws (rows ++ [w]) = (if w ∈ addAll ws rows then addAll ws rows else addAll ws rows ++ [w])
 | [], ws => rfl
 | v :: rows, ws => addAll_snoc w rows _
noncomputable def layers (ws : List (List Int)) (fam : Int) : Nat → List (List Int) → List (List Int) → List (List Int)
 | 0, layer, rows => rows
 | n + 1, layer, rows => layers ws fam n (below ws fam [] layer) (layer ++ rows)
theorem layers_ok {ws : List (List Int)} {fam : Int} : ∀ (n : Nat) (layer rows : List (List Int)), (∀ w ∈ layer, Word fam w ∧ lv fam w < n) →
   (∀ (k : Nat) (w : List Int), rows[k]? = some w → Word fam w ∧ ∀ f ∈ facesBy w fam, f ∈ ws ∨ f ∈ layer ∨ f ∈ rows.take k) →
   ∀ (k : Nat) (w : List Int), (layers ws fam n layer rows)[k]? = some w → Word fam w ∧ ∀ f ∈ facesBy w fam, f ∈ ws ∨ f ∈ (layers ws fam n layer rows).take k
 | 0, layer, rows, hl, hr, k, w, hk => by
   obtain ⟨h1, h2⟩ := hr k w hk
   refine ⟨h1, fun f hf => ?_⟩
   rcases h2 f hf with z | z | z
   · exact .inl z
   · exact absurd (hl f z).2 (by omega)
   · exact .inr z
 | n + 1, layer, rows, hl, hr, k, w, hk => by
   refine layers_ok n _ _ ?_ ?_ k w hk
   · intro v hv
     rcases below_sub _ _ hv with z | ⟨u, hu, z⟩
     · exact nomatch z
     · obtain ⟨q1, q2⟩ := hl u hu
       obtain ⟨q3, q4⟩ := faces_word q1 z
       exact ⟨q3, by omega⟩
   · intro m v hm
     by_cases hlt : m < layer.length
     · rw [List.getElem?_append_left hlt] at hm
       have hv : v ∈ layer := List.mem_of_getElem? hm
       refine ⟨(hl v hv).1, fun f hf => ?_⟩
       rcases below_has (ws := ws) layer [] hv hf with z | z
       · exact .inl z
       · exact .inr (.inl z)
     · rw [List.getElem?_append_right (by omega)] at hm
       obtain ⟨h1, h2⟩ := hr _ v hm
       refine ⟨h1, fun f hf => ?_⟩
       rcases h2 f hf with z | z | z
       · exact .inl z
       · right; right
         rw [List.take_append]
         refine List.mem_append_left _ ?_
         rw [List.take_of_length_le (by omega)]
         exact z
       · right; right
         rw [List.take_append]
         exact List.mem_append_right _ z
noncomputable def wordsWith (ws : List (List Int)) (w : List Int) (fam : Int) : List (List Int) := addAll ws (layers ws fam 4 [w] [])
theorem wordsWith_ord {ws : List (List Int)} {w : List Int} {fam : Int} (h : Ord fam ws) (hw : Word fam w) : Ord fam (wordsWith ws w fam) := by
 refine addAll_ord _ _ h (layers_ok 4 [w] [] ?_ ?_)
 · intro v hv
   have e : v = w := by simpa using hv
   subst e
   exact ⟨hw, by have := (faces_len hw).2; omega⟩
 · intro k v hk
   simp at hk
noncomputable def idx (ws : List (List Int)) (f : List Int) : Nat := ws.findIdx (· == f)
theorem idx_get {ws : List (List Int)} {f : List Int} (h : f ∈ ws) : ws[idx ws f]? = some f := by
 unfold idx
 have hl : ws.findIdx (· == f) < ws.length := List.findIdx_lt_length_of_exists ⟨f, h, by simp⟩
 rw [List.getElem?_eq_getElem hl]
 have := List.findIdx_getElem (xs := ws) (p := (· == f)) (w := hl)
 simpa using this
theorem idx_lt {ws : List (List Int)} {f : List Int} {k : Nat} (h : f ∈ ws.take k) : idx ws f < k := by
 unfold idx
 obtain ⟨i, hi⟩ := List.getElem?_of_mem h
 have hlt : i < (ws.take k).length := (List.getElem?_eq_some_iff.mp hi).1
 rw [List.getElem?_take] at hi
 split at hi
 · rename_i hik
   have hl : i < ws.length := (List.getElem?_eq_some_iff.mp hi).1
   have e : ws[i] = f := by
     rw [List.getElem?_eq_getElem hl] at hi
     exact Option.some.inj hi
   have hle : ws.findIdx (· == f) ≤ i := by
     apply Nat.le_of_not_lt
     intro hgt
     have := List.not_of_lt_findIdx hgt
     simp [e] at this
   omega
 · cases hi
noncomputable def shapeOf (ws : List (List Int)) (fam : Int) : List (List Int) := ws.map fun w => (facesBy w fam).map fun f => (idx ws f : Int)
theorem shapeOf_get {ws : List (List Int)} {fam : Int} {k : Nat} {w : List Int} (h : ws[k]? = some w) : (shapeOf ws fam)[k]? = some ((facesBy w fam).map fun f => (idx ws f : Int)) := by
 unfold shapeOf
 rw [List.getElem?_map, h]
 rfl
theorem shapeOf_shape {ws : List (List Int)} {fam : Int} (h : Ord fam ws) : IsShape (shapeOf ws fam) := by
 intro k p hp
 unfold shapeOf at hp
 rw [List.getElem?_map] at hp
 cases hw : ws[k]? with
 | none => rw [hw] at hp; cases hp
 | some w =>
   rw [hw] at hp
   have hp' : (facesBy w fam).map (fun f => (idx ws f : Int)) = p := by simpa using hp
   subst hp'
   obtain ⟨h1, h2⟩ := h k w hw
   obtain ⟨n1, n2⟩ := faces_len h1
   have look : ∀ f ∈ facesBy w fam, ((shapeOf ws fam).take k)[((idx ws f : Nat) : Int).toNat]? = some ((facesBy f fam).map fun g => (idx ws g : Int)) := fun f hf => by
     have hm := h2 f hf
     have hlt := idx_lt hm
     rw [Int.toNat_natCast, List.getElem?_take, if_pos hlt]
     exact shapeOf_get (idx_get (List.mem_of_mem_take hm))
   refine ⟨?_, ?_, ?_, ?_⟩
   · rw [List.length_map]
     by_cases hz : lv fam w = 0
     · rw [if_pos hz] at n1; omega
     · rw [if_neg hz] at n1; omega
   · intro f hf
     obtain ⟨g, _, rfl⟩ := List.mem_map.mp hf
     omega
   · intro f hf
     obtain ⟨g, hg, rfl⟩ := List.mem_map.mp hf
     refine ⟨_, look g hg, ?_⟩
     obtain ⟨w1, l1⟩ := faces_word h1 hg
     obtain ⟨m1, _⟩ := faces_len w1
     unfold lev
     rw [List.length_map, List.length_map]
     have hz : ¬ lv fam w = 0 := by omega
     rw [if_neg hz] at n1
     by_cases hy : lv fam g = 0
     · rw [if_pos hy] at m1; omega
     · rw [if_neg hy] at m1; omega
   · intro hl i j f g q r hij hf hg hq hr
     rw [List.length_map] at hl
     rw [List.getElem?_map] at hf hg
     cases ef : (facesBy w fam)[j]? with
     | none => rw [ef] at hf; cases hf
     | some F =>
       cases eg : (facesBy w fam)[i]? with
       | none => rw [eg] at hg; cases hg
       | some G =>
         rw [ef] at hf
         rw [eg] at hg
         have ef' : ((idx ws F : Nat) : Int) = f := by simpa using hf
         have eg' : ((idx ws G : Nat) : Int) = g := by simpa using hg
         subst ef' eg'
         rw [look F (List.mem_of_getElem? ef)] at hq
         rw [look G (List.mem_of_getElem? eg)] at hr
         cases hq
         cases hr
         have hz : ¬ lv fam w = 0 := by intro z; rw [if_pos z] at n1; omega
         rw [if_neg hz] at n1
         rw [List.getElem?_map, List.getElem?_map, faces_agree h1 (by omega) hij ef eg]
theorem layers_len {ws : List (List Int)} {fam : Int} {w : List Int} (hw : Word fam w) : (layers ws fam 4 [w] []).length ≤ 85 := by
 have step : ∀ l : List (List Int), (∀ v ∈ l, Word fam v) → (below ws fam [] l).length ≤ 4 * l.length ∧ ∀ v ∈ below ws fam [] l, Word fam v := fun l hl => by
   refine ⟨by have := below_len (ws := ws) l [] hl; simpa using this, fun v hv => ?_⟩
   rcases below_sub _ _ hv with z | ⟨u, hu, z⟩
   · exact nomatch z
   · exact (faces_word (hl u hu) z).1
 have s0 : ∀ v ∈ [w], Word fam v := fun v hv => by have e : v = w := by simpa using hv
                                                   subst e; exact hw
 obtain ⟨a1, b1⟩ := step _ s0
 obtain ⟨a2, b2⟩ := step _ b1
 obtain ⟨a3, b3⟩ := step _ b2
 simp only [layers, List.length_append, List.length_nil, List.length_cons] at a1 a2 a3 ⊢
 omega
end Hb
namespace Hb
noncomputable def pc (xs : List (List Int)) (p : Int) : List Int := xs.getD p.toNat []
section
variable {xs : List (List Int)}
end
end Hb
namespace Hb
open PySem L2
noncomputable def cellAt (ns : List Int) (k : Int) : Int := ns.getD k.toNat 0
noncomputable abbrev LT (K : PySem.W.Frag) (H : Hp) (v : V) (xs : List (List Int)) : Prop := Rep K H v (.lst (xs.map tI))
noncomputable abbrev TI (K : PySem.W.Frag) (H : Hp) (v : V) (ns : List Int) : Prop := Rep K H v (tI ns)
section
variable {K : PySem.W.Frag} {H H' : Hp}
theorem TI.sq {v : V} {ns : List Int} (h : TI K H v ns) : ∃ a, v = .ref a ∧ SqT K H a (ns.map V.int) := by
 obtain ⟨a, vs, e, q, r⟩ := h
 rw [reps_nums.mp r] at q
 exact ⟨a, e, q⟩
theorem TI.mk {a : Addr} {ns : List Int} (h : SqT K H a (ns.map V.int)) : TI K H (.ref a) ns := ⟨a, _, rfl, h, reps_nums.mpr rfl⟩
theorem TI.same {v : V} {ns : List Int} (s : Same H H') (h : TI K H v ns) : TI K H' v ns := Rep.same s h
theorem TI.t {v : V} {ns : List Int} (s : TSame H H') (h : TI K H v ns) : TI K H' v ns := Rep.t s (imm_tI ns) h
theorem cut_take (xs : List V) (k : Nat) : cutV xs none (some (k : Int)) = xs.take k := by
 unfold cutV
 rw [HT.sIx_none, HT.sIx_nat, Nat.sub_zero, List.drop_zero, List.take_eq_take_iff]
 omega
theorem cut_drop (xs : List V) (k : Nat) : cutV xs (some (k : Int)) none = xs.drop k := by
 unfold cutV
 rw [HT.sIx_none, HT.sIx_nat]
 by_cases h : k ≤ xs.length
 · rw [Nat.min_eq_left h, List.take_of_length_le (by rw [List.length_drop]; omega)]
 · rw [Nat.min_eq_right (by omega), List.drop_length, List.drop_of_length_le (by omega)]
   simp
theorem push_reps {D : Addr} {ys : List V} {v : V} {d : L2.D} {ds : List L2.D} (hD : H D = some (.lst ys)) (r : Reps K H ys ds) (rv : Rep K H v d) (hi : imms (ds ++ [d]) = true) : Reps K (upd H D (.lst (ys ++ [v]))) (ys ++ [v]) (ds ++ [d]) :=
 (r.snoc rv).t (TSame.lst hD) hi
theorem push_TI {D : Addr} {ys : List V} {v : V} {xs : List (List Int)} {x : List Int} (hD : H D = some (.lst ys)) (r : Reps K H ys (xs.map tI)) (rv : TI K H v x) : Reps K (upd H D (.lst (ys ++ [v]))) (ys ++ [v]) ((xs ++ [x]).map tI) := by
 have e : (xs ++ [x]).map tI = xs.map tI ++ [tI x] := by simp
 have h := imms_tIs (xs ++ [x])
 rw [e] at h ⊢
 exact push_reps hD r rv h
noncomputable def SameX (B : Addr) (H H' : Hp) : Prop := ∀ b o, b ≠ B → H b = some o → H' b = some o
theorem SameX.refl (B : Addr) (H : Hp) : SameX B H H := fun _ _ _ h => h
theorem SameX.upd {B : Addr} {H H1 : Hp} {o : HO} (a : SameX B H H1) : SameX B H (upd H1 B o) := fun c u n h => by rw [upd_ne n]; exact a c u n h
theorem SameX.t {B : Addr} {H H1 : Hp} {us : List V} (a : SameX B H H1) (h : H B = some (.lst us)) : TSame H H1 :=
 ⟨fun b xs e => a b _ (ne_of e h (by intro z; cases z)) e, fun b o u e => a b _ (ne_of e h (by intro z; cases z)) e⟩
theorem SameX.same {B : Addr} {H0 H H1 : Hp} (a : SameX B H H1) (s : Same H0 H) (h : H0 B = none) : Same H0 H1 := fun b o e => a b o (ne_of_none e h) (s b o e)
theorem deps_nums : ∀ ns : List Int, deps (nums ns) = 0
 | [] => rfl
 | n :: ns => by show max (dep (.int n)) (deps (nums ns)) = 0; rw [deps_nums ns]; rfl
theorem deps_tIs : ∀ xs : List (List Int), deps (xs.map tI) ≤ 1
 | [] => Nat.zero_le _
 | x :: xs => by
   have h1 := deps_tIs xs
   have h2 : dep (tI x) = 1 := by show deps (nums x) + 1 = 1; rw [deps_nums]
   show max (dep (tI x)) (deps (xs.map tI)) ≤ 1
   omega
theorem any_tI (f : List Int) : ∀ xs : List (List Int), (xs.map tI).any (fun e => eqD e (tI f)) = decide (f ∈ xs)
 | [] => rfl
 | x :: xs => by
   rw [List.map_cons, List.any_cons, any_tI f xs, eqD_tI]
   by_cases h : x = f
   · subst h; simp
   · have h' : ¬ f = x := fun z => h z.symm
     simp [h, h']
theorem ifP {c A B : Prop} [Decidable c] (hc : c) (h : A) : if c then A else B := by rw [if_pos hc]; exact h
theorem ifN {c A B : Prop} [Decidable c] (hc : ¬ c) (h : B) : if c then A else B := by rw [if_neg hc]; exact h
theorem neI {a b : Int} (h : ¬ a = b) : (!decide (V.int a = V.int b)) = true := by simp [h]
theorem eqI {a b : Int} (h : a = b) : ¬ (!decide (V.int a = V.int b)) = true := by simp [h]
theorem comp_list0 {g : TG} {te : TE} {D : Addr} {Q : Hp → Prop} {τ : St} {H : Hp} {K : PySem.W.Frag} {a : Addr} {xs : List V} (Pv : Nat → List V → St → Hp → Prop) (h0 : Pv 0 [] τ H) (hl : ∀ i ys τ H, i ≤ xs.length → Pv i ys τ H → SqL K H a xs)
   (hs : ∀ i x ys τ H, xs[i]? = some x → Pv i ys τ H → g x τ H fun τ2 H2 => te τ2 H2 fun y H4 => H4 D = some (.lst ys) ∧ ys.length < sizeLine ∧ Pv (i + 1) (ys ++ [y]) τ2 (upd H4 D (.lst (ys ++ [y]))))
   (hd : ∀ ys τ H, Pv xs.length ys τ H → Q H) : RunC (Itl K a) g tYes te D Q τ H := comp_list Pv h0 hl (fun i x ys τ H e p => hs i x ys τ H e p) hd
theorem comp_tup0 {g : TG} {te : TE} {D : Addr} {Q : Hp → Prop} {τ : St} {H : Hp} {K : PySem.W.Frag} {a : Addr} {xs : List V} (Pv : Nat → List V → St → Hp → Prop) (h0 : Pv 0 [] τ H) (hl : ∀ i ys τ H, i ≤ xs.length → Pv i ys τ H → SqT K H a xs)
   (hs : ∀ i x ys τ H, xs[i]? = some x → Pv i ys τ H → g x τ H fun τ2 H2 => te τ2 H2 fun y H4 => H4 D = some (.lst ys) ∧ ys.length < sizeLine ∧ Pv (i + 1) (ys ++ [y]) τ2 (upd H4 D (.lst (ys ++ [y]))))
   (hd : ∀ ys τ H, Pv xs.length ys τ H → Q H) : RunC (Itt K a) g tYes te D Q τ H := comp_tup Pv h0 hl (fun i x ys τ H e p => hs i x ys τ H e p) hd
theorem comp_range0 {g : TG} {te : TE} {D : Addr} {Q : Hp → Prop} {τ : St} {H : Hp} {lo : Int} {n : Nat} (Pv : Nat → List V → St → Hp → Prop) (h0 : Pv 0 [] τ H)
   (hs : ∀ i ys τ H, i < n → Pv i ys τ H → g (.int (lo + i)) τ H fun τ2 H2 => te τ2 H2 fun y H4 => H4 D = some (.lst ys) ∧ ys.length < sizeLine ∧ Pv (i + 1) (ys ++ [y]) τ2 (upd H4 D (.lst (ys ++ [y]))))
   (hd : ∀ ys τ H, Pv n ys τ H → Q H) : RunC (Itr lo n) g tYes te D Q τ H := comp_range Pv h0 (fun i ys τ H e p => hs i ys τ H e p) hd
theorem tSeq_cut {t u : TS} {D : Ends} {σ : St} {H : Hp} (P : St → Hp → Prop) (hu : ∀ σ' H', P σ' H' → u D σ' H') (h : (∀ σ' H', P σ' H' → u D σ' H') → tSeq t u D σ H) : tSeq t u D σ H := h hu
theorem findIdx_tI {f : List Int} : ∀ {ws : List (List Int)}, f ∈ ws → (ws.map tI).findIdx? (fun e => eqD e (tI f)) = some (idx ws f) := fun {ws} h => by
 have e : (ws.map tI).findIdx? (fun e => eqD e (tI f)) = ws.findIdx? (fun w => w == f) := by
   rw [List.findIdx?_map]
   congr 1
   funext w
   show eqD (tI w) (tI f) = (w == f)
   rw [eqD_tI]
   by_cases z : w = f
   · subst z; simp
   · simp [z]
 rw [e, List.findIdx?_eq_some_of_exists (xs := ws) (p := fun w => w == f) ⟨f, h, by simp⟩]
 rfl
theorem small {n : Nat} (h : n ≤ 1000000) : n < sizeLine := Nat.lt_of_le_of_lt h (by decide)
theorem smallE {n : Nat} (h : n ≤ 1000000) : n ≤ sizeLine := Nat.le_of_lt (small h)
end
section
variable (K : PySem.W.Frag)
noncomputable def sp_cell_at : Sp := fun vs H Q _ => ∃ (a : Addr) (ns : List Int) (k : Int), vs = [.ref a, .int k] ∧ SqL K H a (ns.map V.int) ∧ 0 ≤ k ∧ ns.length ≤ 63 ∧ Q (.int (cellAt ns k)) H
noncomputable def sp_faces_by : Sp := fun vs H Q _ => ∃ (v : V) (w : List Int) (fam : Int), vs = [v, .int fam] ∧ TI K H v w ∧ Word fam w ∧
 ∀ (p : Addr) (us : List V) (H' : Hp), H p = none → Same H H' → H' p = some (.lst us) → Reps K H' us ((facesBy w fam).map tI) → Q (.ref p) H'
noncomputable def sp_word_by : Sp := fun vs H Q _ => ∃ (c fam letters : Int), vs = [.int c, .int fam, .int letters] ∧ 0 < letters ∧ letters < 100 ∧ fam < 100 ∧
 ∀ (v : V) (H' : Hp) (w : List Int), Same H H' → TI K H' v w → Word fam w → Q v H'
noncomputable def sp_words_with : Sp := fun vs H Q _ => ∃ (l : Addr) (us : List V) (v : V) (ws : List (List Int)) (w : List Int) (fam : Int), vs = [.ref l, v, .int fam] ∧ H l = some (.lst us) ∧ Reps K H us (ws.map tI) ∧ TI K H v w ∧ Word fam w ∧ ws.length ≤ 100 ∧
 ∀ (p : Addr) (us' : List V) (H' : Hp), H p = none → Same H H' → H' p = some (.lst us') → Reps K H' us' ((wordsWith ws w fam).map tI) → Q (.ref p) H'
noncomputable def sp_law : Sp := fun vs H Q _ => ∃ (a : Addr) (ns : List Int), vs = [.ref a] ∧ SqL K H a (ns.map V.int) ∧ ns.length ≤ 63 ∧ ∀ H', Q (.bl true) H'
noncomputable def sp_shape_by : Sp := fun vs H Q _ => ∃ (a : Addr) (ns : List Int) (kind most : Int), vs = [.int kind, .ref a, .int most] ∧ SqL K H a (ns.map V.int) ∧ ns.length ≤ 63 ∧ 0 ≤ most ∧ most ≤ 100 ∧
 ∀ (p : Addr) (us : List V) (H' : Hp) (xs : List (List Int)), H p = none → Same H H' → H' p = some (.lst us) → Reps K H' us (xs.map tI) → IsShape xs → (xs.length : Int) ≤ most → Q (.ref p) H'
end
end Hb
namespace Hb
open PySem L2
noncomputable def wholeD (d : L2.D) : Bool := isD "int" d && !isD "bool" d
noncomputable def belowD (d : L2.D) (b : Int) : Bool := match d with
 | .int i => decide (0 ≤ i) && decide (i < b)
 | _ => false
noncomputable def levI (n : Nat) : Int := if (0 : Int) > (n : Int) - 1 then 0 else (n : Int) - 1
noncomputable def placeLev (xs : List (List Int)) (d : L2.D) (l : Int) : Bool := match d with
 | .int i => decide (0 ≤ i) && decide (i < (xs.length : Int)) && decide (levI (xs.getD i.toNat []).length = l)
 | _ => false
section
variable (K : PySem.W.Frag)
noncomputable def sp_is_whole : Sp := fun vs H Q _ => ∃ (x : V) (d : L2.D), vs = [x] ∧ Rep K H x d ∧ Q (.bl (wholeD d)) H
noncomputable abbrev sp_L_whole : Sp := sp_is_whole K
noncomputable def sp_is_whole_below : Sp := fun vs H Q _ => ∃ (x : V) (d : L2.D) (b : Int), vs = [x, .int b] ∧ Rep K H x d ∧ Q (.bl (belowD d b)) H
noncomputable def sp_level_of : Sp := fun vs H Q _ => ∃ (x : V) (ds : List L2.D), vs = [x] ∧ SeqD K H x ds ∧ Q (.int (levI ds.length)) H
noncomputable def sp_is_place_of_level : Sp := fun vs H Q _ => ∃ (a : Addr) (x : V) (d : L2.D) (l : Int) (xs : List (List Int)), vs = [.ref a, x, .int l] ∧ LT K H (.ref a) xs ∧ Rep K H x d ∧ Q (.bl (placeLev xs d l)) H
noncomputable abbrev sp_L_cell_at : Sp := sp_cell_at K
noncomputable abbrev sp_L_faces_by : Sp := sp_faces_by K
noncomputable abbrev sp_L_word_by : Sp := sp_word_by K
noncomputable abbrev sp_L_words_with : Sp := sp_words_with K
noncomputable abbrev sp_L_shape_by : Sp := sp_shape_by K
end
section
variable {K : PySem.W.Frag} {H : Hp}
theorem wholeD_int {d : L2.D} (h : wholeD d = true) : ∃ i, d = .int i := by
 cases d <;> simp [wholeD, isD] at h
 exact ⟨_, rfl⟩
theorem LT.get {a : Addr} {xs : List (List Int)} {i : Int} (h : LT K H (.ref a) xs) (h0 : 0 ≤ i) (h1 : i < (xs.length : Int)) : ∃ us v, SqL K H a us ∧ atI us i = some v ∧ TI K H v (xs.getD i.toNat []) := by
 obtain ⟨a', us, e, hq, r⟩ := h
 cases e
 obtain ⟨j, rfl⟩ := Int.eq_ofNat_of_zero_le h0
 have hj : j < xs.length := by omega
 have e : (xs.map tI)[j]? = some (tI xs[j]) := by rw [List.getElem?_map, List.getElem?_eq_getElem hj]; rfl
 obtain ⟨v, hv, tv⟩ := r.get e
 refine ⟨us, v, hq, atI_nat hv, ?_⟩
 rw [Int.toNat_natCast, List.getD_eq_getElem?_getD, List.getElem?_eq_getElem hj]
 exact tv
theorem LT.len {a : Addr} {xs : List (List Int)} (h : LT K H (.ref a) xs) : ∃ us, SqL K H a us ∧ us.length = xs.length := by
 obtain ⟨a', us, e, hq, r⟩ := h
 cases e
 exact ⟨us, hq, by have := r.length; simpa using this⟩
end
end Hb
namespace L2
open PySem PySem.Spec PyProof.Rows
section
variable {X : Cx} {sc : Scope} {N' : List Str} {cap : List (Option Nat)} {xc : Str} {pins : List (Addr × Obj)} {σ : St} {H : Hp} {s : Shared} {C c : Addr} {fp : List Addr}
end
section
variable {X : Cx} {sc : Scope} {N' : List Str} {cap : List (Option Nat)} {xc : Str} {tg elt iter : Expr} {ifs : List Expr} {pos : Pos} {g : TG} {tc : TT} {te : TE}
end
end L2
namespace Hb
open PySem L2
section
variable {H H1 : Hp} {a : Addr} {ms : Ms} {k v : Int}
theorem dget_ok (rd : Rd H a (.dK (cK ms))) : DGet H a (.int k) ((lookI ms k).map V.int) := .inl ⟨cK ms, .inl k, rd, rfl, (cK_val ms k).symm⟩
theorem dget_at (rd : Rd H a (.dK (cK ms))) (h : lookI ms k = some v) : DGet H a (.int k) (some (.int v)) := .inl ⟨cK ms, .inl k, rd, rfl, by rw [cK_val, h]; rfl⟩
theorem dput_ok (h : H a = some (.dK (cK ms))) (hl : ms.length ≤ 1000000) : DPut H a (.int k) (.int v) (upd H a (.dK (cK (putI ms k v)))) := by
 rw [← cK_put]
 exact .inl ⟨cK ms, .inl k, h, rfl, by unfold cK; rw [List.length_map]; exact small hl, rfl⟩
theorem cK_get {i : Nat} {kk : Key} {x : V} (h : (cK ms)[i]? = some (kk, x)) : ∃ p : Int × Int, ms[i]? = some p ∧ kk = .inl p.1 ∧ x = .int p.2 := by
 unfold cK at h
 rw [List.getElem?_map] at h
 cases e : ms[i]? with
 | none => rw [e] at h; cases h
 | some p =>
   rw [e] at h
   have := Option.some.inj h
   simp only [Prod.mk.injEq] at this
   exact ⟨p, rfl, this.1.symm, this.2.symm⟩
theorem cK_len : (cK ms).length = ms.length := by unfold cK; rw [List.length_map]
theorem frz_free {x : HO} {D : Addr} (h : (upd H a x) D = none) : H D = none ∧ D ≠ a := by
 have n : D ≠ a := fun z => by rw [z, upd_same] at h; cases h
 rw [upd_ne n] at h
 exact ⟨h, n⟩
theorem rd_same {o : HO} {b : Addr} (s : Same H H1) (h : Rd H b o) : Rd H1 b o := by
 rcases h with h | ⟨q, h⟩
 · exact .inl (s _ _ h)
 · exact .inr ⟨q, s _ _ h⟩
end
theorem put_new {ms : Ms} {k v : Int} (h : k ∉ ms.map (·.1)) : putI ms k v = ms ++ [(k, v)] := by
 unfold putI
 rw [if_neg (fun z => h (any_key.mp z))]
noncomputable def newC (H : Hp) (ms : Ms) (Q : V → Hp → Prop) : Prop := ∀ (D : Addr) (H' : Hp), H D = none → Same H H' → H' D = some (.dK (cK ms)) → Q (.ref D) H'
section
variable (K : PySem.W.Frag)
noncomputable def sp_L_number_by (_K : PySem.W.Frag) : Sp := fun vs H Q _ => ∃ c : Int, vs = [.int c] ∧ ∀ v : Int, v.natAbs < 2 ^ 70 → Q (.int v) H
noncomputable def sp_L_chain_like (_K : PySem.W.Frag) : Sp := fun vs H Q _ => ∃ (a b : Addr) (ms ns : Ms), vs = [.ref a, .ref b] ∧ H a = some (.dK (cK ms)) ∧ Rd H b (.dK (cK ns)) ∧ a ≠ b ∧ sameC ms ns = true ∧ ∀ H', Same H H' → Q (.bl true) H'
noncomputable def sp_L_without_noughts (_K : PySem.W.Frag) : Sp := fun vs H Q _ => ∃ (a : Addr) (ms : Ms), vs = [.ref a] ∧ H a = some (.dK (cK ms)) ∧ ms.length ≤ 1000 ∧ newC H (cutI ms) Q
end
end Hb
namespace L2
open PySem PySem.Spec PyProof.Rows
section
variable {P : Program} {w : World} {K : PySem.W.Frag} {mg : Str → Option Value} {base : Heap}
end
section
variable {X : Cx} {x : Str} {ps : List Str} {j k : Nat} {sp : Sp} {p pos : Pos} {e : Expr} {es : List Expr} {t : TA}
end
end L2
namespace L2
open PySem PySem.Spec PyProof.Rows
theorem paired_of_get {α β : Type} {F : α → β → Prop} : ∀ {l : List α} {m : List β}, l.length = m.length → (∀ (i : Nat) (x : α) (y : β), l[i]? = some x → m[i]? = some y → F x y) → Paired F l m
 | [], [], _, _ => .nil
 | [], _ :: _, h, _ => by simp at h
 | _ :: _, [], h, _ => by simp at h
 | x :: l, y :: m, h, f => .cons (f 0 x y rfl rfl) (paired_of_get (by simpa using h) fun i a b ha hb => f (i + 1) a b (by simpa using ha) (by simpa using hb))
noncomputable def upN (n : Nat) : List Int := (List.range n).map fun (i : Nat) => (i : Int)
theorem upN_len (n : Nat) : (upN n).length = n := by simp [upN]
theorem upN_get {n i : Nat} (h : i < n) : (upN n)[i]? = some (i : Int) := by
 unfold upN
 rw [List.getElem?_map, List.getElem?_range h]
 rfl
noncomputable def tLRng (ta : TA) : TE := fun σ H Q => ta σ H fun vs H1 => ∃ n : Nat, vs = [.int (n : Int)] ∧ n ≤ 1000000 ∧ ∀ l, H1 l = none → Q (.ref l) (upd H1 l (.lst ((upN n).map V.int)))
theorem pe_listRange {X : Cx} {a : Expr} {ta : TA} {p q pos pos2 : Pos} (hc : X.calm = true) (hg1 : Gl X "list") (hm1 : X.mg "list" = none) (hg2 : Gl X "range") (hm2 : X.mg "range" = none) (ha : PA X [a] ta)
   (hs : starEach [a] X.env = [(false, eval a X.env)] := by rfl) (hs2 : starEach [.Call (.Name "range" q) [a] [] pos2] X.env = [(false, eval (.Call (.Name "range" q) [a] [] pos2) X.env)] := by rfl) :
   PE X (.Call (.Name "list" p) [.Call (.Name "range" q) [a] [] pos2] [] pos) (tLRng ta) := by
 intro pins s σ H Q I h
 refine Call_ (ld_blt I hg1 hm1 boot_listT (PyProof.Rows.callWith_type1 ?_ hs2 rfl))
 rw [hs2]
 refine Calls.spliced_cons ?_
 refine Call_ (ld_blt I hg2 hm2 boot_range (PyProof.Rows.callWith_type1 (thn (ha pos2 pins s σ H _ I h) fun us s1 ⟨vs, H1, I1, r1, q1⟩ => ?_) hs rfl))
 obtain ⟨n, e, hn, q⟩ := q1
 subst e
 obtain ⟨u, rfl, ru⟩ := vals1 r1
 obtain ⟨t, rfl⟩ := ru
 refine call_range_1 (Calls.spliced_nil ?_)
 have I2 := I1.kept (h' := s1.heap.push { cls := .type "range", data := .fields #[.int 0 s1.toks, .int (n : Int) t, .int 1 (s1.toks + 1)] }) (t' := s1.toks + 1 + 1) fun b o e => Heap.get?_push_of_some _ e
 refine call_list_range (n := n) (I2.ok.hd hc) (IsRange.new ..) (small_one (by decide) (by decide) (by omega) (by omega)) ?_ (by omega) fun h' tk acc' c' kp e it => ?_
 · rw [rangeSize_one]
   split <;> omega
 · obtain ⟨sz, get⟩ := it
   have hf := I2.hok.fresh (Nat.le_refl _)
   have hz : ((upN n).map V.int).length ≤ sizeLine := by rw [List.length_map, upN_len, sizeLine_eq]; omega
   have rel : Vals ((upN n).map V.int) acc'.toList := by
     refine paired_of_get ?_ ?_
     · rw [List.length_map, upN_len]; simpa using sz.symm
     · intro i x y hx hy
       have hi : i < n := by
         have := (List.getElem?_eq_some_iff.mp hx).1
         rwa [List.length_map, upN_len] at this
       rw [List.getElem?_map, upN_get hi] at hx
       cases hx
       obtain ⟨t', rfl⟩ := get i y (by simpa using hy)
       exact ⟨t', by simp⟩
   refine ⟨.ref _, _, I2.laid (t' := tk) kp (Nat.le_refl _) (show ObjOk X.prog X.w _ h' _ (.lst ((upN n).map V.int)) from ⟨hz, acc'.toList, c', rel, ?_⟩), rfl, q _ hf⟩
   simpa using e
end L2
namespace Hb
noncomputable def swI (t f : Int) : Int := if f = t then t + 1 else if f = t + 1 then t else f
noncomputable def swapN (ys : List (List Int)) (t : Nat) : List (List Int) := ys.take t ++ [ys.getD (t + 1) [], ys.getD t []] ++ ys.drop (t + 2)
noncomputable def swapS (ys : List (List Int)) (t : Nat) : List (List Int) := (swapN ys t).map fun p => p.map (swI t)
noncomputable def swN (t k : Nat) : Nat := if k = t then t + 1 else if k = t + 1 then t else k
theorem swI_nat (t k : Nat) : swI (t : Int) (k : Int) = (swN t k : Nat) := by
 unfold swI swN
 by_cases a : k = t
 · rw [if_pos (by omega), if_pos a]; omega
 · by_cases b : k = t + 1
   · rw [if_neg (by omega), if_pos (by omega), if_neg a, if_pos b]
   · rw [if_neg (by omega), if_neg (by omega), if_neg a, if_neg b]
theorem swN_swN (t k : Nat) : swN t (swN t k) = k := by
 unfold swN
 repeat' split
 all_goals omega
theorem swapN_get {ys : List (List Int)} {t : Nat} (h : t + 1 < ys.length) (k : Nat) : (swapN ys t)[k]? = ys[swN t k]? := by
 unfold swapN swN
 have e1 : ys.getD (t + 1) [] = ys[t + 1] := by rw [List.getD_eq_getElem?_getD, List.getElem?_eq_getElem h]; rfl
 have e0 : ys.getD t [] = ys[t] := by rw [List.getD_eq_getElem?_getD, List.getElem?_eq_getElem (by omega)]; rfl
 rw [e1, e0, List.append_assoc]
 have lt : (ys.take t).length = t := by rw [List.length_take]; omega
 by_cases a : k < t
 · rw [List.getElem?_append_left (by omega), List.getElem?_take, if_pos a, if_neg (by omega), if_neg (by omega)]
 · rw [List.getElem?_append_right (by omega), lt]
   by_cases b : k = t
   · subst b
     rw [if_pos rfl, Nat.sub_self]
     exact (List.getElem?_eq_getElem h).symm
   · by_cases c : k = t + 1
     · subst c
       rw [if_neg b, if_pos rfl, show t + 1 - t = 1 by omega]
       exact (List.getElem?_eq_getElem (by omega)).symm
     · rw [if_neg b, if_neg c]
       rw [List.getElem?_append_right (by simp; omega), List.getElem?_drop]
       congr 1
       simp
       omega
theorem swapS_get {ys : List (List Int)} {t : Nat} (h : t + 1 < ys.length) (k : Nat) : (swapS ys t)[k]? = (ys[swN t k]?).map fun p => p.map (swI t) := by
 unfold swapS
 rw [List.getElem?_map, swapN_get h]
theorem swapS_shape {ys : List (List Int)} {t : Nat} (hs : IsShape ys) (h : t + 1 < ys.length) (hm : (t : Int) ∉ ys.getD (t + 1) []) : IsShape (swapS ys t) := by
 intro k p' hp'
 rw [swapS_get h] at hp'
 cases e : ys[swN t k]? with
 | none => rw [e] at hp'; cases hp'
 | some p =>
   rw [e] at hp'
   have hp : p.map (swI t) = p' := Option.some.inj hp'
   subst hp
   have F := hs _ _ e
   have face : ∀ f ∈ p, ∃ (m : Nat) (q : List Int), f = (m : Int) ∧ ys[m]? = some q ∧ lev q + 1 = lev p ∧ swN t m < k := by
     intro f hf
     obtain ⟨q, hq, hl⟩ := F.bel f hf
     have f0 := F.low f hf
     obtain ⟨m, rfl⟩ := Int.eq_ofNat_of_zero_le f0
     rw [Int.toNat_natCast, List.getElem?_take] at hq
     split at hq
     case isFalse => cases hq
     case isTrue hlt =>
       refine ⟨m, q, rfl, hq, hl, ?_⟩
       have hk : k = t → m ≠ t := by
         rintro rfl z
         subst z
         apply hm
         have : swN m m = m + 1 := by simp [swN]
         rw [this] at e
         rw [List.getD_eq_getElem?_getD, e]
         exact hf
       unfold swN at hlt ⊢
       repeat' split at hlt
       all_goals repeat' split
       all_goals first | omega | (have := hk (by assumption); omega)
   have look : ∀ (m : Nat) (q : List Int), ys[m]? = some q → swN t m < k → ((swapS ys t).take k)[(swI (t : Int) (m : Int)).toNat]? = some (q.map (swI t)) := by
     intro m q hq hlt
     rw [swI_nat, Int.toNat_natCast, List.getElem?_take, if_pos hlt, swapS_get h, swN_swN, hq]
     rfl
   refine ⟨by simpa using F.cnt, fun f' hf' => ?_, fun f' hf' => ?_, fun h3 i j f' g' q' r' hij hj hi hq' hr' => ?_⟩
   · obtain ⟨f, hf, rfl⟩ := List.mem_map.mp hf'
     obtain ⟨m, q, rfl, _⟩ := face f hf
     rw [swI_nat]
     omega
   · obtain ⟨f, hf, rfl⟩ := List.mem_map.mp hf'
     obtain ⟨m, q, rfl, hq, hl, hlt⟩ := face f hf
     refine ⟨_, look m q hq hlt, ?_⟩
     unfold lev at *
     rw [List.length_map, List.length_map]
     exact hl
   · rw [List.getElem?_map] at hj hi
     cases ej : p[j]? with
     | none => rw [ej] at hj; cases hj
     | some f =>
       cases ei : p[i]? with
       | none => rw [ei] at hi; cases hi
       | some g =>
         rw [ej] at hj
         rw [ei] at hi
         cases hj
         cases hi
         obtain ⟨m, q, rfl, hq, _, hlt⟩ := face f (List.mem_of_getElem? ej)
         obtain ⟨n, r, rfl, hr, _, hlt2⟩ := face g (List.mem_of_getElem? ei)
         rw [look m q hq hlt] at hq'
         rw [look n r hr hlt2] at hr'
         cases hq'
         cases hr'
         have below : ∀ (m : Nat) (q : List Int), (m : Int) ∈ p → ys[m]? = some q → (ys.take (swN t k))[((m : Nat) : Int).toNat]? = some q := by
           intro m q hm' hq
           obtain ⟨q2, hq2, _⟩ := F.bel _ hm'
           rw [Int.toNat_natCast] at hq2 ⊢
           rw [List.getElem?_take] at hq2 ⊢
           split at hq2
           case isFalse => cases hq2
           case isTrue z => rw [if_pos z]; exact hq
         have := F.agr (by simpa using h3) i j _ _ q r hij ej ei (below m q (List.mem_of_getElem? ej) hq) (below n r (List.mem_of_getElem? ei) hr)
         rw [List.getElem?_map, List.getElem?_map, this]
end Hb
namespace Hb
open PySem L2
noncomputable def swapO (os : List Int) (t : Nat) : List Int := os.take t ++ [os.getD (t + 1) 0, os.getD t 0] ++ os.drop (t + 2)
theorem swapN_len {ys : List (List Int)} {t : Nat} (h : t + 1 < ys.length) : (swapN ys t).length = ys.length := by
 unfold swapN
 simp only [List.length_append, List.length_take, List.length_drop, List.length_cons, List.length_nil]
 omega
theorem swapS_len {ys : List (List Int)} {t : Nat} (h : t + 1 < ys.length) : (swapS ys t).length = ys.length := by
 unfold swapS
 rw [List.length_map, swapN_len h]
theorem swapO_len {os : List Int} {t : Nat} (h : t + 1 < os.length) : (swapO os t).length = os.length := by
 unfold swapO
 simp only [List.length_append, List.length_take, List.length_drop, List.length_cons, List.length_nil]
 omega
inductive Turned (xs : List (List Int)) : List (List Int) → List Int → Prop
 | refl : Turned xs xs (upN xs.length)
 | step {ys : List (List Int)} {os : List Int} (t : Nat) : Turned xs ys os → t + 1 < ys.length → (t : Int) ∉ ys.getD (t + 1) [] → Turned xs (swapS ys t) (swapO os t)
theorem Turned.len {xs ys : List (List Int)} {os : List Int} (h : Turned xs ys os) : ys.length = xs.length ∧ os.length = xs.length := by
 induction h with
 | refl => exact ⟨rfl, upN_len _⟩
 | step t h1 h2 _ ih => exact ⟨(swapS_len h2).trans ih.1, (swapO_len (by omega)).trans ih.2⟩
theorem Turned.shape {xs ys : List (List Int)} {os : List Int} (h : Turned xs ys os) (hs : IsShape xs) : IsShape ys := by
 induction h with
 | refl => exact hs
 | step t h1 h2 h3 ih => exact swapS_shape ih h2 h3
theorem mem_getD_or {α : Type} {l : List α} {i : Nat} {d : α} : l.getD i d ∈ l ∨ l.getD i d = d := by
 rw [List.getD_eq_getElem?_getD]
 by_cases h : i < l.length
 · rw [List.getElem?_eq_getElem h]
   exact .inl (List.getElem_mem h)
 · rw [List.getElem?_eq_none (by omega)]
   exact .inr rfl
theorem mem_swapN {ys : List (List Int)} {t : Nat} {p : List Int} (h : p ∈ swapN ys t) : p ∈ ys ∨ p = [] := by
 unfold swapN at h
 simp only [List.mem_append, List.mem_cons, List.not_mem_nil, or_false] at h
 rcases h with (h | h | h) | h
 · exact .inl (List.mem_of_mem_take h)
 · subst h; exact mem_getD_or
 · subst h; exact mem_getD_or
 · exact .inl (List.mem_of_mem_drop h)
theorem Turned.le4 {xs ys : List (List Int)} {os : List Int} (h : Turned xs ys os) (h4 : ∀ x ∈ xs, x.length ≤ 4) : ∀ y ∈ ys, y.length ≤ 4 := by
 induction h with
 | refl => exact h4
 | step t h1 h2 _ ih =>
   intro y hy
   unfold swapS at hy
   obtain ⟨p, hp, rfl⟩ := List.mem_map.mp hy
   rw [List.length_map]
   rcases mem_swapN hp with q | q
   · exact ih p q
   · subst q; exact Nat.zero_le _
theorem shape_le4 {xs : List (List Int)} (h : IsShape xs) : ∀ x ∈ xs, x.length ≤ 4 := fun x hx => by
 obtain ⟨k, hk⟩ := List.getElem?_of_mem hx
 have := (h k x hk).cnt
 omega
theorem look_sw (t f : Int) : (lookI [(t, t + 1), (t + 1, t)] f).getD f = swI t f := by
 unfold lookI swI
 rw [List.find?_cons]
 by_cases h1 : t = f
 · subst h1
   simp
 · rw [show decide (t = f) = false by simpa using h1, List.find?_cons]
   by_cases h2 : t + 1 = f
   · subst h2
     have : ¬ t + 1 = t := by omega
     rw [decide_eq_true rfl, if_neg this, if_pos rfl]
     rfl
   · rw [show decide (t + 1 = f) = false by simpa using h2, List.find?_nil]
     rw [if_neg (fun z => h1 z.symm), if_neg (fun z => h2 z.symm)]
     rfl
theorem disp_sw (t : Int) : mergeK [] [(Sum.inl t, V.int (t + 1)), (Sum.inl (t + 1), V.int t)] = cK [(t, t + 1), (t + 1, t)] := by
 show putK (putK (cK []) (Sum.inl t) (V.int (t + 1))) (Sum.inl (t + 1)) (V.int t) = _
 rw [cK_put, cK_put]
 have : ¬ t = t + 1 := by omega
 simp [putI, this]
section
variable {K : PySem.W.Frag} {H : Hp}
theorem dgetC {a : Addr} {ms : List (Int × Int)} {k : Int} (rd : Rd H a (.dK (cK ms))) : DGet H a (.int k) ((lookI ms k).map V.int) := .inl ⟨cK ms, .inl k, rd, rfl, (cK_val ms k).symm⟩
theorem reps_swap {vs : List V} {ys : List (List Int)} {t : Nat} {va vb : V} (r : Reps K H vs (ys.map tI)) (ha : TI K H va (ys.getD t [])) (hb : TI K H vb (ys.getD (t + 1) [])) :
   Reps K H (cutV vs none (some (t : Int)) ++ [vb, va] ++ cutV vs (some ((t : Int) + 2)) none) ((swapN ys t).map tI) := by
 rw [cut_take, show ((t : Int) + 2) = ((t + 2 : Nat) : Int) by omega, cut_drop]
 unfold swapN
 rw [List.map_append, List.map_append, List.map_take, List.map_drop]
 exact ((r.take t).append ((Reps.one hb).append (Reps.one ha))).append (r.drop (t + 2))
theorem ints_swap {os : List Int} {t : Nat} : cutV (os.map V.int) none (some (t : Int)) ++ [V.int (os.getD (t + 1) 0), V.int (os.getD t 0)] ++ cutV (os.map V.int) (some ((t : Int) + 2)) none = (swapO os t).map V.int := by
 rw [cut_take, show ((t : Int) + 2) = ((t + 2 : Nat) : Int) by omega, cut_drop]
 unfold swapO
 simp
end
section
variable (K : PySem.W.Frag)
noncomputable def sp_L_turned_order : Sp := fun vs H Q _ => ∃ (a l : Addr) (ns : List Int) (xs : List (List Int)), vs = [.ref a, .ref l] ∧ LT K H (.ref a) xs ∧ SqL K H l (ns.map V.int) ∧ ns.length ≤ 63 ∧ xs.length ≤ 1000 ∧ (∀ x ∈ xs, x.length ≤ 4) ∧
 ∀ (R p o : Addr) (us : List V) (ys : List (List Int)) (os : List Int) (H' : Hp), Same H H' → H' R = some (.tup [.ref p, .ref o]) → H p = none → H o = none → H' p = some (.lst us) → H' o = some (.lst (os.map V.int)) → Reps K H' us (ys.map tI) → Turned xs ys os → Q (.ref R) H'
end
end Hb
namespace L2
open PySem PySem.Spec PyProof.Rows PySem.SeqAt
inductive DM where
 | d (d : D) | c (ms : List (Int × Int))
noncomputable def RepM (K : PySem.W.Frag) (H : Hp) (v : V) : DM → Prop
 | .d d => Rep K H v d ∧ dep d ≤ 6
 | .c ms => ∃ a, v = .ref a ∧ Rd H a (.dK (cK ms))
noncomputable def sameM : DM → DM → Prop
 | .d d, .d e => eqD d e = true
 | .c ms, .c ns => sameC ms ns = true
 | _, _ => False
noncomputable def LikeM (K : PySem.W.Frag) (H : Hp) (vs ws : List V) : Prop := vs.length = ws.length ∧ ∀ (i : Nat) (v w : V), vs[i]? = some v → ws[i]? = some w → ∃ a b, RepM K H v a ∧ RepM K H w b ∧ sameM a b
noncomputable def rMix (K : PySem.W.Frag) (r : Bool) : R2 := fun x y H Q => ∃ (l m : Addr) (vs ws : List V), x = .ref l ∧ y = .ref m ∧ SqL K H l vs ∧ SqL K H m ws ∧ LikeM K H vs ws ∧ Q (.bl r) H
section
variable {X : Cx} {n : Nat} {K : PySem.W.Frag}
theorem mix_at {pins : List (Addr × Obj)} {σ : St} {H : Hp} {s : Shared} {vs ws : List V} {its its' : List Value} (I : Inv X pins σ H s) (hu : X.A.units + 8 < cLine) (rv : Vals vs its) (rv' : Vals ws its') (L : LikeM X.K H vs ws) :
   ∀ (j : Nat) (h1 : j < its.toArray.size) (h2 : j < its'.toArray.size), EqAt X.A.in1 s its.toArray[j] its'.toArray[j] true := by
 intro j h1 h2
 have h1' : j < its.length := by simpa using h1
 have h2' : j < its'.length := by simpa using h2
 have l1 := rv.length
 have l2 := rv'.length
 have ea : vs[j]? = some (vs[j]'(by omega)) := by simp <;> omega
 have eb : ws[j]? = some (ws[j]'(by omega)) := by simp <;> omega
 obtain ⟨u, eu, ru⟩ := rv.get ea
 obtain ⟨u', eu', ru'⟩ := rv'.get eb
 have f1 : its.toArray[j] = u := by
   have : its[j]? = some its[j] := by simp
   rw [eu] at this
   have := (Option.some.inj this).symm
   simpa using this
 have f2 : its'.toArray[j] = u' := by
   have : its'[j]? = some its'[j] := by simp
   rw [eu'] at this
   have := (Option.some.inj this).symm
   simpa using this
 rw [f1, f2]
 obtain ⟨a, b, ra, rb, hs⟩ := L.2 j _ _ ea eb
 cases a with
 | d d =>
   cases b with
   | d e =>
     have hd := ra.2
     have := (eqD_ok I d X.A.in1 _ _ u u' e (by show X.A.units + 1 + dep d < cLine; omega) ra.1 rb.1 ru ru').2
     rw [show eqD d e = true from hs] at this
     exact this
   | c ns => exact hs.elim
 | c ms =>
   cases b with
   | d e => exact hs.elim
   | c ns =>
     obtain ⟨p, e1, hp⟩ := ra
     obtain ⟨p', e2, hp'⟩ := rb
     rw [e1] at ru
     rw [e2] at ru'
     cases ru
     cases ru'
     by_cases hab : p = p'
     · rw [hab]
       exact EqAt.same _
     · have r := RcAt.dicts (A := X.A.in1) (I.idict hp) (I.idict hp') (by show X.A.units + 1 < cLine; omega)
       rw [show (ms.length == ns.length && ms.all fun p => decide (lookI ns p.1 = some p.2)) = true from hs] at r
       exact EqAt.of_refs hab r
theorem op_eqMix (hu : X.A.units + 8 < cLine) : OpR X (compareOp .Eq) (rMix X.K true) := by
 intro pins s σ H x y v u Q I rx ry h
 obtain ⟨l, m, vs, ws, rfl, rfl, hl, hm, L, q⟩ := h
 cases rx
 cases ry
 obtain ⟨its, rv, p, _⟩ := I.list hl
 obtain ⟨its', rv', p', _⟩ := I.list hm
 have l1 := rv.length
 have l2 := rv'.length
 have l3 := L.1
 have main := RcAt.lists (A := X.A) (s := s) (e := fun _ => true) p.isList p'.isList (by simp; omega) (by omega) (mix_at I hu rv rv' L)
 have e0 : (List.range its.toArray.size).all (fun _ => true) = true := by simp
 rw [e0] at main
 exact main X.prog X.w X.xe _ ⟨.bl true, H, I, rfl, q⟩
theorem call_anyB (hc : X.calm = true) : CallR X (.builtin "any") (fun xs H Q => ∃ (p : Addr) (bs : List Bool), xs = [.ref p] ∧ SqL X.K H p (bs.map V.bl) ∧ Q (.bl (bs.any id)) H) := by
 intro pins s σ H xs us Q I r h
 obtain ⟨p, bs, rfl, hq, q⟩ := h
 obtain ⟨u, rfl, ru⟩ := vals1 r
 cases ru
 obtain ⟨its, rv, pl, hz⟩ := I.list hq
 have hh : X.A.handled = none := I.ok.hd hc
 have rel : ∀ (i : Nat) (v : Value), its.toArray[i]? = some v → ∃ b, bs[i]? = some b ∧ v = .bool b := fun i v e => by
   have e' : its[i]? = some v := by simpa using e
   have hlt : i < its.length := (List.getElem?_eq_some_iff.mp e').1
   have l1 := rv.length
   rw [List.length_map] at l1
   have hb : bs[i]? = some (bs[i]'(by omega)) := by simp <;> omega
   obtain ⟨u, hu, ru⟩ := rv.get (i := i) (x := V.bl (bs[i]'(by omega))) (by rw [List.getElem?_map, hb]; rfl)
   rw [e'] at hu
   cases hu
   exact ⟨_, hb, ru⟩
 refine call_any_walk (wpAny_pyIter_list pl.isList ?_)
 refine ⟨s.heap.objs.size, [s.heap.objs.size, p], [s.heap.objs.size], its.toArray.size, _, _, fun i => (bs[i]?).getD false, rfl, Walks.list (show X.A.in1.handled = none from hh) s.heap.objs.size p ?_ its.toArray, ⟨⟨_, Heap.get?_push_size _ rfl, rfl, rfl⟩, ?_⟩, ?_, fun h' tk k => ?_⟩
 · obtain ⟨o, _, ho, _⟩ := pl
   exact Nat.ne_of_lt (Heap.lt_size ho)
 · exact pl.isList.at fun o e => Heap.get?_push_of_some _ e
 · intro i v s' Q' E' hv hQ
   obtain ⟨b, hb, rfl⟩ := rel i v hv
   dsimp only at hQ
   rw [hb] at hQ
   exact wpAny_truthy_bool hQ
 · have e : (List.range its.toArray.size).any (fun i => (bs[i]?).getD false) = bs.any id := by
     have l1 := rv.length
     rw [List.length_map] at l1
     rw [List.size_toArray, ← l1]
     rw [Bool.eq_iff_iff, List.any_eq_true, List.any_eq_true]
     constructor
     · rintro ⟨i, hi, hx⟩
       have hlt := List.mem_range.mp hi
       have hb : bs[i]? = some bs[i] := by simp
       rw [hb] at hx
       exact ⟨_, List.getElem_mem hlt, hx⟩
     · rintro ⟨b, hb, hx⟩
       obtain ⟨i, hi⟩ := List.getElem?_of_mem hb
       refine ⟨i, List.mem_range.mpr (List.getElem?_eq_some_iff.mp hi).1, ?_⟩
       rw [hi]
       exact hx
   rw [e]
   have I1 : Inv X pins σ H { s with heap := h', toks := tk } := I.kept (fun b o e => k b o (by simp; exact Nat.ne_of_lt (Heap.lt_size e)) (Heap.get?_push_of_some _ e))
   exact ⟨.bl (bs.any id), H, I1, rfl, q⟩
theorem boot_anyB : bootBuiltins "any" = some (.builtin "any") := by decide +kernel
theorem kcall_anyB (hc : X.calm = true) (hK : X.K = K := by rfl) : CallR X (.builtin "any") (fun xs H Q => ∃ (p : Addr) (bs : List Bool), xs = [.ref p] ∧ SqL K H p (bs.map V.bl) ∧ Q (.bl (bs.any id)) H) := by subst hK; exact call_anyB hc
theorem kop_eqMix (hu : X.A.units + 8 < cLine) (hK : X.K = K := by rfl) : OpR X (compareOp .Eq) (rMix K true) := by subst hK; exact op_eqMix hu
end
end L2
namespace L2
open PySem PySem.Spec PyProof.Rows
section
variable {prog : Program} {w : World} {A : Around} {E : Value → Shared → Prop} {s : Shared}
end
section
variable {prog : Program} {w : World} {A : Around} {E : Value → Shared → Prop} {s : Shared}
end
section
variable {g : TG} {tc : TT} {te : TE} {D : Addr} {Q : Hp → Prop} {τ : St} {H : Hp}
end
end L2
namespace L2
open PySem PySem.Spec PyProof.Rows
open AutoSeq1 (wpAny_loadPart')
section
variable {prog : Program} {w : World} {A : Around} {E : Value → Shared → Prop} {s : Shared}
end
section
variable {g : TG} {tc : TT} {te : TE} {D : Addr} {Q : Hp → Prop} {τ : St} {H : Hp}
end
end L2
namespace Hb
theorem len2 {l : List Int} (h : l.length = 2) : ∃ a b, l = [a, b] := by
 match l, h with
 | [a, b], _ => exact ⟨a, b, rfl⟩
noncomputable def sg (i : Nat) : Int := 1 - 2 * ((i : Int) % 2)
end Hb
namespace Hb
open PySem L2
noncomputable def partB (xs : List (List Int)) (k p n : Int) : Bool := placeLev xs (.int p) k && decide (¬ n = 0)
noncomputable def chainB (xs : List (List Int)) (k : Int) (ms : Ms) : Bool := ms.all fun p => partB xs k p.1 p.2
noncomputable def StayX (b : Addr) (H H1 : Hp) : Prop := ∀ c q, c ≠ b → H c = some q → H1 c = some q
section
variable {K : PySem.W.Frag} {H H1 : Hp} {b : Addr} {m : List (Key × V)}
theorem SqL.x (s : StayX b H H1) (hb : H b = some (.dK m)) {a : Addr} {xs : List V} (h : SqL K H a xs) : SqL K H1 a xs := by
 rcases h with (h | ⟨o, h⟩) | h
 · exact .inl (.inl (s _ _ (fun z => by rw [z, hb] at h; cases h) h))
 · exact .inl (.inr ⟨o, s _ _ (fun z => by rw [z, hb] at h; cases h) h⟩)
 · exact .inr h
theorem SqT.x (s : StayX b H H1) (hb : H b = some (.dK m)) {a : Addr} {xs : List V} (h : SqT K H a xs) : SqT K H1 a xs := by
 rcases h with (h | ⟨o, h⟩) | h
 · exact .inl (.inl (s _ _ (fun z => by rw [z, hb] at h; cases h) h))
 · exact .inl (.inr ⟨o, s _ _ (fun z => by rw [z, hb] at h; cases h) h⟩)
 · exact .inr h
mutual
theorem Rep.x (s : StayX b H H1) (hb : H b = some (.dK m)) {v : V} {d : L2.D} (h : Rep K H v d) : Rep K H1 v d := by
 cases d with
 | non => exact h
 | bl b => exact h
 | int i => exact h
 | str x => exact h
 | tup ds =>
   obtain ⟨a, vs, e, q, r⟩ := h
   exact ⟨a, vs, e, SqT.x s hb q, Reps.x s hb r⟩
 | lst ds =>
   obtain ⟨a, vs, e, q, r⟩ := h
   exact ⟨a, vs, e, SqL.x s hb q, Reps.x s hb r⟩
theorem Reps.x (s : StayX b H H1) (hb : H b = some (.dK m)) {vs : List V} {ds : List L2.D} (h : Reps K H vs ds) : Reps K H1 vs ds := by
 cases ds with
 | nil => exact h
 | cons d r =>
   obtain ⟨v, q, e, h1, h2⟩ := h
   exact ⟨v, q, e, Rep.x s hb h1, Reps.x s hb h2⟩
end
end
section
variable (K : PySem.W.Frag)
end
end Hb
namespace Hb
open PySem L2
noncomputable def wF (φ : Int → Int) (ms : Ms) : Int := (ms.map fun p => p.2 * φ p.1).sum
theorem wF_nil (φ : Int → Int) : wF φ [] = 0 := rfl
theorem wF_cons (φ : Int → Int) (p : Int × Int) (ms : Ms) : wF φ (p :: ms) = p.2 * φ p.1 + wF φ ms := by
 unfold wF
 rw [List.map_cons, List.sum_cons]
theorem getI_nil (k : Int) : getI [] k = 0 := rfl
theorem wF_drop (φ : Int → Int) (k : Int) : ∀ {ms : Ms}, nd ms → wF φ (dropI ms k) = wF φ ms - getI ms k * φ k
 | [], _ => by show (0 : Int) = 0 - getI [] k * φ k; rw [getI_nil]; simp
 | p :: ms, h => by
   unfold nd at h
   rw [List.map_cons, List.nodup_cons] at h
   have ih := wF_drop φ k (ms := ms) h.2
   rw [getI_cons, wF_cons]
   by_cases e : p.1 = k
   · rw [if_pos e]
     have hd : dropI (p :: ms) k = dropI ms k := by unfold dropI; rw [List.filter_cons_of_neg (by simpa using e)]
     have hg : getI ms k = 0 := getI_out (by rw [← e]; exact h.1)
     rw [hd, ih, hg, ← e, Int.zero_mul]
     omega
   · rw [if_neg e]
     have hd : dropI (p :: ms) k = p :: dropI ms k := by unfold dropI; rw [List.filter_cons_of_pos (by simpa using e)]
     rw [hd, wF_cons, ih]
     omega
theorem wF_append (φ : Int → Int) (as bs : Ms) : wF φ (as ++ bs) = wF φ as + wF φ bs := by
 unfold wF
 rw [List.map_append, List.sum_append]
theorem wF_map (φ : Int → Int) (k v : Int) : ∀ {ms : Ms}, nd ms → k ∈ ms.map (·.1) → wF φ (ms.map fun p => if p.1 = k then (p.1, v) else p) = wF φ ms + (v - getI ms k) * φ k
 | [], _, h => by simp at h
 | p :: ms, h, hk => by
   unfold nd at h
   rw [List.map_cons, List.nodup_cons] at h
   rw [List.map_cons, wF_cons, wF_cons, getI_cons]
   by_cases e : p.1 = k
   · rw [if_pos e, if_pos e]
     have same : (ms.map fun p => if p.1 = k then (p.1, v) else p) = ms := by
       conv => rhs; rw [← List.map_id ms]
       apply List.map_congr_left
       intro q hq
       have : ¬ q.1 = k := fun z => h.1 (by rw [e, ← z]; exact List.mem_map_of_mem (f := (·.1)) hq)
       rw [if_neg this]
       rfl
     rw [same, e, Int.sub_mul]
     show v * φ k + wF φ ms = _
     omega
   · rw [if_neg e, if_neg e]
     have hk2 : k ∈ ms.map (·.1) := by
       rw [List.map_cons, List.mem_cons] at hk
       rcases hk with z | z
       · exact absurd z.symm e
       · exact z
     rw [wF_map φ k v h.2 hk2]
     omega
theorem wF_put (φ : Int → Int) {ms : Ms} (h : nd ms) (k v : Int) : wF φ (putI ms k v) = wF φ ms + (v - getI ms k) * φ k := by
 by_cases hk : k ∈ ms.map (·.1)
 · unfold putI
   rw [if_pos (any_key.mpr hk), wF_map φ k v h hk]
 · rw [put_new hk, wF_append, getI_out hk, wF_cons, wF_nil]
   simp
theorem wF_add (φ : Int → Int) {ms : Ms} (h : nd ms) (k n : Int) : wF φ (addI ms k n) = wF φ ms + n * φ k := by
 unfold addI
 split
 · rename_i e
   rw [wF_drop φ k h]
   have : getI ms k = -n := by omega
   rw [this, Int.neg_mul]
   omega
 · rw [wF_put φ h, show getI ms k + n - getI ms k = n by omega]
noncomputable def face (xs : List (List Int)) (φ : Int → Int) (p : Int) : Int := sumN (fun j => sg j * φ ((xs.getD p.toNat []).getD j 0)) (xs.getD p.toNat []).length
noncomputable def dl (e k : Int) : Int := if k = e then 1 else 0
theorem wF_dl (e : Int) : ∀ {ms : Ms}, nd ms → wF (dl e) ms = getI ms e
 | [], _ => rfl
 | p :: ms, h => by
   unfold nd at h
   rw [List.map_cons, List.nodup_cons] at h
   rw [wF_cons, getI_cons, wF_dl e h.2]
   unfold dl
   by_cases z : p.1 = e
   · rw [if_pos z, if_pos z, getI_out (by rw [← z]; exact h.1)]
     omega
   · rw [if_neg z, if_neg z]
     omega
end Hb
namespace Hb
open PySem L2
noncomputable def lenOk (n : Nat) (k : Int) : Bool := decide ((n : Int) = k + 1) || (decide (k = 0) && decide (n = 0))
noncomputable def spN (xs : List (List Int)) (k : Int) : Nat → List Int
 | 0 => []
 | i + 1 => if lenOk (xs.getD i []).length k = true then spN xs k i ++ [(i : Int)] else spN xs k i
noncomputable def spots (xs : List (List Int)) (k : Int) : List Int := spN xs k xs.length
theorem spN_len (xs : List (List Int)) (k : Int) : ∀ i, (spN xs k i).length ≤ i
 | 0 => Nat.le_refl _
 | i + 1 => by
   have := spN_len xs k i
   unfold spN
   split
   · rw [List.length_append, List.length_singleton]; omega
   · omega
theorem spN_yes {xs : List (List Int)} {k : Int} {i : Nat} (h : lenOk (xs.getD i []).length k = true) : spN xs k (i + 1) = spN xs k i ++ [(i : Int)] := by
 show (if _ then _ else _) = _
 rw [if_pos h]
theorem spN_no {xs : List (List Int)} {k : Int} {i : Nat} (h : ¬ lenOk (xs.getD i []).length k = true) : spN xs k (i + 1) = spN xs k i := by
 show (if _ then _ else _) = _
 rw [if_neg h]
theorem spN_mem {xs : List (List Int)} {k p : Int} : ∀ {i}, p ∈ spN xs k i → 0 ≤ p ∧ p < (i : Int) ∧ lenOk (xs.getD p.toNat []).length k = true
 | 0, h => by cases h
 | i + 1, h => by
   unfold spN at h
   split at h
   · rename_i e
     rcases List.mem_append.mp h with h | h
     · obtain ⟨h1, h2, h3⟩ := spN_mem h
       exact ⟨h1, by omega, h3⟩
     · have : p = (i : Int) := by simpa using h
       subst this
       refine ⟨by omega, by omega, ?_⟩
       rw [Int.toNat_natCast]
       exact e
   · obtain ⟨h1, h2, h3⟩ := spN_mem h
     exact ⟨h1, by omega, h3⟩
theorem lenOk_lev {n : Nat} {k : Int} (hc : n = 0 ∨ n = 2 ∨ n = 3 ∨ n = 4) (h0 : 0 ≤ k) (h : lenOk n k = true) : levI n = k := by
 unfold lenOk at h
 rw [Bool.or_eq_true, Bool.and_eq_true] at h
 unfold levI
 rcases h with h | ⟨h1, h2⟩
 · have e : (n : Int) = k + 1 := of_decide_eq_true h
   split <;> omega
 · have e1 : k = 0 := of_decide_eq_true h1
   have e2 : n = 0 := of_decide_eq_true h2
   split <;> omega
theorem wF_cut (φ : Int → Int) : ∀ ms : Ms, wF φ (cutI ms) = wF φ ms
 | [] => rfl
 | p :: ms => by
   have ih := wF_cut φ ms
   unfold cutI at ih ⊢
   by_cases z : p.2 = 0
   · rw [List.filter_cons_of_neg (by simpa using z), ih, wF_cons, z]
     simp
   · rw [List.filter_cons_of_pos (by simpa using z), wF_cons, wF_cons, ih]
section
variable (K : PySem.W.Frag)
noncomputable def sp_L_spots_of : Sp := fun vs H Q _ => ∃ (a : Addr) (xs : List (List Int)) (k : Int), vs = [.ref a, .int k] ∧ LT K H (.ref a) xs ∧ 0 ≤ k ∧ k < 5 ∧ xs.length ≤ 1000 ∧
 ∀ (D : Addr) (H' : Hp), H D = none → Same H H' → H' D = some (.lst ((spots xs k).map V.int)) → Q (.ref D) H'
noncomputable def sp_L_chain_by : Sp := fun vs H Q _ => ∃ (l c : Addr) (sp ns : List Int), vs = [.ref l, .ref c] ∧ SqL K H l (sp.map V.int) ∧ SqL K H c (ns.map V.int) ∧ sp.length ≤ 1000 ∧ ns.length ≤ 63 ∧
 ∀ (D : Addr) (H' : Hp) (ms : Ms), H D = none → Same H H' → H' D = some (.dK (cK ms)) → nd ms → nz ms → (∀ p ∈ ms, p.1 ∈ sp ∧ p.2.natAbs < 2 ^ 70) → ms.length ≤ 63 → Q (.ref D) H'
end
end Hb
namespace Hb
open PySem L2
end Hb
namespace L2
open PySem PySem.Spec PyProof.Rows
end L2
namespace Hb
open PySem L2
end Hb
namespace L2
open PySem PySem.Spec PyProof.Rows
noncomputable abbrev TJ := St → Hp → (Hp → Prop) → Prop
noncomputable def tJN : TJ := fun _ H Q => Q H
noncomputable def tJC (te : TE) (tj : TJ) : TJ := fun σ H Q => te σ H fun v H1 => ∃ y : Str, v = .str y ∧ y.length ≤ 100000 ∧ tj σ H1 Q
noncomputable def PJ (X : Cx) (es : List Expr) (tj : TJ) : Prop := ∀ (pins : List (Addr × Obj)) (s : Shared) (σ : St) (H : Hp) (acc : Str) (Q : Hp → Prop), Inv X pins σ H s → acc.length + 100000 * es.length ≤ 1000000 → tj σ H Q →
 Joins (model X.prog X.w) X.A X.xe (evalEach es X.env) acc (fun out s' => out.length ≤ 1000000 ∧ ∃ H', Inv X pins σ H' s' ∧ Q H') s
theorem joins_mono {M : Model} {A : Around} {E : Value → Shared → Prop} : ∀ {parts : List (Sem Value)} {acc : Str} {Q Q' : Str → Shared → Prop} {s : Shared}, Joins M A E parts acc Q s → (∀ x s, Q x s → Q' x s) → Joins M A E parts acc Q' s
 | [], acc, Q, Q', s, h, f => f _ _ h
 | x :: rest, acc, Q, Q', s, h, f => wpAny_mono (show wpAny M A x _ E s from h) (fun v s1 ⟨y, t, e, hz, hr⟩ => ⟨y, t, e, hz, joins_mono hr f⟩) fun _ _ z => z
section
variable {X : Cx} {e v₁ v₂ : Expr} {es rest : List Expr} {te : TE} {tj : TJ} {pos : Pos}
theorem pj_nil : PJ X [] tJN := fun pins s σ H acc Q I hl h => ⟨by simpa using hl, H, I, h⟩
theorem pj_cons (he : PE X e te) (hr : PJ X es tj) : PJ X (e :: es) (tJC te tj) := by
 intro pins s σ H acc Q I hl h
 show wpAny _ _ (eval e X.env) _ _ s
 refine thn (he pins s σ H _ I h) fun u s1 ⟨v, H1, I1, r, y, ev, hy, q⟩ => ?_
 subst ev
 obtain ⟨t, rfl⟩ := r
 have hl2 : (acc ++ y).length = acc.length + y.length := strLen_append ..
 have hl3 : acc.length + 100000 * (es.length + 1) ≤ 1000000 := hl
 refine ⟨y, t, rfl, ?_, hr pins s1 σ H1 (acc ++ y) Q I1 (by rw [hl2]; omega) q⟩
 rw [hl2, sizeLine_eq]
 omega
noncomputable def tFstr (tj : TJ) : TE := fun σ H Q => tj σ H fun H' => ∀ x : Str, x.length ≤ 1000000 → Q (.str x) H'
theorem pe_fstr (h : PJ X (v₁ :: v₂ :: rest) tj) (hl : rest.length ≤ 7 := by decide) : PE X (.JoinedStr (v₁ :: v₂ :: rest) pos) (tFstr tj) := by
 intro pins s σ H Q I hw
 refine wpAny_JoinedStr (joins_mono (h pins s σ H Str.empty _ I ?_ hw) fun out s' ⟨hz, H', I', q⟩ => ⟨?_, .str out, H', I'.tok _, ⟨_, rfl⟩, q out hz⟩)
 · show 0 + 100000 * (rest.length + 2) ≤ 1000000
   omega
 · rw [sizeLine_eq]; omega
noncomputable def tFmt (te : TE) : TE := fun σ H Q => te σ H fun v H1 => (∃ i : Int, v = .int i ∧ i.natAbs.log2 < 1920 ∧ ∀ x : Str, x.length ≤ 100000 → Q (.str x) H1) ∨ ∃ x : Str, v = .str x ∧ x.length ≤ 100000 ∧ Q (.str x) H1
theorem pe_fmt (he : PE X e te) : PE X (.FormattedValue e (-1) none pos) (tFmt te) := by
 intro pins s σ H Q I hw
 refine wpAny_FormattedValue_plain (thn (he pins s σ H _ I hw) fun u s1 ⟨v, H1, I1, r, q⟩ => ?_)
 rcases q with ⟨i, rfl, hi, q⟩ | ⟨x, rfl, hx, q⟩
 · obtain ⟨t, rfl⟩ := r
   refine PySem.wpAny_formatField_int hi ⟨.str (toString i), H1, I1.tok _, ⟨_, rfl⟩, q _ ?_⟩
   have := int_text_length_le (k := 1920) (by decide) hi
   rw [PySem.ofString_length]
   omega
 · obtain ⟨t, rfl⟩ := r
   exact PySem.wpAny_formatField_str ⟨.str x, H1, I1, ⟨_, rfl⟩, q⟩ ⟨.str x, H1, I1.tok _, ⟨_, rfl⟩, q⟩ (by rw [sizeLine_eq]; omega)
end
end L2
namespace Hb
open PySem L2
noncomputable def plcN (xs : List (List Int)) (k : Int) (n : Nat) : List Int := ((List.range n).filter fun j => decide (levI (xs.getD j []).length = k)).map fun (j : Nat) => (j : Int)
noncomputable def plc (xs : List (List Int)) (k : Int) : List Int := plcN xs k xs.length
theorem plcN_yes {xs : List (List Int)} {k : Int} {n : Nat} (h : levI (xs.getD n []).length = k) : plcN xs k (n + 1) = plcN xs k n ++ [(n : Int)] := by
 unfold plcN
 rw [List.range_succ, List.filter_append, List.map_append, List.filter_cons_of_pos (by simpa using h)]
 rfl
theorem plcN_no {xs : List (List Int)} {k : Int} {n : Nat} (h : ¬ levI (xs.getD n []).length = k) : plcN xs k (n + 1) = plcN xs k n := by
 unfold plcN
 rw [List.range_succ, List.filter_append, List.map_append, List.filter_cons_of_neg (by simpa using h)]
 simp
theorem plcN_len (xs : List (List Int)) (k : Int) (n : Nat) : (plcN xs k n).length ≤ n := by
 unfold plcN
 rw [List.length_map]
 have := List.length_filter_le (fun j => decide (levI (xs.getD j []).length = k)) (List.range n)
 simpa using this
section
variable (K : PySem.W.Frag)
noncomputable def sp_places_of_level : Sp := fun vs H Q _ => ∃ (a : Addr) (i : Int) (xs : List (List Int)), vs = [.ref a, .int i] ∧ LT K H (.ref a) xs ∧ xs.length ≤ 1000 ∧
 ∀ (D : Addr) (H' : Hp), H D = none → Same H H' → H' D = some (.lst ((plc xs i).map V.int)) → Q (.ref D) H'
end
end Hb
namespace Hb
open PySem L2
noncomputable abbrev VI (n : Nat) (f : Nat → Int) : List V := (lsI n f).map V.int
noncomputable def dL (n : Nat) (f : Nat → Int) : L2.D := .lst (nums (lsI n f))
noncomputable def dT (h w : Nat) (f : Nat → Nat → Int) : L2.D := .lst ((List.range h).map fun i => dL w (f i))
section
variable {K : PySem.W.Frag} {H H' H1 H2 : Hp}
structure Rows (H H1 : Hp) (D : Addr) (as : List Addr) (w : Nat) (f : Nat → Nat → Int) : Prop where
 same : Same H H1
 free : H D = none
 «at» : H1 D = some (.lst (as.map V.ref))
 row : ∀ j a, as[j]? = some a → H a = none ∧ a ≠ D ∧ H1 a = some (.lst (VI w (f j)))
end
end Hb
namespace Hb
open PySem L2
theorem lev_lenOk {n : Nat} {k : Int} (hc : n = 0 ∨ n = 2 ∨ n = 3 ∨ n = 4) (h : levI n = k) : lenOk n k = true := by
 unfold levI at h
 unfold lenOk
 rw [Bool.or_eq_true, Bool.and_eq_true]
 by_cases e : n = 0
 · subst e
   have : k = 0 := by split at h <;> omega
   exact .inr ⟨decide_eq_true this, rfl⟩
 · refine .inl (decide_eq_true ?_)
   split at h <;> omega
theorem plc_mem {xs : List (List Int)} {k p : Int} (h : p ∈ plc xs k) : 0 ≤ p ∧ p < (xs.length : Int) ∧ levI (xs.getD p.toNat []).length = k := by
 unfold plc plcN at h
 obtain ⟨j, hj, rfl⟩ := List.mem_map.mp h
 have h1 := List.mem_filter.mp hj
 have h2 := List.mem_range.mp h1.1
 refine ⟨by omega, by omega, ?_⟩
 rw [Int.toNat_natCast]
 simpa using h1.2
section
variable (K : PySem.W.Frag)
end
end Hb
namespace Hb
open PySem L2
noncomputable def CntOk (xs : List (List Int)) : Prop := ∀ (i : Nat) (x : List Int), xs[i]? = some x → x.length = 0 ∨ x.length = 2 ∨ x.length = 3 ∨ x.length = 4
theorem cnt_le4 {xs : List (List Int)} (h : CntOk xs) : ∀ x ∈ xs, x.length ≤ 4 := fun x hx => by
 obtain ⟨i, hi⟩ := List.mem_iff_getElem?.mp hx
 rcases h i x hi with e | e | e | e <;> rw [e] <;> decide
theorem cnt_at {xs : List (List Int)} (h : CntOk xs) {i : Nat} (hi : i < xs.length) : (xs.getD i []).length = 0 ∨ (xs.getD i []).length = 2 ∨ (xs.getD i []).length = 3 ∨ (xs.getD i []).length = 4 :=
 h i _ (by rw [List.getD_eq_getElem?_getD, List.getElem?_eq_getElem hi]; rfl)
theorem spots_plcC {xs : List (List Int)} (hs : CntOk xs) {k : Int} (h0 : 0 ≤ k) : spots xs k = plc xs k := by
 have : ∀ i, i ≤ xs.length → spN xs k i = plcN xs k i := by
   intro i
   induction i with
   | zero => intro _; rfl
   | succ i ih =>
     intro hi
     have hc := cnt_at hs hi
     by_cases e : levI (xs.getD i []).length = k
     · rw [spN_yes (lev_lenOk hc e), plcN_yes e, ih (Nat.le_of_succ_le hi)]
     · rw [spN_no (fun z => e (lenOk_lev hc h0 z)), plcN_no e, ih (Nat.le_of_succ_le hi)]
 exact this _ (Nat.le_refl _)
theorem chain_of_spotsC {xs : List (List Int)} (hs : CntOk xs) {k : Int} (h0 : 0 ≤ k) {ms : Ms} (hz : nz ms) (hm : ∀ p ∈ ms, p.1 ∈ spots xs k) : chainB xs k ms = true ∧ ∀ p ∈ ms, 0 ≤ p.1 ∧ p.1 < (xs.length : Int) ∧ levI (xs.getD p.1.toNat []).length = k := by
 have key : ∀ p ∈ ms, 0 ≤ p.1 ∧ p.1 < (xs.length : Int) ∧ levI (xs.getD p.1.toNat []).length = k := fun p hp => plc_mem (by rw [← spots_plcC hs h0]; exact hm p hp)
 refine ⟨List.all_eq_true.mpr fun p hp => ?_, key⟩
 obtain ⟨a, b, c⟩ := key p hp
 show ((decide (0 ≤ p.1) && decide (p.1 < (xs.length : Int)) && decide (levI (xs.getD p.1.toNat []).length = k)) && decide (¬ p.2 = 0)) = true
 rw [decide_eq_true a, decide_eq_true b, decide_eq_true c, decide_eq_true (hz p hp)]
 rfl
noncomputable def Sca : V → Prop
 | .non => True | .bl _ => True | .int _ => True | .str _ => True | _ => False
noncomputable def vD : V → L2.D
 | .non => .non | .bl b => .bl b | .int i => .int i | .str x => .str x | .ref _ => .tup [.int 0] | _ => .non
theorem Sca.rep {K : PySem.W.Frag} {H : Hp} {v : V} (h : Sca v) : Rep K H v (vD v) := by
 cases v <;> first | rfl | exact h.elim
noncomputable def KeyR (H : Hp) (v : V) : Prop := Sca v ∨ ∃ t, v = .ref t ∧ H t = some (.tup [.int 0])
theorem KeyR.rep {K : PySem.W.Frag} {H : Hp} {v : V} (h : KeyR H v) : Rep K H v (vD v) := by
 rcases h with h | ⟨t, rfl, ht⟩
 · exact h.rep
 · exact ⟨t, [.int 0], rfl, .of ht, .int 0, [], rfl, rfl, rfl⟩
theorem KeyR.same {H H' : Hp} {v : V} (s : Same H H') (h : KeyR H v) : KeyR H' v := by
 rcases h with h | ⟨t, rfl, ht⟩
 · exact .inl h
 · exact .inr ⟨t, rfl, s _ _ ht⟩
noncomputable def nzD : L2.D → Bool
 | .int n => decide (¬ n = 0)
 | _ => false
noncomputable def partD (xs : List (List Int)) (k : Int) (d e : L2.D) : Bool := placeLev xs d k && nzD e
theorem partD_key {xs : List (List Int)} {k : Int} {d e : L2.D} (h : placeLev xs d k = false) : partD xs k d e = false := by unfold partD; rw [h]; rfl
theorem partD_num {xs : List (List Int)} {k : Int} {d e : L2.D} (h : nzD e = false) : partD xs k d e = false := by unfold partD; rw [h]; simp
theorem whole_num {e : L2.D} (h : wholeD e = true) : ∃ n, e = .int n := by
 cases e with
 | int n => exact ⟨n, rfl⟩
 | _ => exact nomatch (show false = true from h)
theorem nz_whole {e : L2.D} (h : wholeD e = false) : nzD e = false := by
 cases e with
 | int n => exact nomatch (show true = false from h)
 | _ => rfl
theorem sca_dict {x : V} (h : Sca x) : isA "dict" (.d (vD x)) = false := by
 cases x <;> first | rfl | exact h.elim
theorem sca_key (k : Key) : Sca (kV k) := by cases k <;> exact True.intro
theorem any_numO (x : List Int) (p : Int) : (nums x).any (fun e => eqD e (.int p)) = decide (p ∈ x) := by
 unfold nums
 rw [List.any_map]
 by_cases h : p ∈ x
 · rw [decide_eq_true h]
   exact List.any_eq_true.mpr ⟨p, h, by simp [eqD]⟩
 · rw [decide_eq_false h]
   rw [List.any_eq_false]
   intro y hy
   have : y ≠ p := fun e => h (e ▸ hy)
   simpa [eqD] using this
theorem rep_ints {K : PySem.W.Frag} {H : Hp} {l : Addr} {ns : List Int} (h : SqL K H l (ns.map V.int)) : SeqD K H (.ref l) (nums ns) := .inl ⟨l, _, rfl, h, reps_nums.mpr rfl⟩
inductive TT where
 | data (d : L2.D) | lst | dk (kvs : List (Key × V)) | odd (kvs : List (V × V))
noncomputable def ThingAt (H : Hp) (x : V) : TT → Prop
 | .data d => Sca x ∧ d = vD x
 | .lst => ∃ a us, x = .ref a ∧ H a = some (.lst us)
 | .dk kvs => ∃ a, x = .ref a ∧ H a = some (.dK kvs) ∧ kvs.length ≤ 1000 ∧ ∀ p ∈ kvs, Sca p.2
 | .odd kvs => ∃ a, x = .ref a ∧ OddAt H a kvs ∧ kvs.length ≤ 1000 ∧ ∀ p ∈ kvs, KeyR H p.1 ∧ Sca p.2
theorem OddAt.same {H H' : Hp} {a : Addr} {kvs : List (V × V)} (s : Same H H') (h : OddAt H a kvs) : OddAt H' a kvs := by
 obtain ⟨h1, o, h2, h3⟩ := h
 exact ⟨h1, o, s _ _ h2, h3⟩
theorem ThingAt.same {H H' : Hp} {x : V} {t : TT} (s : Same H H') (h : ThingAt H x t) : ThingAt H' x t := by
 cases t with
 | data d => exact h
 | lst => obtain ⟨a, us, e, h⟩ := h; exact ⟨a, us, e, s _ _ h⟩
 | dk kvs => obtain ⟨a, e, h, r⟩ := h; exact ⟨a, e, s _ _ h, r⟩
 | odd kvs => obtain ⟨a, e, h, l, r⟩ := h; exact ⟨a, e, OddAt.same s h, l, fun p hp => ⟨(r p hp).1.same s, (r p hp).2⟩⟩
noncomputable def chainT (xs : List (List Int)) (k : Int) : TT → Bool
 | .data _ => false
 | .lst => false
 | .dk kvs => kvs.all fun p => partD xs k (vD (kV p.1)) (vD p.2)
 | .odd kvs => kvs.all fun p => partD xs k (vD p.1) (vD p.2)
theorem chainT_cK (xs : List (List Int)) (k : Int) (ms : Ms) : chainT xs k (.dk (cK ms)) = chainB xs k ms := by
 show ((cK ms).all fun p => partD xs k (vD (kV p.1)) (vD p.2)) = chainB xs k ms
 unfold chainB cK
 rw [List.all_map]
 rfl
theorem thing_cK {H : Hp} {b : Addr} {ms : Ms} (h : H b = some (.dK (cK ms))) (hl : ms.length ≤ 1000) : ThingAt H (.ref b) (.dk (cK ms)) := by
 refine ⟨b, rfl, h, by rw [cK_len]; exact hl, fun p hp => ?_⟩
 unfold cK at hp
 obtain ⟨q, _, rfl⟩ := List.mem_map.mp hp
 exact True.intro
theorem chain_other {xs : List (List Int)} {k k' : Int} {ms : Ms} (hne : k ≠ k') (h0 : ms.length ≠ 0) (hm : ∀ p ∈ ms, 0 ≤ p.1 ∧ p.1 < (xs.length : Int) ∧ levI (xs.getD p.1.toNat []).length = k) : chainB xs k' ms = false := by
 cases ms with
 | nil => exact absurd rfl h0
 | cons p r =>
   obtain ⟨_, _, c⟩ := hm p List.mem_cons_self
   have : partB xs k' p.1 p.2 = false := by
     show ((decide (0 ≤ p.1) && decide (p.1 < (xs.length : Int)) && decide (levI (xs.getD p.1.toNat []).length = k')) && decide (¬ p.2 = 0)) = false
     rw [decide_eq_false (show ¬ levI (xs.getD p.1.toNat []).length = k' by omega)]
     simp
   unfold chainB
   rw [List.all_cons, this]
   rfl
theorem place_not {xs : List (List Int)} (hs : CntOk xs) {k : Int} (h0 : 0 ≤ k) {p : Int} (h : p ∉ spots xs k) : placeLev xs (.int p) k = false := by
 cases e : placeLev xs (.int p) k with
 | false => rfl
 | true =>
   refine absurd ?_ h
   have e' : (decide (0 ≤ p) && decide (p < (xs.length : Int)) && decide (levI (xs.getD p.toNat []).length = k)) = true := e
   simp only [Bool.and_eq_true, decide_eq_true_eq] at e'
   rw [spots_plcC hs h0]
   unfold plc plcN
   refine List.mem_map.mpr ⟨p.toNat, List.mem_filter.mpr ⟨List.mem_range.mpr (by omega), by simpa using e'.2⟩, by omega⟩
theorem place_one {xs : List (List Int)} {k k' p : Int} (h : placeLev xs (.int p) k = true) (hne : k' ≠ k) : placeLev xs (.int p) k' = false := by
 have e' : (decide (0 ≤ p) && decide (p < (xs.length : Int)) && decide (levI (xs.getD p.toNat []).length = k)) = true := h
 simp only [Bool.and_eq_true, decide_eq_true_eq] at e'
 show (decide (0 ≤ p) && decide (p < (xs.length : Int)) && decide (levI (xs.getD p.toNat []).length = k')) = false
 rw [decide_eq_false (show ¬ levI (xs.getD p.toNat []).length = k' by omega)]
 simp
theorem place_spot {xs : List (List Int)} (hs : CntOk xs) {k : Int} (h0 : 0 ≤ k) {p : Int} (h : p ∈ spots xs k) : placeLev xs (.int p) k = true := by
 rw [spots_plcC hs h0] at h
 obtain ⟨a, b, c⟩ := plc_mem h
 show (decide (0 ≤ p) && decide (p < (xs.length : Int)) && decide (levI (xs.getD p.toNat []).length = k)) = true
 rw [decide_eq_true a, decide_eq_true b, decide_eq_true c]
 rfl
theorem place_out {xs : List (List Int)} {k p : Int} (h : p < 0 ∨ (xs.length : Int) ≤ p) : placeLev xs (.int p) k = false := by
 show (decide (0 ≤ p) && decide (p < (xs.length : Int)) && decide (levI (xs.getD p.toNat []).length = k)) = false
 rcases h with h | h
 · rw [decide_eq_false (show ¬ 0 ≤ p by omega)]; rfl
 · rw [decide_eq_false (show ¬ p < (xs.length : Int) by omega)]; simp
theorem idx_mod (ns : List Int) (z : Int) (h0 : ns.length ≠ 0) : ∃ v ∈ ns, atI (ns.map V.int) (z % ((ns.map V.int).length : Int)) = some (.int v) := by
 rw [List.length_map]
 have q0 : 0 ≤ z % (ns.length : Int) := Int.emod_nonneg _ (by omega)
 have q1 : z % (ns.length : Int) < (ns.length : Int) := Int.emod_lt_of_pos _ (by omega)
 obtain ⟨j, hj⟩ := Int.eq_ofNat_of_zero_le q0
 rw [hj] at q1 ⊢
 have hjl : j < ns.length := by omega
 exact ⟨ns[j], List.getElem_mem hjl, atI_nat (by rw [List.getElem?_map, List.getElem?_eq_getElem hjl]; rfl)⟩
theorem ways3 {w : Int} (h : w > 9) (h2 : w < 13) : w = 10 ∨ w = 11 ∨ w = 12 := by omega
theorem ways4 {w : Int} (h : 0 ≤ w) (h2 : w < 4) : w = 0 ∨ w = 1 ∨ w = 2 ∨ w = 3 := by omega
theorem ways5 {w : Int} (h : 4 < w) (h2 : w < 9) : w = 5 ∨ w = 6 ∨ w = 7 ∨ w = 8 := by omega
theorem map_pos {ns : List Int} (h : ns.length ≠ 0) : (0 : Int) < ((ns.map V.int).length : Int) := by rw [List.length_map]; omega
theorem pos_map {ns : List Int} (h : (0 : Int) < ((ns.map V.int).length : Int)) : ns.length ≠ 0 := by rw [List.length_map] at h; omega
theorem pos_cK {ms : Ms} (h : (0 : Int) < ((cK ms).length : Int)) : ms.length ≠ 0 := by rw [cK_len] at h; omega
theorem cK_pos {ms : Ms} : (0 : Int) < ((cK ms).length : Int) + 1 := by omega
theorem sm0 {n i m : Nat} (h : n ≤ 2 * i) (hi : i < m) (hm : m ≤ 63) : n < sizeLine := small (by omega)
theorem sm1 {n i m : Nat} (h : n ≤ 2 * i + 1) (hi : i < m) (hm : m ≤ 63) : n < sizeLine := small (by omega)
theorem sm2 {n m : Nat} (h : n ≤ 2 * m) (hm : m ≤ 63) : n < sizeLine := small (by omega)
theorem sm9 {n m : Nat} (h : n ≤ 2 * m + 1) (hm : m ≤ 63) : n ≤ 1000 := by omega
noncomputable def Bad (xs : List (List Int)) (k : Int) (ms : Ms) (kv nv : V) : Prop := (∀ k', partD xs k' (vD kv) (vD nv) = false) ∨ ∃ p, kv = .int p ∧ p ∉ spots xs k ∧ ms.length ≠ 0
noncomputable def KeyX (H : Hp) (kv : V) : Prop := (∃ kk : Key, kv = kV kk) ∨ (IsKey H kv ∧ KeyR H kv ∧ ∀ i, kv ≠ .int i)
theorem any_keyV {kvs : List (Key × V)} {k : Key} : ¬ (kvs.any fun kv => decide (kv.1 = k)) = true → ∀ p ∈ kvs, p.1 ≠ k := fun h p hp e => h (List.any_eq_true.mpr ⟨p, hp, decide_eq_true e⟩)
theorem mem_putV {kvs : List (Key × V)} {k : Key} {v : V} {p : Key × V} (h : p ∈ putK kvs k v) : p = (k, v) ∨ (p ∈ kvs ∧ p.1 ≠ k) := by
 unfold putK at h
 split at h
 · obtain ⟨q, hq, e⟩ := List.mem_map.mp h
   by_cases z : q.1 = k
   · rw [if_pos z] at e
     exact .inl (by rw [← e, z])
   · rw [if_neg z] at e
     subst e
     exact .inr ⟨hq, z⟩
 · rename_i ha
   rcases List.mem_append.mp h with h | h
   · exact .inr ⟨h, any_keyV ha p h⟩
   · exact .inl (by simpa using h)
theorem putV_self (kvs : List (Key × V)) (k : Key) (v : V) : (k, v) ∈ putK kvs k v := by
 unfold putK
 split
 · rename_i ha
   obtain ⟨q, hq, e⟩ := List.any_eq_true.mp ha
   have e' : q.1 = k := of_decide_eq_true e
   exact List.mem_map.mpr ⟨q, hq, by rw [if_pos e', e']⟩
 · exact List.mem_append_right _ (by simp)
theorem putV_keep {kvs : List (Key × V)} {k : Key} {v : V} {p : Key × V} (h : p ∈ kvs) : ∃ v', (p.1, v') ∈ putK kvs k v := by
 unfold putK
 split
 · by_cases z : p.1 = k
   · exact ⟨v, List.mem_map.mpr ⟨p, h, by rw [if_pos z]⟩⟩
   · exact ⟨p.2, List.mem_map.mpr ⟨p, h, by rw [if_neg z]⟩⟩
 · exact ⟨p.2, List.mem_append_left _ h⟩
structure InvA (ms : Ms) (kk : Key) (nv : V) (kvs : List (Key × V)) (i n : Nat) : Prop where
 len : kvs.length ≤ n
 sca : ∀ p ∈ kvs, Sca p.2
 own : ∀ p ∈ kvs, p.1 = kk → p.2 = nv
 all : ∀ (j : Nat) (q : Int × Int), j < i → ms[j]? = some q → (Sum.inl q.1 : Key) ≠ kk → ∃ v, ((Sum.inl q.1 : Key), v) ∈ kvs
theorem InvA.new (ms : Ms) (kk : Key) (nv : V) : InvA ms kk nv [] 0 0 := ⟨Nat.le_refl _, (fun p hp => nomatch hp), (fun p hp => nomatch hp), fun j q hj => absurd hj (Nat.not_lt_zero _)⟩
theorem InvA.key {ms : Ms} {kk : Key} {nv : V} {kvs : List (Key × V)} {i n : Nat} (h : InvA ms kk nv kvs i n) (hs : Sca nv) : InvA ms kk nv (putK kvs kk nv) i (n + 1) := by
 refine ⟨?_, fun p hp => ?_, fun p hp e => ?_, fun j q hj hq hne => ?_⟩
 · have := length_putK kvs kk nv
   have := h.len
   omega
 · rcases mem_putV hp with rfl | ⟨hp, _⟩
   · exact hs
   · exact h.sca p hp
 · rcases mem_putV hp with rfl | ⟨hp, _⟩
   · rfl
   · exact h.own p hp e
 · obtain ⟨v, hv⟩ := h.all j q hj hq hne
   exact putV_keep hv
theorem InvA.place {ms : Ms} {kk : Key} {nv : V} {kvs : List (Key × V)} {i n : Nat} (h : InvA ms kk nv kvs i n) {q : Int × Int} (hq : ms[i]? = some q) (hne : (Sum.inl q.1 : Key) ≠ kk) : InvA ms kk nv (putK kvs (Sum.inl q.1) (.int q.2)) (i + 1) (n + 1) := by
 refine ⟨?_, fun p hp => ?_, fun p hp e => ?_, fun j q' hj hq' hne' => ?_⟩
 · have := length_putK kvs (Sum.inl q.1) (.int q.2)
   have := h.len
   omega
 · rcases mem_putV hp with rfl | ⟨hp, _⟩
   · exact True.intro
   · exact h.sca p hp
 · rcases mem_putV hp with rfl | ⟨hp, _⟩
   · exact absurd e hne
   · exact h.own p hp e
 · by_cases z : j = i
   · subst z
     rw [hq] at hq'
     cases hq'
     exact ⟨_, putV_self _ _ _⟩
   · obtain ⟨v, hv⟩ := h.all j q' (by omega) hq' hne'
     exact putV_keep hv
theorem InvA.skip {ms : Ms} {kk : Key} {nv : V} {kvs : List (Key × V)} {i n : Nat} (h : InvA ms kk nv kvs i n) {q : Int × Int} (hq : ms[i]? = some q) (he : (Sum.inl q.1 : Key) = kk) : InvA ms kk nv kvs (i + 1) (n + 1) := by
 refine ⟨by have := h.len; omega, h.sca, h.own, fun j q' hj hq' hne' => ?_⟩
 by_cases z : j = i
 · subst z
   rw [hq] at hq'
   cases hq'
   exact absurd he hne'
 · exact h.all j q' (by omega) hq' hne'
theorem InvA.bad {xs : List (List Int)} (hs : CntOk xs) {k : Int} (h0 : 0 ≤ k) {ms : Ms} {kk : Key} {nv : V} {kvs : List (Key × V)} {n : Nat} (h : InvA ms kk nv kvs ms.length n) (hin : ∃ v, (kk, v) ∈ kvs) (hsp : ∀ p ∈ ms, p.1 ∈ spots xs k) (hb : Bad xs k ms (kV kk) nv) (k' : Int) : chainT xs k' (.dk kvs) = false := by
 obtain ⟨v, hv⟩ := hin
 have e : v = nv := h.own _ hv rfl
 subst e
 have one : ∀ p ∈ kvs, partD xs k' (vD (kV p.1)) (vD p.2) = false → chainT xs k' (.dk kvs) = false := fun p hp hf => by
   show (kvs.all fun p => partD xs k' (vD (kV p.1)) (vD p.2)) = false
   rw [List.all_eq_false]
   exact ⟨p, hp, by rw [hf]; decide⟩
 rcases hb with hb | ⟨p, ep, hp, hm⟩
 · exact one _ hv (hb k')
 · have ekk : kk = Sum.inl p := by
     cases kk with
     | inl i => cases ep; rfl
     | inr x => cases ep
   subst ekk
   by_cases z : k' = k
   · subst z
     exact one _ hv (partD_key (place_not hs h0 hp))
   · obtain ⟨q, hq⟩ : ∃ q, ms[0]? = some q := ⟨ms[0]'(by omega), List.getElem?_eq_getElem _⟩
     have hqs := hsp q (List.mem_of_getElem? hq)
     have hne : (Sum.inl q.1 : Key) ≠ Sum.inl p := fun e => hp (by cases e; exact hqs)
     obtain ⟨v2, hv2⟩ := h.all 0 q (by omega) hq hne
     exact one _ hv2 (partD_key (place_one (place_spot hs h0 hqs) z))
theorem eq_key (p : Int) (kk : Key) : eqD (.int p) (vD (kV kk)) = decide ((Sum.inl p : Key) = kk) := by
 cases kk with
 | inl i =>
   show (p == i) = _
   by_cases e : p = i
   · subst e; simp
   · have h : ¬ (Sum.inl p : Key) = Sum.inl i := fun q => e (Sum.inl.inj q)
     rw [decide_eq_false h]
     simpa using e
 | inr x =>
   rw [decide_eq_false (fun q => nomatch q)]
   rfl
theorem val_mem {kvs : List (Key × V)} {k : Key} (h : (valV kvs k).isSome = true) : ∃ v, (k, v) ∈ kvs := by
 rw [← valV_any] at h
 obtain ⟨p, hp, e⟩ := List.any_eq_true.mp h
 have e' : p.1 = k := of_decide_eq_true e
 exact ⟨p.2, by rw [← e']; exact hp⟩
theorem kalt_key {H : Hp} (kk : Key) : KAlt H (kV kk) (vD (kV kk)) := by
 cases kk with
 | inl i => exact .inl ⟨i, rfl, rfl⟩
 | inr x => exact .inr (.inr (.inr (.inl ⟨x, rfl, rfl⟩)))
theorem kalt_odd {H : Hp} {kv : V} (h : IsKey H kv) : KAlt H kv (vD kv) := by
 rcases h with ⟨i, rfl⟩ | ⟨b, rfl⟩ | rfl | ⟨t, rfl, ht⟩
 · exact .inl ⟨i, rfl, rfl⟩
 · exact .inr (.inl ⟨b, rfl, rfl⟩)
 · exact .inr (.inr (.inl ⟨rfl, rfl⟩))
 · exact .inr (.inr (.inr (.inr ⟨t, rfl, ht, rfl⟩)))
structure InvB (ms : Ms) (kv nv : V) (kvs : List (V × V)) (i n : Nat) (idx : Int) : Prop where
 len : kvs.length ≤ n
 sca : ∀ p ∈ kvs, Sca p.2
 keys : ∀ p ∈ kvs, p.1 = kv ∨ ∃ (j : Nat) (q : Int × Int), j < i ∧ ms[j]? = some q ∧ p.1 = .int q.1 ∧ hsh (.int q.1) ≠ hsh kv
 nod : (kvs.map fun p => hsh p.1).Nodup
 own : (∃ p ∈ kvs, p.1 = kv) → idx < (kvs.length : Int)
theorem InvB.new (ms : Ms) (kv nv : V) (idx : Int) : InvB ms kv nv [] 0 0 idx := ⟨Nat.le_refl _, (fun p hp => nomatch hp), (fun p hp => nomatch hp), List.nodup_nil, fun ⟨p, hp, _⟩ => nomatch hp⟩
theorem InvB.free {ms : Ms} {kv nv : V} {kvs : List (V × V)} {i n : Nat} {idx : Int} (h : InvB ms kv nv kvs i n idx) (hn : ¬ ∃ p ∈ kvs, p.1 = kv) : ∀ p ∈ kvs, hsh p.1 ≠ hsh kv := fun p hp => by
 rcases h.keys p hp with e | ⟨j, q, _, _, e, hne⟩
 · exact absurd ⟨p, hp, e⟩ hn
 · rw [e]; exact hne
theorem nod_snoc {kvs : List (V × V)} {y : V} {v : V} (h : (kvs.map fun p => hsh p.1).Nodup) (hn : ∀ p ∈ kvs, hsh p.1 ≠ hsh y) : ((kvs ++ [(y, v)]).map fun p => hsh p.1).Nodup := by
 rw [List.map_append, List.nodup_append]
 refine ⟨h, by simp, fun a ha b hb e => ?_⟩
 obtain ⟨p, hp, rfl⟩ := List.mem_map.mp ha
 have : b = hsh y := by simpa using hb
 exact hn p hp (e.trans this)
theorem InvB.key {ms : Ms} {kv nv : V} {kvs : List (V × V)} {i n : Nat} {idx : Int} (h : InvB ms kv nv kvs i n idx) (hs : Sca nv) (hn : ¬ ∃ p ∈ kvs, p.1 = kv) (hx : idx ≤ (kvs.length : Int)) : InvB ms kv nv (kvs ++ [(kv, nv)]) i (n + 1) idx := by
 refine ⟨by rw [List.length_append]; exact Nat.succ_le_succ h.len, fun p hp => ?_, fun p hp => ?_, nod_snoc h.nod (h.free hn), fun _ => by rw [List.length_append]; simp; omega⟩
 · rcases List.mem_append.mp hp with hp | hp
   · exact h.sca p hp
   · have : p = (kv, nv) := by simpa using hp
     rw [this]; exact hs
 · rcases List.mem_append.mp hp with hp | hp
   · exact h.keys p hp
   · have : p = (kv, nv) := by simpa using hp
     rw [this]; exact .inl rfl
theorem hsh_int {p : Int} (h0 : 0 ≤ p) (h1 : p < 1000) : hsh (.int p) = p := hashInt_small h0 h1
theorem InvB.fresh {ms : Ms} {kv nv : V} {kvs : List (V × V)} {i n : Nat} {idx : Int} (h : InvB ms kv nv kvs i n idx) (hnd : nd ms) (hr : ∀ p ∈ ms, 0 ≤ p.1 ∧ p.1 < 1000) {q : Int × Int} (hq : ms[i]? = some q) (hne : hsh (.int q.1) ≠ hsh kv) : ∀ p ∈ kvs, hsh p.1 ≠ hsh (.int q.1) := fun p hp e => by
 rcases h.keys p hp with z | ⟨j, q', hj, hq', z, _⟩
 · rw [z] at e; exact hne e.symm
 · obtain ⟨a1, a2⟩ := hr q (List.mem_of_getElem? hq)
   obtain ⟨b1, b2⟩ := hr q' (List.mem_of_getElem? hq')
   rw [z, hsh_int b1 b2, hsh_int a1 a2] at e
   have k1 : (ms.map (·.1))[j]? = some q'.1 := by rw [List.getElem?_map, hq']; rfl
   have k2 : (ms.map (·.1))[i]? = some q.1 := by rw [List.getElem?_map, hq]; rfl
   have : j = i := (List.getElem?_inj (List.getElem?_eq_some_iff.mp k1).1 hnd).mp (by rw [k1, k2, e])
   omega
theorem InvB.place {ms : Ms} {kv nv : V} {kvs : List (V × V)} {i n : Nat} {idx : Int} (h : InvB ms kv nv kvs i n idx) (hni : ∀ i, kv ≠ .int i) (hnd : nd ms) (hr : ∀ p ∈ ms, 0 ≤ p.1 ∧ p.1 < 1000) {q : Int × Int} (hq : ms[i]? = some q) (hne : hsh (.int q.1) ≠ hsh kv) : InvB ms kv nv (kvs ++ [(.int q.1, .int q.2)]) (i + 1) (n + 1) idx := by
 refine ⟨by rw [List.length_append]; exact Nat.succ_le_succ h.len, fun p hp => ?_, fun p hp => ?_, nod_snoc h.nod (h.fresh hnd hr hq hne), fun ⟨p, hp, e⟩ => ?_⟩
 · rcases List.mem_append.mp hp with hp | hp
   · exact h.sca p hp
   · have : p = (.int q.1, .int q.2) := by simpa using hp
     rw [this]; exact True.intro
 · rcases List.mem_append.mp hp with hp | hp
   · rcases h.keys p hp with z | ⟨j, q', hj, r⟩
     · exact .inl z
     · exact .inr ⟨j, q', by omega, r⟩
   · have : p = (.int q.1, .int q.2) := by simpa using hp
     rw [this]; exact .inr ⟨i, q, by omega, hq, rfl, hne⟩
 · rw [List.length_append]
   rcases List.mem_append.mp hp with hp | hp
   · have := h.own ⟨p, hp, e⟩
     simp only [List.length_cons, List.length_nil]
     omega
   · have : p = (.int q.1, .int q.2) := by simpa using hp
     rw [this] at e
     exact absurd e.symm (hni _)
theorem InvB.more {ms : Ms} {kv nv : V} {kvs : List (V × V)} {i n n' i' : Nat} {idx : Int} (h : InvB ms kv nv kvs i n idx) (hn : n ≤ n') (hi : i ≤ i') : InvB ms kv nv kvs i' n' idx :=
 ⟨Nat.le_trans h.len hn, h.sca, fun p hp => (h.keys p hp).imp id fun ⟨j, q, hj, r⟩ => ⟨j, q, by omega, r⟩, h.nod, h.own⟩
theorem odd_hash {H : Hp} {kv : V} (hk : IsKey H kv) (hni : ∀ i, kv ≠ .int i) {p : Int} (h0 : 0 ≤ p) (h1 : p < 1000) (he : eqD (.int p) (vD kv) = false) : hsh (.int p) ≠ hsh kv := by
 rw [hsh_int h0 h1]
 rcases hk with ⟨i, rfl⟩ | ⟨b, rfl⟩ | rfl | ⟨t, rfl, _⟩
 · exact absurd rfl (hni i)
 · have e : (p == (if b then 1 else 0)) = false := he
   simpa [hsh] using e
 · show p ≠ 0xFCA86420
   omega
 · show p ≠ thash
   intro z
   exact thash_big (by rw [← z]; exact ⟨h0, h1⟩)
theorem OddOf.at {H H' : Hp} {a : Addr} {kvs : List (V × V)} (e : H' a = H a) (h : OddOf H a kvs) : OddOf H' a kvs := by
 rcases h with ⟨h1, o, h2, h3⟩ | ⟨ms, h1, h2⟩
 · exact .inl ⟨h1, o, e.trans h2, h3⟩
 · exact .inr ⟨ms, e.trans h1, h2⟩
theorem IsKey.stay {b : Addr} {m : List (Key × V)} {H H' : Hp} {y : V} (hb : H b = some (.dK m)) (s : StayX b H H') (h : IsKey H y) : IsKey H' y := by
 rcases h with h | h | h | ⟨t, e, ht⟩
 · exact .inl h
 · exact .inr (.inl h)
 · exact .inr (.inr (.inl h))
 · exact .inr (.inr (.inr ⟨t, e, s _ _ (fun z => by rw [z, hb] at ht; cases ht) ht⟩))
theorem KeyR.stay {b : Addr} {m : List (Key × V)} {H H' : Hp} {y : V} (hb : H b = some (.dK m)) (s : StayX b H H') (h : KeyR H y) : KeyR H' y := by
 rcases h with h | ⟨t, e, ht⟩
 · exact .inl h
 · exact .inr ⟨t, e, s _ _ (fun z => by rw [z, hb] at ht; cases ht) ht⟩
theorem InvB.bad {xs : List (List Int)} {ms : Ms} {kv nv : V} {kvs : List (V × V)} {i n : Nat} {idx : Int} (h : InvB ms kv nv kvs i n idx) (hin : ∃ p ∈ kvs, p.1 = kv) (hni : ∀ i, kv ≠ .int i) (k' : Int) : chainT xs k' (.odd kvs) = false := by
 obtain ⟨p, hp, e⟩ := hin
 show (kvs.all fun p => partD xs k' (vD p.1) (vD p.2)) = false
 rw [List.all_eq_false]
 refine ⟨p, hp, ?_⟩
 have : placeLev xs (vD p.1) k' = false := by
   rw [e]
   cases kv with
   | int i => exact absurd rfl (hni i)
   | _ => rfl
 rw [partD_key this]
 decide
theorem OddOf.odd {H : Hp} {a : Addr} {kvs : List (V × V)} {kv : V} (h : OddOf H a kvs) (hin : ∃ p ∈ kvs, p.1 = kv) (hni : ∀ i, kv ≠ .int i) : OddAt H a kvs := by
 rcases h with h | ⟨ms, _, hi, rfl⟩
 · exact h
 · obtain ⟨p, hp, e⟩ := hin
   obtain ⟨q, hq, rfl⟩ := List.mem_map.mp hp
   obtain ⟨i, hqi⟩ := hi q hq
   refine absurd e.symm ?_
   show kv ≠ kV q.1
   rw [hqi]
   exact hni i
section
variable (K : PySem.W.Frag)
noncomputable def sp_is_partX : Sp := fun vs H Q _ => ∃ (a : Addr) (xs : List (List Int)) (k : Int) (x y : V) (d e : L2.D), vs = [.ref a, .int k, x, y] ∧ LT K H (.ref a) xs ∧ Rep K H x d ∧ Rep K H y e ∧ Q (.bl (partD xs k d e)) H
noncomputable def sp_is_chainX : Sp := fun vs H Q _ => ∃ (a : Addr) (xs : List (List Int)) (k : Int) (x : V) (t : TT), vs = [.ref a, .int k, x] ∧ LT K H (.ref a) xs ∧ ThingAt H x t ∧ ∀ H', Same H H' → Q (.bl (chainT xs k t)) H'
noncomputable def sp_L_spoilt : Sp := fun vs H Q _ => ∃ (a l b : Addr) (xs : List (List Int)) (k c : Int) (ms : Ms), vs = [.ref a, .ref l, .ref b, .int c] ∧ LT K H (.ref a) xs ∧ CntOk xs ∧ xs.length ≤ 63 ∧ 0 ≤ k ∧ SqL K H l ((spots xs k).map V.int) ∧
 H b = some (.dK (cK ms)) ∧ nd ms ∧ (∀ p ∈ ms, p.1 ∈ spots xs k) ∧ ms.length ≤ 63 ∧ ∀ (x : V) (t : TT) (H' : Hp), Same H H' → ThingAt H' x t → (∀ k', chainT xs k' t = false) → Q x H'
end
end Hb
namespace L2
open PySem PySem.Spec PyProof.Rows
section
variable {X : Cx} {pins : List (Addr × Obj)} {σ : St} {H : Hp} {s : Shared}
end
end L2
namespace Hb
open PySem L2
noncomputable def NoCh (H : Hp) (xs : List (List Int)) (x : V) : Prop := ∃ t, ThingAt H x t ∧ ∀ k', chainT xs k' t = false
section
variable (K : PySem.W.Frag)
noncomputable def sp_some_levelX : Sp := fun vs H Q _ => ∃ (a : Addr) (x : V) (xs : List (List Int)) (n : Nat) (t : TT), vs = [.ref a, x, .int (n : Int)] ∧ LT K H (.ref a) xs ∧ ThingAt H x t ∧ n ≤ 100 ∧
 ∀ H', Same H H' → Q (.bl ((List.range n).any fun (k : Nat) => chainT xs (k : Int) t)) H'
end
end Hb
namespace HT
open PySem PySem.Spec PyProof.Rows
section
variable {prog : Program} {w : World} {A : Around} {E : Value → Shared → Prop} {s : Shared}
end
end HT
namespace L2
open PySem PySem.Spec PyProof.Rows
section
variable {X : Cx}
end
end L2
namespace L2
open PySem PySem.Spec PyProof.Rows
end L2
namespace L2
open PySem PySem.Spec PyProof.Rows
end L2
namespace Hb
end Hb
namespace Hb
end Hb
namespace Hb
open PySem L2
section
variable (K : PySem.W.Frag)
end
end Hb
namespace Hb
open PySem L2
theorem wF_congr {φ ψ : Int → Int} : ∀ {ms : Ms}, (∀ p ∈ ms, φ p.1 = ψ p.1) → wF φ ms = wF ψ ms
 | [], _ => rfl
 | p :: ms, h => by
   rw [wF_cons, wF_cons, h p (List.mem_cons_self ..), wF_congr fun q hq => h q (List.mem_cons_of_mem _ hq)]
noncomputable def spAt (sp : List Int) (p : Int) : Int := sp.getD p.toNat 0
noncomputable def carN (sp : List Int) (ms : Ms) : Nat → Ms
 | 0 => []
 | i + 1 => addI (carN sp ms i) (spAt sp (ms.getD i (0, 0)).1) (ms.getD i (0, 0)).2
theorem nd_car (sp : List Int) (ms : Ms) : ∀ i, nd (carN sp ms i)
 | 0 => List.nodup_nil
 | i + 1 => nd_add (nd_car sp ms i) _ _
theorem wF_carN (φ : Int → Int) (sp : List Int) (ms : Ms) : ∀ i, i ≤ ms.length → wF φ (carN sp ms i) = wF (fun p => φ (spAt sp p)) (ms.take i)
 | 0, _ => rfl
 | i + 1, hi => by
   have e : ms.getD i (0, 0) = ms[i] := by rw [List.getD_eq_getElem?_getD, List.getElem?_eq_getElem (by omega)]; rfl
   show wF φ (addI _ _ _) = _
   rw [wF_add φ (nd_car sp ms i), wF_carN φ sp ms i (by omega), List.take_add_one, List.getElem?_eq_getElem (by omega), wF_append, e]
   show _ = _ + wF _ [ms[i]]
   rw [wF_cons, wF_nil, Int.add_zero]
noncomputable def ibN (acc : Ms) (fs : List Int) (n : Int) : Nat → Ms
 | 0 => acc
 | j + 1 => putI (ibN acc fs n j) (fs.getD j 0) (getI (ibN acc fs n j) (fs.getD j 0) + sg j * n)
noncomputable def bbN (xs : List (List Int)) (ms : Ms) : Nat → Ms
 | 0 => []
 | i + 1 => ibN (bbN xs ms i) (xs.getD (ms.getD i (0, 0)).1.toNat []) (ms.getD i (0, 0)).2 (xs.getD (ms.getD i (0, 0)).1.toNat []).length
noncomputable def bbI (xs : List (List Int)) (ms : Ms) : Ms := bbN xs ms ms.length
theorem nd_ib {acc : Ms} (h : nd acc) (fs : List Int) (n : Int) : ∀ j, nd (ibN acc fs n j)
 | 0 => h
 | j + 1 => nd_put (nd_ib h fs n j) _ _
theorem nd_bb (xs : List (List Int)) (ms : Ms) : ∀ i, nd (bbN xs ms i)
 | 0 => List.nodup_nil
 | i + 1 => nd_ib (nd_bb xs ms i) _ _ _
theorem len_ib (acc : Ms) (fs : List Int) (n : Int) : ∀ j, (ibN acc fs n j).length ≤ acc.length + j
 | 0 => Nat.le_refl _
 | j + 1 => by
   have h1 := len_ib acc fs n j
   have h2 := len_put (ibN acc fs n j) (fs.getD j 0) (getI (ibN acc fs n j) (fs.getD j 0) + sg j * n)
   show (putI _ _ _).length ≤ _
   omega
theorem wF_ib (φ : Int → Int) {acc : Ms} (h : nd acc) (fs : List Int) (n : Int) : ∀ j, wF φ (ibN acc fs n j) = wF φ acc + n * sumN (fun i => sg i * φ (fs.getD i 0)) j
 | 0 => by show wF φ acc = wF φ acc + n * 0; rw [Int.mul_zero, Int.add_zero]
 | j + 1 => by
   show wF φ (putI _ _ _) = wF φ acc + n * (sumN _ j + sg j * φ (fs.getD j 0))
   rw [wF_put φ (nd_ib h fs n j), wF_ib φ h fs n j, show getI (ibN acc fs n j) (fs.getD j 0) + sg j * n - getI (ibN acc fs n j) (fs.getD j 0) = sg j * n by omega, Int.mul_add, Int.mul_comm (sg j) n, Int.mul_assoc, Int.add_assoc]
theorem wF_bbN (φ : Int → Int) (xs : List (List Int)) (ms : Ms) : ∀ i, i ≤ ms.length → wF φ (bbN xs ms i) = wF (face xs φ) (ms.take i)
 | 0, _ => rfl
 | i + 1, hi => by
   have e : ms.getD i (0, 0) = ms[i] := by rw [List.getD_eq_getElem?_getD, List.getElem?_eq_getElem (by omega)]; rfl
   show wF φ (ibN _ _ _ _) = _
   rw [wF_ib φ (nd_bb xs ms i), wF_bbN φ xs ms i (by omega), List.take_add_one, List.getElem?_eq_getElem (by omega), wF_append, e]
   show _ = _ + wF _ [ms[i]]
   rw [wF_cons, wF_nil, Int.add_zero]
   rfl
theorem wF_bb (φ : Int → Int) (xs : List (List Int)) (ms : Ms) : wF φ (bbI xs ms) = wF (face xs φ) ms := by
 have := wF_bbN φ xs ms ms.length (Nat.le_refl _)
 rwa [List.take_length] at this
section
variable (K : PySem.W.Frag)
end
end Hb
namespace Hb
open PySem L2
noncomputable def cnP (n : Nat) (i : Int) (x : List Int) : List Int := if x.length = 0 then [i, (n : Int)] else i :: x.map fun f => (n : Int) + 1 + f
noncomputable def cnN (xs : List (List Int)) (i : Nat) : List (List Int) := (List.range i).map fun (j : Nat) => cnP xs.length (j : Int) (xs.getD j [])
noncomputable def cnX (xs : List (List Int)) : List (List Int) := xs ++ [[]] ++ cnN xs xs.length
theorem cnN_succ (xs : List (List Int)) (i : Nat) : cnN xs (i + 1) = cnN xs i ++ [cnP xs.length (i : Int) (xs.getD i [])] := by
 unfold cnN
 rw [List.range_succ, List.map_append]
 rfl
theorem cnN_len (xs : List (List Int)) (i : Nat) : (cnN xs i).length = i := by simp [cnN]
theorem cnX_len (xs : List (List Int)) : (cnX xs).length = 2 * xs.length + 1 := by
 unfold cnX
 rw [List.length_append, List.length_append, cnN_len]
 show xs.length + 1 + xs.length = _
 omega
theorem cnX_over {xs : List (List Int)} {k : Int} (h0 : 0 ≤ k) (h1 : k < (xs.length : Int)) : (cnX xs).getD ((xs.length : Int) + 1 + k).toNat [] = cnP xs.length k (xs.getD k.toNat []) := by
 unfold cnX cnN
 rw [List.getD_eq_getElem?_getD, List.getElem?_append_right (by simp; omega), List.getElem?_map]
 have e : ((xs.length : Int) + 1 + k).toNat - (xs ++ [[]]).length = k.toNat := by simp; omega
 rw [e, List.getElem?_range (by omega)]
 show cnP xs.length ((k.toNat : Nat) : Int) (xs.getD k.toNat []) = _
 rw [show ((k.toNat : Nat) : Int) = k by omega]
structure Good (xs : List (List Int)) : Prop where
 cnt : CntOk xs
 low : ∀ x ∈ xs, ∀ f ∈ x, 0 ≤ f
theorem Good.of {xs : List (List Int)} (h : IsShape xs) : Good xs := ⟨fun i x e => (h i x e).cnt, fun x hx f hf => by
 obtain ⟨k, hk⟩ := List.getElem?_of_mem hx
 exact (h k x hk).low f hf⟩
theorem Good.pts {xs : List (List Int)} (h : Good xs) (n : Nat) : Good (xs ++ List.replicate n []) := by
 refine ⟨fun i x e => ?_, fun x hx f hf => ?_⟩
 · by_cases hi : i < xs.length
   · rw [List.getElem?_append_left hi] at e
     exact h.cnt i x e
   · rw [List.getElem?_append_right (by omega)] at e
     have := List.eq_of_mem_replicate (List.mem_of_getElem? e)
     subst this
     exact .inl rfl
 · rcases List.mem_append.mp hx with z | z
   · exact h.low x z f hf
   · have := List.eq_of_mem_replicate z
     subst this
     cases hf
theorem Good.at {xs : List (List Int)} (h : Good xs) (i : Nat) : ∀ f ∈ xs.getD i [], 0 ≤ f := fun f hf => by
 rcases mem_getD_or (l := xs) (i := i) (d := []) with z | z
 · exact h.low _ z f hf
 · rw [z] at hf; cases hf
theorem cn_le5 {xs : List (List Int)} (h : CntOk xs) : ∀ x ∈ cnX xs, x.length ≤ 5 := by
 intro x hx
 unfold cnX at hx
 rcases List.mem_append.mp hx with hx | hx
 · rcases List.mem_append.mp hx with hx | hx
   · exact Nat.le_trans (cnt_le4 h x hx) (by decide)
   · have : x = [] := by simpa using hx
     subst this
     exact Nat.zero_le _
 · unfold cnN at hx
   obtain ⟨j, hj, rfl⟩ := List.mem_map.mp hx
   have hc := cnt_at h (List.mem_range.mp hj)
   unfold cnP
   split
   · show 2 ≤ 5; decide
   · rw [List.length_cons, List.length_map]
     omega
noncomputable def shI (n : Nat) (ms : Ms) : Ms := ms.map fun p => ((n : Int) + 1 + p.1, p.2)
theorem nd_sh {n : Nat} {ms : Ms} (h : nd ms) : nd (shI n ms) := by
 unfold nd shI
 rw [List.map_map]
 have e : (((fun p : Int × Int => p.1) ∘ fun p : Int × Int => ((n : Int) + 1 + p.1, p.2))) = (fun q : Int => (n : Int) + 1 + q) ∘ (fun p : Int × Int => p.1) := rfl
 rw [e, ← List.map_map]
 exact List.pairwise_map.mpr (List.Pairwise.imp (fun {a b} q z => q (by have : (n : Int) + 1 + a = (n : Int) + 1 + b := z; omega)) h)
theorem sh_len (n : Nat) (ms : Ms) : (shI n ms).length = ms.length := List.length_map ..
theorem wF_sh (φ : Int → Int) (n : Nat) (ms : Ms) : wF φ (shI n ms) = wF (fun q => φ ((n : Int) + 1 + q)) ms := by
 unfold wF shI
 rw [List.map_map]
 rfl
theorem sg_succ (j : Nat) : sg (j + 1) = -sg j := by unfold sg; omega
theorem sumN_front (g : Nat → Int) : ∀ n, sumN g (n + 1) = g 0 + sumN (fun j => g (j + 1)) n
 | 0 => by show 0 + g 0 = g 0 + 0; omega
 | n + 1 => by
   show sumN g (n + 1) + g (n + 1) = g 0 + (sumN (fun j => g (j + 1)) n + g (n + 1))
   rw [sumN_front g n]
   omega
theorem face_cn {xs : List (List Int)} (φ : Int → Int) {p : Int} (h0 : 0 ≤ p) (h1 : p < (xs.length : Int)) : face (cnX xs) φ ((xs.length : Int) + 1 + p) = if (xs.getD p.toNat []).length = 0 then φ p - φ (xs.length : Int) else φ p - face xs (fun q => φ ((xs.length : Int) + 1 + q)) p := by
 unfold face
 rw [cnX_over h0 h1]
 generalize xs.getD p.toNat [] = x
 unfold cnP
 split
 · show 0 + sg 0 * φ p + sg 1 * φ (xs.length : Int) = _
   rw [show sg 0 = 1 from rfl, show sg 1 = -1 from rfl]
   omega
 · rw [List.length_cons, List.length_map, sumN_front]
   show sg 0 * φ p + _ = _
   rw [show sg 0 = 1 from rfl, Int.one_mul]
   have e : sumN (fun j => sg (j + 1) * φ ((p :: x.map fun f => (xs.length : Int) + 1 + f).getD (j + 1) 0)) x.length = -(sumN (fun j => sg j * φ ((xs.length : Int) + 1 + x.getD j 0)) x.length) := by
     rw [show -(sumN (fun j => sg j * φ ((xs.length : Int) + 1 + x.getD j 0)) x.length) = (-1) * sumN (fun j => sg j * φ ((xs.length : Int) + 1 + x.getD j 0)) x.length by omega, ← sumN_mulL]
     refine sumN_congr fun j hj => ?_
     rw [List.getD_cons_succ, List.getD_eq_getElem?_getD, List.getElem?_map, List.getD_eq_getElem?_getD, List.getElem?_eq_getElem hj]
     show sg (j + 1) * φ ((xs.length : Int) + 1 + x[j]) = -1 * (sg j * φ ((xs.length : Int) + 1 + x[j]))
     rw [sg_succ, ← Int.mul_assoc]
     congr 1
     omega
   rw [e]
   show _ = φ p - sumN (fun j => sg j * φ ((xs.length : Int) + 1 + x.getD j 0)) x.length
   omega
theorem wF_sub (φ ψ : Int → Int) : ∀ ms : Ms, wF (fun q => φ q - ψ q) ms = wF φ ms - wF ψ ms
 | [] => rfl
 | p :: ms => by
   rw [wF_cons, wF_cons, wF_cons, wF_sub φ ψ ms, Int.mul_sub]
   omega
theorem wF_const (c : Int) : ∀ ms : Ms, wF (fun _ => c) ms = (ms.map (·.2)).sum * c
 | [] => by show (0 : Int) = 0 * c; omega
 | p :: ms => by
   rw [wF_cons, wF_const c ms, List.map_cons, List.sum_cons, Int.add_mul]
noncomputable def totI (ms : Ms) : Int := (ms.map (·.2)).sum
noncomputable def edN (n : Nat) (ms bs : Ms) : Nat → Ms
 | 0 => ms
 | i + 1 => putI (edN n ms bs i) ((bs.getD i (0, 0)).1 + (n : Int) + 1) (-(bs.getD i (0, 0)).2)
noncomputable def edI (xs : List (List Int)) (ms : Ms) (lv : Int) : Ms := if lv = 0 then cutI (putI ms (xs.length : Int) (-totI ms)) else edN xs.length ms (cutI (bbI xs ms)) (cutI (bbI xs ms)).length
theorem nd_ed (n : Nat) {ms : Ms} (bs : Ms) (h : nd ms) : ∀ i, nd (edN n ms bs i)
 | 0 => h
 | i + 1 => nd_put (nd_ed n bs h i) _ _
theorem len_ed (n : Nat) (ms bs : Ms) : ∀ i, (edN n ms bs i).length ≤ ms.length + i
 | 0 => Nat.le_refl _
 | i + 1 => by
   have h1 := len_ed n ms bs i
   have h2 := len_put (edN n ms bs i) ((bs.getD i (0, 0)).1 + (n : Int) + 1) (-(bs.getD i (0, 0)).2)
   show (putI _ _ _).length ≤ _
   omega
theorem getD_at {bs : Ms} {i : Nat} (hi : i < bs.length) : bs.getD i (0, 0) = bs[i] := by rw [List.getD_eq_getElem?_getD, List.getElem?_eq_getElem hi]; rfl
theorem nz_ed (n : Nat) {ms bs : Ms} (h : nz ms) (hb : nz bs) : ∀ i, i ≤ bs.length → nz (edN n ms bs i)
 | 0, _ => h
 | i + 1, hi => by
   refine nz_put (nz_ed n h hb i (by omega)) ?_
   rw [getD_at (by omega)]
   have := hb bs[i] (List.getElem_mem _)
   omega
theorem get_put (ms : Ms) (k v j : Int) : getI (putI ms k v) j = if j = k then v else getI ms j := by
 unfold getI
 rw [lookI_put]
 split <;> rfl
theorem get_ed (n : Nat) {ms bs : Ms} (hb : nd bs) {k : Int} : ∀ i, i ≤ bs.length → (∀ j (hj : j < bs.length), j < i → bs[j].1 + (n : Int) + 1 ≠ k) → getI (edN n ms bs i) k = getI ms k
 | 0, _, _ => rfl
 | i + 1, hi, h => by
   show getI (putI _ _ _) k = _
   rw [get_put, if_neg, get_ed n hb i (by omega) fun j hj hji => h j hj (by omega)]
   rw [getD_at (by omega)]
   exact fun z => h i (by omega) (by omega) z.symm
theorem wF_ed (φ : Int → Int) (n : Nat) {ms bs : Ms} (hm : nd ms) (hb : nd bs) (hlow : ∀ p ∈ ms, p.1 < (n : Int)) (hpos : ∀ p ∈ bs, 0 ≤ p.1) : ∀ i, i ≤ bs.length → wF φ (edN n ms bs i) = wF φ ms - wF (fun q => φ (q + (n : Int) + 1)) (bs.take i)
 | 0, _ => by show wF φ ms = wF φ ms - wF _ []; rw [wF_nil]; omega
 | i + 1, hi => by
   have e := getD_at (bs := bs) (i := i) (by omega)
   show wF φ (putI _ _ _) = _
   rw [wF_put φ (nd_ed n bs hm i), wF_ed φ n hm hb hlow hpos i (by omega), List.take_add_one, List.getElem?_eq_getElem (by omega), wF_append, e]
   have e0 : getI (edN n ms bs i) (bs[i].1 + (n : Int) + 1) = 0 := by
     rw [get_ed n hb i (by omega) fun j hj hji z => ?_]
     · refine getI_out fun hz => ?_
       obtain ⟨q, hq, eq⟩ := List.mem_map.mp hz
       have h1 := hlow q hq
       have h2 := hpos bs[i] (List.getElem_mem _)
       have : q.1 = bs[i].1 + (n : Int) + 1 := eq
       omega
     · have hne : bs[j].1 ≠ bs[i].1 := fun q => by
         have hnd : (bs.map (·.1)).Nodup := hb
         have h3 := (List.pairwise_iff_getElem.mp hnd) j i (by simpa using hj) (by simp; omega) hji
         simp only [List.getElem_map] at h3
         exact h3 q
       omega
   rw [e0]
   show _ = _ - (_ + wF _ [bs[i]])
   rw [wF_cons, wF_nil]
   rw [Int.sub_zero, Int.neg_mul]
   omega
theorem key_ib {acc : Ms} {fs : List Int} {n : Int} : ∀ {j : Nat}, j ≤ fs.length → ∀ q ∈ ibN acc fs n j, q ∈ acc ∨ q.1 ∈ fs
 | 0, _, q, hq => .inl hq
 | j + 1, hj, q, hq => by
   rcases mem_put (show q ∈ putI _ _ _ from hq) with z | z
   · exact key_ib (by omega) q z
   · right
     rw [z, List.getD_eq_getElem?_getD, List.getElem?_eq_getElem (by omega)]
     exact List.getElem_mem _
theorem key_bb {xs : List (List Int)} {ms : Ms} : ∀ {i : Nat}, ∀ q ∈ bbN xs ms i, ∃ j, q.1 ∈ xs.getD j []
 | 0, q, hq => by cases hq
 | i + 1, q, hq => by
   rcases key_ib (Nat.le_refl _) q (show q ∈ ibN _ _ _ _ from hq) with z | z
   · exact key_bb q z
   · exact ⟨_, z⟩
theorem wF_cut2 (φ : Int → Int) (ms : Ms) : wF φ (cutI ms) = wF φ ms := wF_cut φ ms
theorem cone_edge {xs : List (List Int)} (hg : Good xs) {ms : Ms} {lv : Int} (hd : nd ms) (hz : nz ms) (h0 : 0 ≤ lv) (hm : ∀ p ∈ ms, 0 ≤ p.1 ∧ p.1 < (xs.length : Int) ∧ levI (xs.getD p.1.toNat []).length = lv) :
   sameC (cutI (bbI (cnX xs) (shI xs.length ms))) (edI xs ms lv) = true := by
 have c : nd (bbI (cnX xs) (shI xs.length ms)) := nd_bb _ _ _
 have hl : ∀ p ∈ ms, ((xs.getD p.1.toNat []).length = 0 ↔ lv = 0) := fun p hp => by
   obtain ⟨a, b, e⟩ := hm p hp
   have hc := cnt_at hg.cnt (i := p.1.toNat) (by omega)
   unfold levI at e
   constructor
   · intro z
     rw [z] at e
     simpa using e.symm
   · intro z
     rw [z] at e
     split at e <;> omega
 have left : ∀ k, getI (cutI (bbI (cnX xs) (shI xs.length ms))) k = wF (fun p => face (cnX xs) (dl k) ((xs.length : Int) + 1 + p)) ms := fun k => by
   rw [get_no c, ← wF_dl k c, wF_bb, wF_sh]
 unfold edI
 by_cases h : lv = 0
 · rw [if_pos h]
   have c2 : nd (putI ms (xs.length : Int) (-totI ms)) := nd_put hd _ _
   refine sameC_get (nd_no c) (nd_no c2) (nz_no _) (nz_no _) fun k => ?_
   rw [left, get_no c2, ← wF_dl k c2, wF_put _ hd]
   have e1 : wF (fun p => face (cnX xs) (dl k) ((xs.length : Int) + 1 + p)) ms = wF (fun p => dl k p - dl k (xs.length : Int)) ms := wF_congr fun p hp => by
     obtain ⟨a, b, _⟩ := hm p hp
     rw [face_cn (dl k) a b, if_pos ((hl p hp).mpr h)]
   have e2 : getI ms (xs.length : Int) = 0 := getI_out fun hz => by
     obtain ⟨q, hq, eq⟩ := List.mem_map.mp hz
     have := hm q hq
     have : q.1 = (xs.length : Int) := eq
     omega
   rw [e1, wF_sub, wF_const, e2, Int.sub_zero, Int.neg_mul]
   show _ - totI ms * _ = _
   omega
 · rw [if_neg h]
   have cb : nd (cutI (bbI xs ms)) := nd_no (nd_bb _ _ _)
   have zb : nz (cutI (bbI xs ms)) := nz_no _
   refine sameC_get (nd_no c) (nd_ed _ _ hd _) (nz_no _) (nz_ed _ hz zb _ (Nat.le_refl _)) fun k => ?_
   rw [left, ← wF_dl k (nd_ed _ _ hd _), wF_ed (dl k) xs.length hd cb (fun p hp => (hm p hp).2.1) (fun p hp => by
     obtain ⟨j, hj⟩ := key_bb p (List.mem_filter.mp hp).1
     exact hg.at j _ hj) _ (Nat.le_refl _), List.take_length, wF_cut2, wF_bb]
   have e1 : wF (fun p => face (cnX xs) (dl k) ((xs.length : Int) + 1 + p)) ms = wF (fun p => dl k p - face xs (fun q => dl k (q + (xs.length : Int) + 1)) p) ms := wF_congr fun p hp => by
     obtain ⟨a, b, _⟩ := hm p hp
     rw [face_cn (dl k) a b, if_neg (fun z => h ((hl p hp).mp z))]
     congr 2
     funext q
     congr 1
     omega
   rw [e1, wF_sub]
theorem len_ib5 {xs : List (List Int)} (h5 : ∀ x ∈ xs, x.length ≤ 5) (ms : Ms) : ∀ i, (bbN xs ms i).length ≤ 5 * i
 | 0 => Nat.le_refl _
 | i + 1 => by
   have h1 := len_ib5 h5 ms i
   have h2 := len_ib (bbN xs ms i) (xs.getD (ms.getD i (0, 0)).1.toNat []) (ms.getD i (0, 0)).2 (xs.getD (ms.getD i (0, 0)).1.toNat []).length
   have h3 : (xs.getD (ms.getD i (0, 0)).1.toNat []).length ≤ 5 := by
     rcases mem_getD_or (l := xs) (i := (ms.getD i (0, 0)).1.toNat) (d := []) with z | z
     · exact h5 _ z
     · rw [z]; exact Nat.zero_le _
   show (ibN _ _ _ _).length ≤ _
   omega
theorem log40 : (40 : Int).natAbs.log2 < 1920 := Nat.lt_of_lt_of_le ((Nat.log2_lt (k := 7) (by decide)).mpr (by decide)) (by decide)
section
variable (K : PySem.W.Frag)
noncomputable def sp_moved : Sp := fun vs H Q _ => ∃ (v : V) (p : List Int) (m : Int), vs = [v, .int m] ∧ TI K H v p ∧ p.length ≤ 1000 ∧ ∀ (w : V) (H' : Hp), Same H H' → TI K H' w (p.map fun f => m + f) → Q w H'
noncomputable def sp_check_size (C : Addr) : Sp := fun vs H Q E => ∃ (a : Addr) (us : List V), vs = [.ref a] ∧ SqL K H a us ∧ (us.length ≤ 40 → Q .non H) ∧ (40 < us.length → ∀ H', Same H H' → E (.ref C) none H')
noncomputable def sp_L_shape_like : Sp := fun vs H Q _ => ∃ (a b : Addr) (xs : List (List Int)), vs = [.ref a, .ref b] ∧ LT K H (.ref a) xs ∧ LT K H (.ref b) xs ∧ Q (.bl true) H
noncomputable def sp_piece_over : Sp := fun vs H Q _ => ∃ (v : V) (p : List Int) (i : Int) (n : Nat), vs = [.int i, v, .int (n : Int)] ∧ TI K H v p ∧ p.length ≤ 1000 ∧ p.length ≠ 1 ∧ ∀ (w : V) (H' : Hp), Same H H' → TI K H' w (cnP n i p) → Q w H'
noncomputable def sp_cone (CG CS : Addr) : Sp := fun vs H Q E => ∃ (a : Addr) (xs : List (List Int)), vs = [.ref a] ∧ LT K H (.ref a) xs ∧ CntOk xs ∧ xs.length ≤ 63 ∧
 (plc xs 3 ≠ [] → ∀ H', Same H H' → E (.ref CG) none H') ∧ (plc xs 3 = [] → 40 < 2 * xs.length + 1 → ∀ H', Same H H' → E (.ref CS) none H') ∧
 (plc xs 3 = [] → 2 * xs.length + 1 ≤ 40 → ∀ (p : Addr) (us : List V) (H' : Hp), H p = none → Same H H' → H' p = some (.lst us) → Reps K H' us ((cnX xs).map tI) → Q (.ref p) H')
noncomputable def sp_L_cone_told : Sp := fun vs H Q _ => ∃ (a : Addr) (xs : List (List Int)), vs = [.ref a] ∧ LT K H (.ref a) xs ∧ CntOk xs ∧ xs.length ≤ 63 ∧
 (plc xs 3 ≠ [] → ∀ (T : Addr) (H' : Hp), Same H H' → H' T = some (.tup [.bl true, .bl false]) → Q (.ref T) H') ∧ (plc xs 3 = [] → 40 < 2 * xs.length + 1 → ∀ (T : Addr) (H' : Hp), Same H H' → H' T = some (.tup [.bl false, .bl true]) → Q (.ref T) H') ∧
 (plc xs 3 = [] → 2 * xs.length + 1 ≤ 40 → ∀ (p : Addr) (us : List V) (H' : Hp), H p = none → Same H H' → H' p = some (.lst us) → Reps K H' us ((cnX xs).map tI) → Q (.ref p) H')
noncomputable def sp_L_cone_by : Sp := fun vs H Q _ => ∃ (a : Addr) (xs : List (List Int)), vs = [.ref a] ∧ LT K H (.ref a) xs ∧ xs.length ≤ 1000 ∧ (∀ x ∈ xs, x.length ≤ 4) ∧
 ∀ (p : Addr) (us : List V) (H' : Hp), H p = none → Same H H' → H' p = some (.lst us) → Reps K H' us ((cnX xs).map tI) → Q (.ref p) H'
noncomputable def sp_coned (C : Addr) : Sp := fun vs H Q E => ∃ (a : Addr) (x : V) (xs : List (List Int)), vs = [.ref a, x] ∧ LT K H (.ref a) xs ∧ xs.length ≤ 1000 ∧
 ((∃ (b : Addr) (ms : Ms), x = .ref b ∧ H b = some (.dK (cK ms)) ∧ nd ms ∧ ms.length ≤ 63 ∧ (∃ k : Nat, k < 3 ∧ chainB xs (k : Int) ms = true) ∧ newC H (shI xs.length ms) Q) ∨ ((∃ t, ThingAt H x t ∧ ∀ k : Nat, k < 3 → chainT xs (k : Int) t = false) ∧ ∀ H', Same H H' → E (.ref C) none H'))
noncomputable def sp_L_coned_told : Sp := fun vs H Q _ => ∃ (a : Addr) (x : V) (xs : List (List Int)), vs = [.ref a, x] ∧ LT K H (.ref a) xs ∧ xs.length ≤ 1000 ∧
 ((∃ (b : Addr) (ms : Ms), x = .ref b ∧ H b = some (.dK (cK ms)) ∧ nd ms ∧ ms.length ≤ 63 ∧ (∃ k : Nat, k < 3 ∧ chainB xs (k : Int) ms = true) ∧ newC H (shI xs.length ms) Q) ∨ ((∃ t, ThingAt H x t ∧ ∀ k : Nat, k < 3 → chainT xs (k : Int) t = false) ∧ ∀ (T : Addr) (H' : Hp), Same H H' → H' T = some (.tup [.bl true, .bl false, .bl false]) → Q (.ref T) H'))
noncomputable def sp_L_coned_by : Sp := fun vs H Q _ => ∃ (a b : Addr) (xs : List (List Int)) (ms : Ms), vs = [.ref a, .ref b] ∧ LT K H (.ref a) xs ∧ H b = some (.dK (cK ms)) ∧ nd ms ∧ ms.length ≤ 500 ∧ newC H (shI xs.length ms) Q
noncomputable def sp_L_border_by5 : Sp := fun vs H Q _ => ∃ (a b : Addr) (xs : List (List Int)) (ms : Ms), vs = [.ref a, .ref b] ∧ LT K H (.ref a) xs ∧ H b = some (.dK (cK ms)) ∧ nd ms ∧ ms.length ≤ 100 ∧ (∀ x ∈ xs, x.length ≤ 5) ∧ (∀ p ∈ ms, 0 ≤ p.1 ∧ p.1 < (xs.length : Int)) ∧ (∀ p ∈ ms, p.2.natAbs < 2 ^ 100) ∧ newC H (cutI (bbI xs ms)) Q
noncomputable def sp_L_edge_by : Sp := fun vs H Q _ => ∃ (a b : Addr) (xs : List (List Int)) (ms : Ms) (lv : Int), vs = [.ref a, .ref b, .int lv] ∧ LT K H (.ref a) xs ∧ H b = some (.dK (cK ms)) ∧ nd ms ∧ ms.length ≤ 63 ∧ (∀ x ∈ xs, x.length ≤ 5) ∧ (∀ p ∈ ms, 0 ≤ p.1 ∧ p.1 < (xs.length : Int)) ∧ (∀ p ∈ ms, p.2.natAbs < 2 ^ 100) ∧ newC H (edI xs ms lv) Q
end
theorem comp_enumY {g : TG} {te : TE} {D : Addr} {Q : Hp → Prop} {τ : St} {H : Hp} {K : PySem.W.Frag} {a : Addr} {xs : List V} (Pv : Nat → List V → St → Hp → Prop) (h0 : Pv 0 [] τ H) (hl : ∀ i ys τ H, i ≤ xs.length → Pv i ys τ H → SqL K H a xs)
   (hs : ∀ i x ys τ H p, xs[i]? = some x → Pv i ys τ H → H p = none → g (.ref p) τ (upd H p (.tup [.int i, x])) fun τ2 H2 => te τ2 H2 fun y H4 => H4 D = some (.lst ys) ∧ ys.length < sizeLine ∧ Pv (i + 1) (ys ++ [y]) τ2 (upd H4 D (.lst (ys ++ [y]))))
   (hd : ∀ ys τ H, Pv xs.length ys τ H → Q H) : RunC (Ite K a) g tYes te D Q τ H := comp_enum Pv h0 hl (fun i x ys τ H p e q hp => hs i x ys τ H p e q hp) hd
theorem TI.seqD {K : PySem.W.Frag} {H : Hp} {v : V} {p : List Int} (h : TI K H v p) : SeqD K H v (nums p) := .inr h
noncomputable def shN (n : Nat) (ms : Ms) (i : Nat) : Ms := shI n (ms.take i)
theorem shN_len (n : Nat) (ms : Ms) (i : Nat) : (shN n ms i).length ≤ ms.length := by
 unfold shN
 rw [sh_len, List.length_take]
 omega
theorem shN_put {n : Nat} {ms : Ms} (hnd : nd ms) {i : Nat} {q : Int × Int} (hq : ms[i]? = some q) : putI (shN n ms i) (q.1 + (n : Int) + 1) q.2 = shN n ms (i + 1) := by
 rw [show q.1 + (n : Int) + 1 = (n : Int) + 1 + q.1 by omega]
 have nw : (n : Int) + 1 + q.1 ∉ (shN n ms i).map (·.1) := by
   intro hz
   obtain ⟨q', hq', e'⟩ := List.mem_map.mp hz
   unfold shN shI at hq'
   obtain ⟨q'', hq'', rfl⟩ := List.mem_map.mp hq'
   refine take_new hnd hq (List.mem_map.mpr ⟨q'', hq'', ?_⟩)
   have : (n : Int) + 1 + q''.1 = (n : Int) + 1 + q.1 := e'
   show q''.1 = q.1
   omega
 rw [put_new nw]
 unfold shN shI
 rw [List.take_add_one, hq, List.map_append]
 rfl
end Hb
namespace Hb
open PySem L2
noncomputable def top (i : Nat) : Stmt := PySem.Challenge.pw_holebook_k49_the_cone.main.body.getD i (.Pass ⟨0, 0, 0, 0⟩)
structure Txt (K : PySem.W.Frag) (mg : Str → Option Value) (C_HoleError C_NoShape C_NoChain C_NoGlue : Addr) : Prop where
 m_HoleError : mg "HoleError" = some (.ref C_HoleError)
 k_HoleError : PySem.W.ktsIn K C_HoleError "BaseException" = true
 m_NoShape : mg "NoShape" = some (.ref C_NoShape)
 e_NoShape : PySem.W.excIn K C_NoShape bmV "ValueError.__new__" = true
 x_NoShape : ExcC K C_NoShape
 m_NoChain : mg "NoChain" = some (.ref C_NoChain)
 e_NoChain : PySem.W.excIn K C_NoChain bmV "ValueError.__new__" = true
 x_NoChain : ExcC K C_NoChain
 k_NoChain : PySem.W.ktsIn K C_NoChain "BaseException" = true
 m_NoGlue : mg "NoGlue" = some (.ref C_NoGlue)
 e_NoGlue : PySem.W.excIn K C_NoGlue bmV "ValueError.__new__" = true
 x_NoGlue : ExcC K C_NoGlue
 s_NoShape_HoleError : PySem.W.subIn K (.ref C_NoShape) (.ref C_HoleError) = some true
 i_NoShape_NoShape : PySem.W.kitOne K (.ref C_NoShape) (.ref C_NoShape) = some true
 i_NoShape_NoGlue : PySem.W.kitOne K (.ref C_NoShape) (.ref C_NoGlue) = some false
 i_NoChain_HoleError : PySem.W.kitOne K (.ref C_NoChain) (.ref C_HoleError) = some true
 i_NoChain_NoShape : PySem.W.kitOne K (.ref C_NoChain) (.ref C_NoShape) = some false
 s_NoChain_NoChain : PySem.W.subIn K (.ref C_NoChain) (.ref C_NoChain) = some true
 i_NoChain_NoGlue : PySem.W.kitOne K (.ref C_NoChain) (.ref C_NoGlue) = some false
 s_NoGlue_HoleError : PySem.W.subIn K (.ref C_NoGlue) (.ref C_HoleError) = some true
 i_NoGlue_NoShape : PySem.W.kitOne K (.ref C_NoGlue) (.ref C_NoShape) = some false
 i_NoGlue_NoGlue : PySem.W.kitOne K (.ref C_NoGlue) (.ref C_NoGlue) = some true
 x_LEVELS : ∃ t, mg "LEVELS" = some (.int 4 t)
 x_MOST_PIECES : ∃ t, mg "MOST_PIECES" = some (.int 40 t)
 n_isinstance : mg "isinstance" = none
 n_int : mg "int" = none
 n_bool : mg "bool" = none
 n_max : mg "max" = none
 n_len : mg "len" = none
 n_tuple : mg "tuple" = none
 n_all : mg "all" = none
 n_dict : mg "dict" = none
 n_any : mg "any" = none
 n_range : mg "range" = none
 n_enumerate : mg "enumerate" = none
 n_list : mg "list" = none
 n_sum : mg "sum" = none
noncomputable def cutS (ns : List Int) (lo hi : Option Int) : List Int := (ns.drop (HT.sIx ns.length 0 lo)).take (HT.sIx ns.length ns.length hi - HT.sIx ns.length 0 lo)
theorem cutV_map (ns : List Int) (lo hi : Option Int) : cutV (ns.map V.int) lo hi = (cutS ns lo hi).map V.int := by
 unfold cutV cutS
 rw [List.length_map, List.map_take, List.map_drop]
theorem cutS_len (ns : List Int) (lo hi : Option Int) : (cutS ns lo hi).length ≤ ns.length := by
 unfold cutS
 rw [List.length_take, List.length_drop]
 omega
theorem ndc_0 : (["face", "many"] : List Str).Nodup := by decide +kernel
theorem ndc_1 : (["place", "number", "shape", "k"] : List Str).Nodup := by decide +kernel
theorem ndc_2 : (["k", "shape", "thing"] : List Str).Nodup := by decide +kernel
theorem ndc_3 : (["place", "piece", "k"] : List Str).Nodup := by decide +kernel
theorem ndc_4 : (["place", "piece", "tip"] : List Str).Nodup := by decide +kernel
theorem ndc_5 : (["place", "number", "first"] : List Str).Nodup := by decide +kernel
theorem ndc_6 : (["_law_letter"] : List Str).Nodup := by decide +kernel
theorem ndc_7 : (["_law_i", "_law_word"] : List Str).Nodup := by decide +kernel
theorem ndc_8 : (["_law_word", "_law_family", "_law_words"] : List Str).Nodup := by decide +kernel
theorem ndc_9 : (["_law_face", "_law_words"] : List Str).Nodup := by decide +kernel
theorem ndc_10 : (["_law_piece", "_law_other"] : List Str).Nodup := by decide +kernel
theorem ndc_11 : (["_law_face", "_law_other"] : List Str).Nodup := by decide +kernel
theorem ndc_12 : (["_law_at", "_law_spots"] : List Str).Nodup := by decide +kernel
theorem ndc_13 : (["_law_face", "_law_many"] : List Str).Nodup := by decide +kernel
theorem ndc_14 : (["_law_place", "_law_chain"] : List Str).Nodup := by decide +kernel
theorem ndc_15 : (["_law_k"] : List Str).Nodup := by decide +kernel
theorem ndc_16 : (["_law_cell"] : List Str).Nodup := by decide +kernel
section
variable {P : Program} {w : World} {K : PySem.W.Frag} {mg : Str → Option Value} {base : Heap} {C_HoleError C_NoShape C_NoChain C_NoGlue : Addr}
noncomputable abbrev s_is_whole : Stmt := top 1
theorem sc_is_whole : FnScope ["thing"] ["thing"] (defScope s_is_whole) := ⟨rfl, rfl, rfl, by decide +kernel, rfl, by decide +kernel, by decide +kernel⟩
theorem ok_is_whole {f : Addr} {fd : FuncData} (F : Fun K "is_whole" "is_whole" s_is_whole f fd) (T : Txt K mg C_HoleError C_NoShape C_NoChain C_NoGlue)  : FnOk P w K mg base CX0 1 f fd ["thing"] (sp_is_whole K) := by
 refine F.ok sc_is_whole (fun vs H Q E h => ?_) (fun cdv A outer s H vs Q E hr h => ?_)
 · obtain ⟨x, d, rfl, hx, k⟩ := h
   rfl
 · obtain ⟨x, d, rfl, hx, k⟩ := h
   refine ⟨_, (pss_one (ps_ret (pe_and (pe_callB (kcall_isinst (K := K)) (by rfl) T.n_isinstance boot_isinstanceB (pa_cons (pv 0) (pa_cons (pe_bltn (v := .ty "int") rfl T.n_int boot_intT rfl) pa_nil))) (pe_one (pe_not (pe_callB (kcall_isinst (K := K)) (by rfl) T.n_isinstance boot_isinstanceB (pa_cons (pv 0) (pa_cons (pe_bltn (v := .ty "bool") rfl T.n_bool boot_boolT rfl) pa_nil)))))))), ?_⟩
   refine ⟨_, rfl, _, _, d, rfl, .inl rfl, hx, _, rfl, ?_⟩
   refine ite2 (fun e => ?_) (fun e => ?_)
   · refine ⟨_, rfl, _, _, d, rfl, .inr (.inl rfl), hx, _, rfl, ?_⟩
     have e2 : wholeD d = !isD "bool" d := by unfold wholeD; rw [e]; rfl
     rw [e2] at k
     exact k
   · have e2 : wholeD d = false := by unfold wholeD; simp [e]
     rw [e2] at k
     exact k
noncomputable abbrev s_level_of : Stmt := top 4
theorem sc_level_of : FnScope ["piece"] ["piece"] (defScope s_level_of) := ⟨rfl, rfl, rfl, by decide +kernel, rfl, by decide +kernel, by decide +kernel⟩
theorem ok_level_of {f : Addr} {fd : FuncData} (F : Fun K "level_of" "level_of" s_level_of f fd) (T : Txt K mg C_HoleError C_NoShape C_NoChain C_NoGlue)  : FnOk P w K mg base CX0 1 f fd ["piece"] (sp_level_of K) := by
 refine F.ok sc_level_of (fun vs H Q E h => ?_) (fun cdv A outer s H vs Q E hr h => ?_)
 · obtain ⟨x, ds, rfl, hx, k⟩ := h
   rfl
 · obtain ⟨x, ds, rfl, hx, k⟩ := h
   refine ⟨_, (pss_one (ps_ret (pe_callB (call_max2 (by rfl)) (by rfl) T.n_max boot_maxB (pa_cons (pe_op op_sub (pe_callB (kcall_len_seq (K := K)) (by rfl) T.n_len PySem.boot_len (pa_cons (pv 0) pa_nil)) pe_int) (pa_cons pe_int pa_nil))))), ?_⟩
   obtain ⟨p, us, e, hq, hl⟩ : ∃ (p : Addr) (us : List V), x = .ref p ∧ (SqL K H p us ∨ SqT K H p us) ∧ us.length = ds.length := by
     rcases hx with ⟨p, us, e, hq, r⟩ | ⟨p, us, e, hq, r⟩
     · exact ⟨p, us, e, .inl hq, r.length⟩
     · exact ⟨p, us, e, .inr hq, r.length⟩
   subst e
   refine ⟨_, rfl, p, us, rfl, hq, _, _, rfl, rfl, _, _, rfl, ?_⟩
   rw [hl]
   exact k
noncomputable abbrev s_moved : Stmt := top 6
theorem sc_moved : FnScope ["piece", "many"] ["piece", "many"] (defScope s_moved) := ⟨rfl, rfl, rfl, by decide +kernel, rfl, by decide +kernel, by decide +kernel⟩
theorem ok_moved {f : Addr} {fd : FuncData} (F : Fun K "moved" "moved" s_moved f fd) (T : Txt K mg C_HoleError C_NoShape C_NoChain C_NoGlue)  : FnOk P w K mg base CX0 1 f fd ["piece", "many"] (sp_moved K) := by
 refine F.ok sc_moved (fun vs H Q E h => ?_) (fun cdv A outer s H vs Q E hr h => ?_)
 · obtain ⟨v, p, m, rfl, hv, hpl, k⟩ := h
   rfl
 · obtain ⟨v, p, m, rfl, hv, hpl, k⟩ := h
   refine ⟨_, (pss_one (ps_ret (pe_callTy (kcall_tuple_of (K := K)) (by rfl) T.n_tuple boot_tupleT (pa_cons (pe_comp (N' := ["face", "many"]) (cap := [none, some 1]) (by rfl) (by kernel_rfl) (kpi_tup (K := K) (pv 0)) (fun _ _ _ _ => (pg_name (i := 0) ndc_0 (by rfl) (by first | exact Or.inl rfl | exact Or.inr rfl))) (fun _ _ _ _ => pts_nil) (fun _ _ _ _ => (pe_op op_add (pv 1) (pv 0)))) pa_nil)))), ?_⟩
   obtain ⟨ap, rfl, sq⟩ := TI.sq hv
   refine ⟨_, rfl, ap, rfl, ⟨_, sq⟩, fun D hD => ?_⟩
   refine comp_tup0 (K := K) (a := ap) (xs := p.map V.int) (fun i ys τ H1 => Same H H1 ∧ H1 D = some (.lst ys) ∧ ys = ((p.take i).map fun f => m + f).map V.int ∧ ∃ o, τ = [o, some (.int m)])
     ⟨Same.new hD, upd_same, rfl, none, rfl⟩ (fun i ys τ H1 _ ⟨s1, _⟩ => s1.seqT sq) ?_ ?_
   · rintro i y ys τ H1 hy ⟨s1, hD1, hys, o, rfl⟩
     have hi : i < p.length := by have := (List.getElem?_eq_some_iff.mp hy).1; simpa using this
     have hyv : y = .int p[i] := by
       rw [List.getElem?_map, List.getElem?_eq_getElem hi] at hy
       simpa using hy.symm
     subst hyv
     refine ⟨_, rfl, _, rfl, _, _, rfl, rfl, hD1, small (by rw [hys, List.length_map, List.length_map, List.length_take]; omega), s1.turn hD, upd_same, ?_, _, rfl⟩
     rw [List.take_succ, List.getElem?_eq_getElem hi, List.map_append, List.map_append, hys]
     rfl
   · rintro ys τ H1 ⟨s1, hD1, hys, _⟩
     rw [List.length_map, List.take_length] at hys
     refine ⟨D, _, rfl, .inl ⟨.of hD1, fun T1 hT1 => ?_⟩⟩
     refine k _ _ (s1.trans (Same.new hT1)) (TI.mk ?_)
     rw [← hys]
     exact .of upd_same
noncomputable abbrev s_check_size : Stmt := top 19
theorem sc_check_size : FnScope ["pieces"] ["pieces"] (defScope s_check_size) := ⟨rfl, rfl, rfl, by decide +kernel, rfl, by decide +kernel, by decide +kernel⟩
theorem ok_check_size {f : Addr} {fd : FuncData} (F : Fun K "check_size" "check_size" s_check_size f fd) (T : Txt K mg C_HoleError C_NoShape C_NoChain C_NoGlue)  : FnOk P w K mg base (CX1 P w) 1 f fd ["pieces"] (sp_check_size K C_NoShape) := by
 refine F.okX sc_check_size (fun vs H Q E h => ?_) (fun cdv A outer s H vs Q E hr h => ?_)
 · obtain ⟨a, us, rfl, hq, k1, k2⟩ := h
   rfl
 · obtain ⟨a, us, rfl, hq, k1, k2⟩ := h
   obtain ⟨t_MOST_PIECES, c_MOST_PIECES⟩ := T.x_MOST_PIECES
   refine ⟨_, (pss_one (ps_if (pt_cmpR op_gt (pe_callB (kcall_len_seq (K := K)) (by rfl) T.n_len PySem.boot_len (pa_cons (pv 0) pa_nil)) (pe_glob (v := .int 40) (by rfl) c_MOST_PIECES ⟨_, rfl⟩) (nomark _)) (pss_one (ps_raise makes_def (by rfl) (by rfl) T.m_NoShape T.e_NoShape (pa_cons (pe_fstr (pj_cons pe_str (pj_cons (pe_fmt (pe_glob (v := .int 40) (by rfl) c_MOST_PIECES ⟨_, rfl⟩)) (pj_cons pe_str pj_nil)))) pa_nil))) pss_nil)), ?_⟩
   refine ⟨_, rfl, a, us, rfl, .inl hq, _, _, rfl, rfl, _, rfl, ?_⟩
   refine ite2 (fun h1 => ?_) (fun h1 => ?_)
   · have h2 : 40 < us.length := by
       have : (40 : Int) < (us.length : Int) := by simpa using h1
       omega
     refine ⟨_, rfl, by decide +kernel, .inl ⟨40, rfl, log40, fun x2 hx2 => ⟨_, rfl, hx2, _, rfl, by decide +kernel, fun x3 hx3 => ?_⟩⟩⟩
     exact ⟨smallE (by simp), k2 h2 H (Same.refl H)⟩
   · have h2 : us.length ≤ 40 := by
       have : ¬ (40 : Int) < (us.length : Int) := by simpa using h1
       omega
     exact k1 h2
noncomputable abbrev s_L_cell_at : Stmt := top 26
theorem sc_L_cell_at : FnScope ["_law_script", "_law_k"] ["_law_script", "_law_k"] (defScope s_L_cell_at) := ⟨rfl, rfl, rfl, by decide +kernel, rfl, by decide +kernel, by decide +kernel⟩
theorem ok_L_cell_at {f : Addr} {fd : FuncData} (F : Fun K "_law_cell_at" "_law_cell_at" s_L_cell_at f fd) (T : Txt K mg C_HoleError C_NoShape C_NoChain C_NoGlue)  : FnOk P w K mg base CX0 1 f fd ["_law_script", "_law_k"] (sp_L_cell_at K) := by
 refine F.ok sc_L_cell_at (fun vs H Q E h => ?_) (fun cdv A outer s H vs Q E hr h => ?_)
 · obtain ⟨a, ns, k, rfl, hS, h0, hl, kq⟩ := h
   rfl
 · obtain ⟨a, ns, k, rfl, hS, h0, hl, kq⟩ := h
   refine ⟨_, (pss_cons (ps_if (pt_cmpR op_lt (pv 1) (pe_callB (kcall_len_seq (K := K)) (by rfl) T.n_len PySem.boot_len (pa_cons (pv 0) pa_nil)) (nomark _)) (pss_one (ps_ret (pe_ix (kix_list (K := K)) (pv 0) (pv 1) (fun _ _ => rfl)))) pss_nil)
     (pss_one (ps_ret pe_int))), ?_⟩
   refine ⟨_, rfl, _, rfl, a, _, rfl, .inl hS, _, _, rfl, rfl, _, rfl, ?_⟩
   refine ite2 (fun h1 => ?_) (fun h1 => ?_)
   · have h2 : k < (ns.length : Int) := by simpa using h1
     have e : atI (ns.map V.int) k = some (.int (cellAt ns k)) := by
       obtain ⟨j, rfl⟩ := Int.eq_ofNat_of_zero_le h0
       refine atI_nat ?_
       have hj : j < ns.length := by omega
       rw [List.getElem?_map, List.getElem?_eq_getElem hj]
       simp [cellAt, hj]
     exact ⟨_, rfl, _, rfl, a, _, k, _, rfl, rfl, hS, e, kq⟩
   · have h2 : ¬ k < (ns.length : Int) := by simpa using h1
     have e : cellAt ns k = 0 := by
       unfold cellAt
       have : ns.length ≤ k.toNat := by omega
       simp [this]
     rw [e] at kq
     exact kq
noncomputable abbrev s_L_faces_by : Stmt := top 27
theorem sc_L_faces_by : FnScope ["_law_word", "_law_family", "_law_size", "_law_faces", "_law_i"] ["_law_word", "_law_family"] (defScope s_L_faces_by) := ⟨rfl, rfl, rfl, by decide +kernel, rfl, by decide +kernel, by decide +kernel⟩
theorem nd_L_faces_by : (["_law_word", "_law_family", "_law_size", "_law_faces", "_law_i"] : List Str).Nodup := by decide +kernel
theorem ok_L_faces_by {f : Addr} {fd : FuncData} (F : Fun K "_law_faces_by" "_law_faces_by" s_L_faces_by f fd) (T : Txt K mg C_HoleError C_NoShape C_NoChain C_NoGlue)  : FnOk P w K mg base CX0 1 f fd ["_law_word", "_law_family"] (sp_L_faces_by K) := by
 refine F.ok sc_L_faces_by (fun vs H Q E h => ?_) (fun cdv A outer s H vs Q E hr h => ?_)
 · obtain ⟨v, w, fam, rfl, hv, hw, k⟩ := h
   rfl
 · obtain ⟨v, w, fam, rfl, hv, hw, k⟩ := h
   refine ⟨_, (pss_cons (ps_set (i := 2) nd_L_faces_by (by rfl) (by first | exact Or.inl rfl | exact Or.inr rfl) (pe_callB (kcall_len_seq (K := K)) (by rfl) T.n_len PySem.boot_len (pa_cons (pv 0) pa_nil)))
     (pss_cons (ps_if (pt_cmpR op_eq (pv 1) pe_int (nomark _)) (pss_cons (ps_if (pt_cmpR op_lt (pv 2) pe_int (nomark _)) (pss_one (ps_ret (pe_lst pa_nil))) pss_nil)
     (pss_one (ps_ret (pe_comp (N' := ["_law_i", "_law_word"]) (cap := [none, some 0]) (by rfl) (by kernel_rfl) (pi_range1 (by rfl) T.n_range (pa_cons (pv 2) pa_nil)) (fun _ _ _ _ => (pg_name (i := 0) ndc_7 (by rfl) (by first | exact Or.inl rfl | exact Or.inr rfl))) (fun _ _ _ _ => pts_nil) (fun _ _ _ _ => (pe_op (kop_catW (K := K)) (pe_slice (ksl_tupW (K := K)) (pv 1) po_none (po_some (pv 0))) (pe_slice (ksl_tupW (K := K)) (pv 1) (po_some (pe_op op_add (pv 0) pe_int)) po_none))))))) pss_nil)
     (pss_cons (ps_if (pt_cmpR op_eq (pv 2) pe_int (nomark _)) (pss_one (ps_ret (pe_lst pa_nil))) pss_nil)
     (pss_cons (ps_if (pt_cmpR op_lt (pv 1) pe_int (nomark _)) (pss_cons (ps_if (pt_cmpR op_eq (pv 2) pe_int (nomark _)) (pss_one (ps_ret (pe_lst (pa_cons (pe_tup pa_nil) (pa_cons (pe_tup pa_nil) pa_nil))))) pss_nil)
     (pss_one (ps_ret (pe_comp (N' := ["_law_letter"]) (cap := [none]) (by rfl) (by kernel_rfl) (kpi_tup (K := K) (pv 0)) (fun _ _ _ _ => (pg_name (i := 0) ndc_6 (by rfl) (by first | exact Or.inl rfl | exact Or.inr rfl))) (fun _ _ _ _ => pts_nil) (fun _ _ _ _ => (pe_tup (pa_cons (pv 0) pa_nil))))))) pss_nil)
     (pss_cons (ps_set (i := 3) nd_L_faces_by (by rfl) (by first | exact Or.inl rfl | exact Or.inr rfl) (pe_lst (pa_cons (pe_slice (ksl_tupW (K := K)) (pv 0) (po_some pe_int) po_none) pa_nil)))
     (pss_cons (ps_for PassesOwn.never rfl (pi_range1 (by rfl) T.n_range (pa_cons (pe_op op_sub (pv 2) pe_int) pa_nil)) (pg_name (i := 4) nd_L_faces_by (by rfl) (by first | exact Or.inl rfl | exact Or.inr rfl)) (pss_one (ps_expr (kpe_bm (K := K) PySem.F.plainAttrs_list PySem.F.slot_list_append PySem.F.type_list_append mt_append (pv 3) (pa_cons (pe_op (kop_catW (K := K)) (pe_op (kop_catW (K := K)) (pe_slice (ksl_tupW (K := K)) (pv 0) po_none (po_some (pv 4))) (pe_tup (pa_cons (pe_op op_mod (pe_op op_add (pe_ix (kix_tup (K := K)) (pv 0) (pv 4) (fun _ _ => rfl)) (pe_ix (kix_tup (K := K)) (pv 0) (pe_op op_add (pv 4) pe_int) (fun _ _ => rfl))) (pv 1)) pa_nil))) (pe_slice (ksl_tupW (K := K)) (pv 0) (po_some (pe_op op_add (pv 4) pe_int)) po_none)) pa_nil)))))
     (pss_cons (ps_expr (kpe_bm (K := K) PySem.F.plainAttrs_list PySem.F.slot_list_append PySem.F.type_list_append mt_append (pv 3) (pa_cons (pe_slice (ksl_tupW (K := K)) (pv 0) po_none (po_some (pe_op op_sub (pv 2) pe_int))) pa_nil)))
     (pss_one (ps_ret (pv 3)))))))))), ?_⟩
   obtain ⟨aw, rfl, hq⟩ := hv.sq
   have hlen : (w.map V.int).length = w.length := List.length_map ..
   have hl4 : w.length ≤ 4 := by rcases hw with z | z | z <;> omega
   refine ⟨_, rfl, aw, _, rfl, .inr hq, ?_⟩
   rw [hlen]
   refine ⟨_, rfl, rfl, _, rfl, ?_⟩
   refine ite2 (fun h1 => ?_) (fun h1 => ?_)
   · have hf : fam = 0 := by simpa using h1
     subst hf
     refine ⟨_, rfl, _, _, rfl, rfl, _, rfl, ?_⟩
     refine ite2 (fun h2 => ?_) (fun h2 => ?_)
     · have h3 : w.length < 2 := by have : (w.length : Int) < 2 := by simpa using h2
                                    omega
       refine ⟨Nat.zero_le _, fun p hp => ?_⟩
       refine k p [] _ hp (Same.new hp) upd_same ?_
       have e : facesBy w 0 = [] := by unfold facesBy; rw [if_pos rfl, if_pos h3]
       rw [e]
       rfl
     · have h3 : ¬ w.length < 2 := by have : ¬ (w.length : Int) < 2 := by simpa using h2
                                      omega
       have e : facesBy w 0 = (List.range w.length).map fun i => w.take i ++ w.drop (i + 1) := by unfold facesBy; rw [if_pos rfl, if_neg h3]
       rw [e] at k
       refine ⟨_, rfl, _, rfl, by omega, by omega, fun D hD => ?_⟩
       refine comp_range0 (fun i ys τ H1 => i ≤ w.length ∧ Same H H1 ∧ H1 D = some (.lst ys) ∧ Reps K H1 ys (((List.range i).map fun i => w.take i ++ w.drop (i + 1)).map tI) ∧ ∃ o, τ = [o, some (.ref aw)])
         ⟨Nat.zero_le _, Same.new hD, upd_same, rfl, none, rfl⟩ ?_ ?_
       · rintro i ys τ H1 hi ⟨hi1, s1, hD1, r1, o, rfl⟩
         have hi2 : i < w.length := by simpa using hi
         have hq1 : SqT K H1 aw (w.map V.int) := s1.seqT hq
         refine ⟨_, rfl, _, rfl, _, rfl, aw, _, rfl, hq1, ?_, fun p1 H2 s2 q2 => ?_⟩
         · rw [hlen]; rintro ⟨_, z⟩
           rw [show ((0 : Int) + (i : Int)) = ((i : Nat) : Int) by omega, HT.sIx_nat] at z
           omega
         refine ⟨_, rfl, _, rfl, _, _, rfl, rfl, _, rfl, aw, _, rfl, s2.seqT hq1, ?_, fun p2 H3 s3 q3 => ?_⟩
         · rw [hlen]; rintro ⟨z, _⟩
           rw [show ((0 : Int) + (i : Int) + 1) = ((i + 1 : Nat) : Int) by omega, HT.sIx_nat] at z
           omega
         rw [show ((0 : Int) + (i : Int)) = ((i : Nat) : Int) by omega, cut_take] at q2
         rw [show ((0 : Int) + (i : Int) + 1) = ((i + 1 : Nat) : Int) by omega, cut_drop] at q3
         refine ⟨p1, p2, _, _, rfl, rfl, s3.seqT q2, q3, ?_, fun p H4 s4 q4 => ?_⟩
         · refine smallE ?_
           simp only [List.length_take, List.length_drop, List.length_map]
           omega
         have s14 : Same H1 H4 := (s2.trans s3).trans s4
         have hD4 : H4 D = some (.lst ys) := s14 _ _ hD1
         have t4 : TI K H4 (.ref p) (w.take i ++ w.drop (i + 1)) := by
           refine TI.mk ?_
           rw [List.map_append, List.map_take, List.map_drop]
           exact q4
         have r4 : Reps K H4 ys (((List.range i).map fun i => w.take i ++ w.drop (i + 1)).map tI) := Reps.same s14 r1
         have hyl : ys.length = i := by have := r1.length; simpa using this
         refine ⟨hD4, small (by omega), by omega, (s1.trans s14).turn hD, upd_same, ?_, _, rfl⟩
         rw [List.range_succ, List.map_append]
         exact push_TI hD4 r4 t4
       · rintro ys τ H1 ⟨_, s1, hD1, r1, _⟩
         rw [show ((w.length : Int)).toNat = w.length by omega] at r1
         exact k D ys H1 hD s1 hD1 r1
   · have hf : ¬ fam = 0 := by simpa using h1
     refine ⟨_, rfl, rfl, _, rfl, ?_⟩
     refine ite2 (fun h2 => ?_) (fun h2 => ?_)
     · have h3 : w.length = 0 := by simpa using h2
       refine ⟨Nat.zero_le _, fun p hp => ?_⟩
       refine k p [] _ hp (Same.new hp) upd_same ?_
       have e : facesBy w fam = [] := by unfold facesBy; rw [if_neg hf, if_pos h3]
       rw [e]
       rfl
     have h3 : ¬ w.length = 0 := by simpa using h2
     refine ⟨_, rfl, _, _, rfl, rfl, _, rfl, ?_⟩
     refine ite2 (fun h4 => ?_) (fun h4 => ?_)
     · have h5 : fam < 0 := by simpa using h4
       refine ⟨_, rfl, rfl, _, rfl, ?_⟩
       refine ite2 (fun h6 => ?_) (fun h6 => ?_)
       · have h7 : w.length = 1 := by
           have : (w.length : Int) = 1 := by simpa using h6
           omega
         have e : facesBy w fam = [[], []] := by unfold facesBy; rw [if_neg hf, if_neg h3, if_pos h5, if_pos h7]
         rw [e] at k
         refine ⟨Nat.zero_le _, fun p1 hp1 => ⟨Nat.zero_le _, fun p2 hp2 => ⟨smallE (by simp), fun p hp => ?_⟩⟩⟩
         have s1 : Same H (upd H p1 (.tup [])) := Same.new hp1
         have s2 : Same (upd H p1 (.tup [])) (upd (upd H p1 (.tup [])) p2 (.tup [])) := Same.new hp2
         have s3 : Same (upd (upd H p1 (.tup [])) p2 (.tup [])) (upd (upd (upd H p1 (.tup [])) p2 (.tup [])) p (.lst [.ref p1, .ref p2])) := Same.new hp
         have hp0 : H p = none := (s1.trans s2).free hp
         refine k p _ _ hp0 ((s1.trans s2).trans s3) upd_same ?_
         have t1 : TI K _ (.ref p1) [] := TI.mk (.of (s3 _ _ (s2 _ _ upd_same)))
         have t2 : TI K _ (.ref p2) [] := TI.mk (.of (s3 _ _ upd_same))
         exact ⟨_, _, rfl, t1, _, _, rfl, t2, rfl⟩
       · have h7 : ¬ w.length = 1 := by
           have : ¬ (w.length : Int) = 1 := by simpa using h6
           omega
         have e : facesBy w fam = w.map fun l => [l] := by unfold facesBy; rw [if_neg hf, if_neg h3, if_pos h5, if_neg h7]
         rw [e] at k
         refine ⟨_, rfl, aw, rfl, ⟨_, hq⟩, fun D hD => ?_⟩
         refine comp_tup0 (xs := w.map V.int) (fun i ys τ H1 => i ≤ w.length ∧ Same H H1 ∧ H1 D = some (.lst ys) ∧ Reps K H1 ys (((w.take i).map fun l => [l]).map tI) ∧ ∃ o, τ = [o])
           ⟨Nat.zero_le _, Same.new hD, upd_same, rfl, none, rfl⟩ (fun i ys τ H1 _ ⟨_, s1, _⟩ => s1.seqT hq) ?_ ?_
         · rintro i x ys τ H1 hx ⟨hi1, s1, hD1, r1, o, rfl⟩
           have hi2 : i < w.length := by have := (List.getElem?_eq_some_iff.mp hx).1; simpa using this
           have hx2 : x = .int w[i] := by
             rw [List.getElem?_map, List.getElem?_eq_getElem hi2] at hx
             simpa using hx.symm
           subst hx2
           refine ⟨_, rfl, smallE (by simp), fun p hp => ?_⟩
           have s2 : Same H1 (upd H1 p (.tup [.int w[i]])) := Same.new hp
           have hD4 := s2 _ _ hD1
           have t4 : TI K (upd H1 p (.tup [.int w[i]])) (.ref p) [w[i]] := TI.mk (.of upd_same)
           have r4 := Reps.same s2 r1
           have hyl : ys.length = i := by have := r1.length; simp at this; omega
           refine ⟨hD4, small (by omega), by omega, (s1.trans s2).turn hD, upd_same, ?_, _, rfl⟩
           have e2 : (w.take (i + 1)).map (fun l => [l]) = (w.take i).map (fun l => [l]) ++ [[w[i]]] := by
             rw [List.take_succ, List.getElem?_eq_getElem hi2, List.map_append]
             rfl
           rw [e2]
           exact push_TI hD4 r4 t4
         · rintro ys τ H1 ⟨_, s1, hD1, r1, _⟩
           rw [hlen, List.take_length] at r1
           exact k D ys H1 hD s1 hD1 r1
     have h5 : ¬ fam < 0 := by simpa using h4
     have hpos : 0 < fam := by omega
     have e : facesBy w fam = w.drop 1 :: ((List.range (w.length - 1)).map fun i => w.take i ++ [(w.getD i 0 + w.getD (i + 1) 0) % fam] ++ w.drop (i + 2)) ++ [w.take (w.length - 1)] := by
       unfold facesBy; rw [if_neg hf, if_neg h3, if_neg h5]
     rw [e] at k
     refine ⟨_, rfl, _, rfl, aw, _, rfl, hq, ?_, fun p1 H1 s1 q1 => ⟨smallE (by simp), fun D hD => ?_⟩⟩
     · rw [hlen]; rintro ⟨z, _⟩
       rw [show (1 : Int) = ((1 : Nat) : Int) by omega, HT.sIx_nat] at z
       omega
     rw [show (1 : Int) = ((1 : Nat) : Int) by omega, cut_drop] at q1
     have hD0 : H D = none := s1.free hD
     have s2 : Same H1 (upd H1 D (.lst [.ref p1])) := Same.new hD
     have t1 : TI K (upd H1 D (.lst [.ref p1])) (.ref p1) (w.drop 1) := by
       refine TI.mk ?_
       rw [List.map_drop]
       exact s2.seqT q1
     have hn : ((w.length : Int) - 1).toNat = w.length - 1 := by omega
     refine ⟨_, rfl, _, _, rfl, rfl, _, rfl, by omega, by omega, for_range (lo := 0) (n := ((w.length : Int) - 1).toNat)
       (fun i σ H2 => ∃ (ys : List V) (o : Option V), σ = [some (.ref aw), some (.int fam), some (.int w.length), some (.ref D), o] ∧ Same H H2 ∧ H2 D = some (.lst ys) ∧
         Reps K H2 ys ((w.drop 1 :: ((List.range i).map fun i => w.take i ++ [(w.getD i 0 + w.getD (i + 1) 0) % fam] ++ w.drop (i + 2))).map tI))
       ⟨_, none, rfl, s1.trans s2, upd_same, ⟨_, _, rfl, t1, rfl⟩⟩ ?_ ?_⟩
     · rintro i σ H2 hi ⟨ys, o, rfl, sH, hD2, r2⟩
       rw [hn] at hi
       have hq2 : SqT K H2 aw (w.map V.int) := sH.seqT hq
       have c0 : ((0 : Int) + (i : Int)) = ((i : Nat) : Int) := by omega
       have c1 : ((0 : Int) + (i : Int) + 1) = ((i + 1 : Nat) : Int) := by omega
       have c2 : ((0 : Int) + (i : Int) + 2) = ((i + 2 : Nat) : Int) := by omega
       have at0 : atI (w.map V.int) ((0 : Int) + (i : Int)) = some (.int (w.getD i 0)) := by
         rw [c0]
         refine atI_nat ?_
         rw [List.getElem?_map, List.getElem?_eq_getElem (by omega)]
         simp [show i < w.length by omega]
       have at1 : atI (w.map V.int) ((0 : Int) + (i : Int) + 1) = some (.int (w.getD (i + 1) 0)) := by
         rw [c1]
         refine atI_nat ?_
         rw [List.getElem?_map, List.getElem?_eq_getElem (by omega)]
         simp [show i + 1 < w.length by omega]
       refine ⟨_, rfl, .inl ⟨rfl, _, SqL.of hD2⟩, ?_⟩
       refine ⟨_, rfl, _, rfl, _, rfl, aw, _, rfl, hq2, ?_, fun pa Ha sa qa => ?_⟩
       · rw [hlen]; rintro ⟨_, z⟩
         rw [c0, HT.sIx_nat] at z
         omega
       rw [c0, cut_take] at qa
       refine ⟨_, rfl, _, rfl, aw, _, _, _, rfl, rfl, sa.seqT hq2, at0, _, rfl, _, rfl, _, _, rfl, rfl, aw, _, _, _, rfl, rfl, sa.seqT hq2, at1, _, _, rfl, rfl, _, rfl, _, _, rfl, rfl, hpos, smallE (by simp), fun pb hb => ?_⟩
       have sb : Same Ha (upd Ha pb (.tup [.int ((w.getD i 0 + w.getD (i + 1) 0) % fam)])) := Same.new hb
       refine ⟨pa, pb, _, _, rfl, rfl, sb.seqT qa, .of upd_same, smallE (by simp; omega), fun pc Hc sc qc => ?_⟩
       have sac := (sa.trans sb).trans sc
       refine ⟨_, rfl, _, rfl, _, _, rfl, rfl, _, rfl, aw, _, rfl, sac.seqT hq2, ?_, fun pd Hd sd qd => ?_⟩
       · rw [hlen]; rintro ⟨z, _⟩
         rw [c2, HT.sIx_nat] at z
         omega
       rw [c2, cut_drop] at qd
       refine ⟨pc, pd, _, _, rfl, rfl, sd.seqT qc, qd, smallE (by simp; omega), fun pe He se qe => ?_⟩
       have sall := (sac.trans sd).trans se
       have hDe := sall _ _ hD2
       have te : TI K He (.ref pe) (w.take i ++ [(w.getD i 0 + w.getD (i + 1) 0) % fam] ++ w.drop (i + 2)) := by
         refine TI.mk ?_
         simp only [List.map_append, List.map_take, List.map_drop, List.map_cons, List.map_nil]
         exact qe
       have hyl : ys.length = i + 1 := by have := r2.length; simpa using this
       refine ⟨D, _, _, rfl, rfl, hDe, small (by omega), ?_⟩
       refine ⟨_, _, rfl, (sH.trans sall).turn hD0, upd_same, ?_⟩
       have e3 : (w.drop 1 :: ((List.range (i + 1)).map fun i => w.take i ++ [(w.getD i 0 + w.getD (i + 1) 0) % fam] ++ w.drop (i + 2))) =
           (w.drop 1 :: ((List.range i).map fun i => w.take i ++ [(w.getD i 0 + w.getD (i + 1) 0) % fam] ++ w.drop (i + 2))) ++ [w.take i ++ [(w.getD i 0 + w.getD (i + 1) 0) % fam] ++ w.drop (i + 2)] := by
         rw [List.range_succ, List.map_append]
         rfl
       rw [e3]
       exact push_TI hDe (Reps.same sall r2) te
     · rintro σ H2 ⟨ys, o, rfl, sH, hD2, r2⟩
       rw [hn] at r2
       have hq2 : SqT K H2 aw (w.map V.int) := sH.seqT hq
       have c1 : ((w.length : Int) - 1) = ((w.length - 1 : Nat) : Int) := by omega
       refine ⟨_, rfl, .inl ⟨rfl, _, SqL.of hD2⟩, _, rfl, _, rfl, _, _, rfl, rfl, _, rfl, aw, _, rfl, hq2, ?_, fun pa Ha sa qa => ?_⟩
       · rw [hlen]; rintro ⟨_, z⟩
         rw [c1, HT.sIx_nat] at z
         omega
       rw [c1, cut_take] at qa
       have hDa := sa _ _ hD2
       have ta : TI K Ha (.ref pa) (w.take (w.length - 1)) := by
         refine TI.mk ?_
         rw [List.map_take]
         exact qa
       have hyl : ys.length = w.length := by have := r2.length; simp at this; omega
       refine ⟨D, _, _, rfl, rfl, hDa, small (by omega), ?_⟩
       refine ⟨_, rfl, ?_⟩
       exact k D _ _ hD0 ((sH.trans sa).turn hD0) upd_same (push_TI hDa (Reps.same sa r2) ta)
noncomputable abbrev s_L_word_by : Stmt := top 28
theorem sc_L_word_by : FnScope ["_law_cell", "_law_family", "_law_letters", "_law_size", "_law_base", "_law_word", "_law_k"] ["_law_cell", "_law_family", "_law_letters"] (defScope s_L_word_by) := ⟨rfl, rfl, rfl, by decide +kernel, rfl, by decide +kernel, by decide +kernel⟩
theorem nd_L_word_by : (["_law_cell", "_law_family", "_law_letters", "_law_size", "_law_base", "_law_word", "_law_k"] : List Str).Nodup := by decide +kernel
theorem ok_L_word_by {f : Addr} {fd : FuncData} (F : Fun K "_law_word_by" "_law_word_by" s_L_word_by f fd) (T : Txt K mg C_HoleError C_NoShape C_NoChain C_NoGlue)  : FnOk P w K mg base CX0 1 f fd ["_law_cell", "_law_family", "_law_letters"] (sp_L_word_by K) := by
 refine F.ok sc_L_word_by (fun vs H Q E h => ?_) (fun cdv A outer s H vs Q E hr h => ?_)
 · obtain ⟨c, fam, letters, rfl, hl0, hl1, hf, k⟩ := h
   rfl
 · obtain ⟨c, fam, letters, rfl, hl0, hl1, hf, k⟩ := h
   refine ⟨_, (pss_cons (ps_set (i := 0) nd_L_word_by (by rfl) (by first | exact Or.inl rfl | exact Or.inr rfl) (pe_op op_mod (pv 0) pe_int))
     (pss_cons (ps_set (i := 3) nd_L_word_by (by rfl) (by first | exact Or.inl rfl | exact Or.inr rfl) (pe_op op_mod (pv 0) pe_int))
     (pss_cons (ps_set (i := 4) nd_L_word_by (by rfl) (by first | exact Or.inl rfl | exact Or.inr rfl) (pv 2))
     (pss_cons (ps_if (pt_cmpR op_eq (pv 1) pe_int (nomark _)) (pss_one (ps_set (i := 3) nd_L_word_by (by rfl) (by first | exact Or.inl rfl | exact Or.inr rfl) (pe_op op_add (pv 3) pe_int))) pss_nil)
     (pss_cons (ps_if (PW.pt (pw_and (pt_cmpR op_lt (pv 1) pe_int (nomark _)) (pw_and1 (pt_cmpR op_ne (pv 3) pe_int (nomark _))))) (pss_one (ps_set (i := 3) nd_L_word_by (by rfl) (by first | exact Or.inl rfl | exact Or.inr rfl) pe_int)) pss_nil)
     (pss_cons (ps_if (pt_cmpR op_gt (pv 1) pe_int (nomark _)) (pss_one (ps_set (i := 4) nd_L_word_by (by rfl) (by first | exact Or.inl rfl | exact Or.inr rfl) (pv 1))) pss_nil)
     (pss_cons (ps_set (i := 0) nd_L_word_by (by rfl) (by first | exact Or.inl rfl | exact Or.inr rfl) (pe_op op_fdiv (pv 0) pe_int))
     (pss_cons (ps_set (i := 5) nd_L_word_by (by rfl) (by first | exact Or.inl rfl | exact Or.inr rfl) (pe_tup pa_nil))
     (pss_cons (ps_for PassesOwn.never rfl (pi_range1 (by rfl) T.n_range (pa_cons (pv 3) pa_nil)) (pg_name (i := 6) nd_L_word_by (by rfl) (by first | exact Or.inl rfl | exact Or.inr rfl)) (pss_cons (ps_set (i := 5) nd_L_word_by (by rfl) (by first | exact Or.inl rfl | exact Or.inr rfl) (pe_op (kop_catW (K := K)) (pv 5) (pe_tup (pa_cons (pe_op op_mod (pv 0) (pv 4)) pa_nil))))
     (pss_one (ps_set (i := 0) nd_L_word_by (by rfl) (by first | exact Or.inl rfl | exact Or.inr rfl) (pe_op op_fdiv (pv 0) (pv 4))))))
     (pss_one (ps_ret (pv 5)))))))))))), ?_⟩
   have m1 : 0 ≤ c % 1000000 % 4 := Int.emod_nonneg _ (by decide)
   have m2 : c % 1000000 % 4 < 4 := Int.emod_lt_of_pos _ (by decide)
   refine ⟨_, rfl, _, _, rfl, rfl, (by show (0 : Int) < 1000000; decide), ?_⟩
   refine ⟨_, rfl, _, _, rfl, rfl, (by show (0 : Int) < 4; decide), ?_⟩
   refine ⟨_, rfl, ?_⟩
   have fork : (fam = 0) ∨ (fam < 0 ∧ c % 1000000 % 4 = 1) ∨ (fam < 0 ∧ ¬ c % 1000000 % 4 = 1) ∨ 0 < fam := by omega
   have nofam : ¬ fam = 0 → ¬ (decide (V.int fam = V.int 0) = true) := fun z q => z (by simpa using q)
   have isfam : fam = 0 → decide (V.int fam = V.int 0) = true := fun z => by simp [z]
   have hb0 : 0 < letters := hl0
   have hb1 : letters < 1073741824 := by omega
   rcases fork with hz | ⟨hz, h1⟩ | ⟨hz, h1⟩ | hz
   · refine ⟨_, rfl, rfl, _, rfl, ?_⟩
     refine ifP (isfam hz) ?_
     refine ⟨_, rfl, _, _, rfl, rfl, ?_⟩
     refine ⟨_, rfl, _, _, rfl, rfl, _, rfl, ?_⟩
     refine ifN (by simp; omega) ?_
     refine ifN (by simp) ?_
     refine ⟨_, rfl, _, _, rfl, rfl, _, rfl, ?_⟩
     refine ifN (by simp; omega) ?_
     have hW : ∀ w : List Int, w.length = (c % 1000000 % 4 + 1).toNat → Word fam w := fun w e => .inl ⟨hz, by omega, by omega⟩
     refine ⟨_, rfl, _, _, rfl, rfl, ⟨by decide, by decide⟩, Nat.zero_le _, fun p0 hp0 => ?_⟩
     refine ⟨_, rfl, _, rfl, by omega, by omega, ?_⟩
     refine for_range (lo := 0) (n := (c % 1000000 % 4 + 1 : Int).toNat)
       (fun i σ H2 => ∃ (c' : Int) (v : V) (o : Option V) (w : List Int), σ = [some (.int c'), some (.int fam), some (.int letters), some (.int (c % 1000000 % 4 + 1)), some (.int letters), some v, o] ∧ Same H H2 ∧ TI K H2 v w ∧ w.length = i)
       ⟨_, _, none, [], rfl, Same.new hp0, TI.mk (.of upd_same), rfl⟩ ?_ ?_
     · rintro i σ H2 hi ⟨c', v, o, w, rfl, s2, tv, hwl⟩
       obtain ⟨a, rfl, hqa⟩ := tv.sq
       refine ⟨_, rfl, _, rfl, _, rfl, _, _, rfl, rfl, hb0, smallE (by simp), fun pt hpt => ?_⟩
       have s3 : Same H2 (upd H2 pt (.tup [.int (c' % letters)])) := Same.new hpt
       refine ⟨a, pt, _, _, rfl, rfl, s3.seqT hqa, .of upd_same, smallE (by simp; omega), fun p3 H3 s4 q3 => ?_⟩
       refine ⟨_, rfl, _, rfl, _, _, rfl, rfl, ⟨hb0, hb1⟩, ?_⟩
       refine ⟨_, _, _, w ++ [c' % letters], rfl, (s2.trans s3).trans s4, TI.mk ?_, by simp [hwl]⟩
       rw [List.map_append]
       exact q3
     · rintro σ H2 ⟨c', v, o, w, rfl, s2, tv, hwl⟩
       exact ⟨_, rfl, k v H2 w s2 tv (hW w hwl)⟩
   · refine ⟨_, rfl, rfl, _, rfl, ?_⟩
     refine ifN (nofam (by omega)) ?_
     refine ⟨_, rfl, _, _, rfl, rfl, _, rfl, ?_⟩
     refine ifP (by simp; omega) ?_
     refine ⟨_, rfl, rfl, _, rfl, ?_⟩
     refine ifN (eqI h1) ?_
     refine ⟨_, rfl, _, _, rfl, rfl, _, rfl, ?_⟩
     refine ifN (by simp; omega) ?_
     have hW : ∀ w : List Int, w.length = (c % 1000000 % 4).toNat → Word fam w := fun w e => .inr (.inl ⟨hz, by omega⟩)
     refine ⟨_, rfl, _, _, rfl, rfl, ⟨by decide, by decide⟩, Nat.zero_le _, fun p0 hp0 => ?_⟩
     refine ⟨_, rfl, _, rfl, by omega, by omega, ?_⟩
     refine for_range (lo := 0) (n := (c % 1000000 % 4 : Int).toNat)
       (fun i σ H2 => ∃ (c' : Int) (v : V) (o : Option V) (w : List Int), σ = [some (.int c'), some (.int fam), some (.int letters), some (.int (c % 1000000 % 4)), some (.int letters), some v, o] ∧ Same H H2 ∧ TI K H2 v w ∧ w.length = i)
       ⟨_, _, none, [], rfl, Same.new hp0, TI.mk (.of upd_same), rfl⟩ ?_ ?_
     · rintro i σ H2 hi ⟨c', v, o, w, rfl, s2, tv, hwl⟩
       obtain ⟨a, rfl, hqa⟩ := tv.sq
       refine ⟨_, rfl, _, rfl, _, rfl, _, _, rfl, rfl, hb0, smallE (by simp), fun pt hpt => ?_⟩
       have s3 : Same H2 (upd H2 pt (.tup [.int (c' % letters)])) := Same.new hpt
       refine ⟨a, pt, _, _, rfl, rfl, s3.seqT hqa, .of upd_same, smallE (by simp; omega), fun p3 H3 s4 q3 => ?_⟩
       refine ⟨_, rfl, _, rfl, _, _, rfl, rfl, ⟨hb0, hb1⟩, ?_⟩
       refine ⟨_, _, _, w ++ [c' % letters], rfl, (s2.trans s3).trans s4, TI.mk ?_, by simp [hwl]⟩
       rw [List.map_append]
       exact q3
     · rintro σ H2 ⟨c', v, o, w, rfl, s2, tv, hwl⟩
       exact ⟨_, rfl, k v H2 w s2 tv (hW w hwl)⟩
   · refine ⟨_, rfl, rfl, _, rfl, ?_⟩
     refine ifN (nofam (by omega)) ?_
     refine ⟨_, rfl, _, _, rfl, rfl, _, rfl, ?_⟩
     refine ifP (by simp; omega) ?_
     refine ⟨_, rfl, rfl, _, rfl, ?_⟩
     refine ifP (neI h1) ?_
     refine ⟨_, rfl, _, _, rfl, rfl, _, rfl, ?_⟩
     refine ifN (by simp; omega) ?_
     have hW : ∀ w : List Int, w.length = (3 : Int).toNat → Word fam w := fun w e => .inr (.inl ⟨hz, .inr (.inr e)⟩)
     refine ⟨_, rfl, _, _, rfl, rfl, ⟨by decide, by decide⟩, Nat.zero_le _, fun p0 hp0 => ?_⟩
     refine ⟨_, rfl, _, rfl, by omega, by omega, ?_⟩
     refine for_range (lo := 0) (n := (3 : Int).toNat)
       (fun i σ H2 => ∃ (c' : Int) (v : V) (o : Option V) (w : List Int), σ = [some (.int c'), some (.int fam), some (.int letters), some (.int (3)), some (.int letters), some v, o] ∧ Same H H2 ∧ TI K H2 v w ∧ w.length = i)
       ⟨_, _, none, [], rfl, Same.new hp0, TI.mk (.of upd_same), rfl⟩ ?_ ?_
     · rintro i σ H2 hi ⟨c', v, o, w, rfl, s2, tv, hwl⟩
       obtain ⟨a, rfl, hqa⟩ := tv.sq
       refine ⟨_, rfl, _, rfl, _, rfl, _, _, rfl, rfl, hb0, smallE (by simp), fun pt hpt => ?_⟩
       have s3 : Same H2 (upd H2 pt (.tup [.int (c' % letters)])) := Same.new hpt
       refine ⟨a, pt, _, _, rfl, rfl, s3.seqT hqa, .of upd_same, smallE (by simp; omega), fun p3 H3 s4 q3 => ?_⟩
       refine ⟨_, rfl, _, rfl, _, _, rfl, rfl, ⟨hb0, hb1⟩, ?_⟩
       refine ⟨_, _, _, w ++ [c' % letters], rfl, (s2.trans s3).trans s4, TI.mk ?_, by simp [hwl]⟩
       rw [List.map_append]
       exact q3
     · rintro σ H2 ⟨c', v, o, w, rfl, s2, tv, hwl⟩
       exact ⟨_, rfl, k v H2 w s2 tv (hW w hwl)⟩
   · refine ⟨_, rfl, rfl, _, rfl, ?_⟩
     refine ifN (nofam (by omega)) ?_
     refine ⟨_, rfl, _, _, rfl, rfl, _, rfl, ?_⟩
     refine ifN (by simp; omega) ?_
     refine ifN (by simp) ?_
     refine ⟨_, rfl, _, _, rfl, rfl, _, rfl, ?_⟩
     refine ifP (by simp; omega) ?_
     refine ⟨_, rfl, ?_⟩
     have hW : ∀ w : List Int, w.length = (c % 1000000 % 4).toNat → Word fam w := fun w e => .inr (.inr ⟨hz, by omega⟩)
     have hb0 : 0 < fam := hz
     have hb1 : fam < 1073741824 := by omega
     refine ⟨_, rfl, _, _, rfl, rfl, ⟨by decide, by decide⟩, Nat.zero_le _, fun p0 hp0 => ?_⟩
     refine ⟨_, rfl, _, rfl, by omega, by omega, ?_⟩
     refine for_range (lo := 0) (n := (c % 1000000 % 4 : Int).toNat)
       (fun i σ H2 => ∃ (c' : Int) (v : V) (o : Option V) (w : List Int), σ = [some (.int c'), some (.int fam), some (.int letters), some (.int (c % 1000000 % 4)), some (.int fam), some v, o] ∧ Same H H2 ∧ TI K H2 v w ∧ w.length = i)
       ⟨_, _, none, [], rfl, Same.new hp0, TI.mk (.of upd_same), rfl⟩ ?_ ?_
     · rintro i σ H2 hi ⟨c', v, o, w, rfl, s2, tv, hwl⟩
       obtain ⟨a, rfl, hqa⟩ := tv.sq
       refine ⟨_, rfl, _, rfl, _, rfl, _, _, rfl, rfl, hb0, smallE (by simp), fun pt hpt => ?_⟩
       have s3 : Same H2 (upd H2 pt (.tup [.int (c' % fam)])) := Same.new hpt
       refine ⟨a, pt, _, _, rfl, rfl, s3.seqT hqa, .of upd_same, smallE (by simp; omega), fun p3 H3 s4 q3 => ?_⟩
       refine ⟨_, rfl, _, rfl, _, _, rfl, rfl, ⟨hb0, hb1⟩, ?_⟩
       refine ⟨_, _, _, w ++ [c' % fam], rfl, (s2.trans s3).trans s4, TI.mk ?_, by simp [hwl]⟩
       rw [List.map_append]
       exact q3
     · rintro σ H2 ⟨c', v, o, w, rfl, s2, tv, hwl⟩
       exact ⟨_, rfl, k v H2 w s2 tv (hW w hwl)⟩
noncomputable abbrev s_L_turned_order : Stmt := top 31
theorem sc_L_turned_order : FnScope ["_law_shape", "_law_cells", "_law_pieces", "_law_old", "_law_cell", "_law_at", "_law_other"] ["_law_shape", "_law_cells"] (defScope s_L_turned_order) := ⟨rfl, rfl, rfl, by decide +kernel, rfl, by decide +kernel, by decide +kernel⟩
theorem nd_L_turned_order : (["_law_shape", "_law_cells", "_law_pieces", "_law_old", "_law_cell", "_law_at", "_law_other"] : List Str).Nodup := by decide +kernel
theorem ok_L_turned_order {f : Addr} {fd : FuncData} (F : Fun K "_law_turned_order" "_law_turned_order" s_L_turned_order f fd) (T : Txt K mg C_HoleError C_NoShape C_NoChain C_NoGlue)  : FnOk P w K mg base CX0 1 f fd ["_law_shape", "_law_cells"] (sp_L_turned_order K) := by
 refine F.ok sc_L_turned_order (fun vs H Q E h => ?_) (fun cdv A outer s H vs Q E hr h => ?_)
 · obtain ⟨a, l, ns, xs, rfl, hL, hS, hnl, hxl, hx4, k⟩ := h
   rfl
 · obtain ⟨a, l, ns, xs, rfl, hL, hS, hnl, hxl, hx4, k⟩ := h
   have hu8 : (A.deeper (PyProof.Rows.envOfC "_law_turned_order" (defScope s_L_turned_order) s.heap.objs.size f cdv)).units + 8 < cLine := by have := hr.units; omega
   refine ⟨_, (pss_cons (ps_set (i := 2) nd_L_turned_order (by rfl) (by first | exact Or.inl rfl | exact Or.inr rfl) (pe_callTy (kcall_list_of (K := K)) (by rfl) T.n_list boot_listT (pa_cons (pv 0) pa_nil)))
     (pss_cons (ps_set (i := 3) nd_L_turned_order (by rfl) (by first | exact Or.inl rfl | exact Or.inr rfl) (pe_listRange (by rfl) (by rfl) T.n_list (by rfl) T.n_range (pa_cons (pe_callB (kcall_len_seq (K := K)) (by rfl) T.n_len PySem.boot_len (pa_cons (pv 0) pa_nil)) pa_nil)))
     (pss_cons (ps_for PassesOwn.never rfl (kpi_list (K := K) (pv 1)) (pg_name (i := 4) nd_L_turned_order (by rfl) (by first | exact Or.inl rfl | exact Or.inr rfl)) (pss_one (ps_if (pt_cmpR op_gt (pe_callB (kcall_len_seq (K := K)) (by rfl) T.n_len PySem.boot_len (pa_cons (pv 2) pa_nil)) pe_int (nomark _)) (pss_cons (ps_set (i := 5) nd_L_turned_order (by rfl) (by first | exact Or.inl rfl | exact Or.inr rfl) (pe_op op_mod (pv 4) (pe_op op_sub (pe_callB (kcall_len_seq (K := K)) (by rfl) T.n_len PySem.boot_len (pa_cons (pv 2) pa_nil)) pe_int)))
     (pss_one (ps_if (pt_cmpR (kop_notInD (K := K) hu8) (pv 5) (pe_ix (kix_list (K := K)) (pv 2) (pe_op op_add (pv 5) pe_int) (fun _ _ => rfl)) rfl) (pss_cons (ps_set (i := 6) nd_L_turned_order (by rfl) (by first | exact Or.inl rfl | exact Or.inr rfl) (pe_disp (pps_cons (pv 5) (pe_op op_add (pv 5) pe_int) (pps_cons (pe_op op_add (pv 5) pe_int) (pv 5) pps_nil)) (by rfl) (by rfl) (by intro z; cases z) (Nat.le_of_ble_eq_true rfl)))
     (pss_cons (ps_set (i := 2) nd_L_turned_order (by rfl) (by first | exact Or.inl rfl | exact Or.inr rfl) (pe_op (kop_catLW (K := K)) (pe_op (kop_catLW (K := K)) (pe_slice (ksl_list (K := K)) (pv 2) po_none (po_some (pv 5))) (pe_lst (pa_cons (pe_ix (kix_list (K := K)) (pv 2) (pe_op op_add (pv 5) pe_int) (fun _ _ => rfl)) (pa_cons (pe_ix (kix_list (K := K)) (pv 2) (pv 5) (fun _ _ => rfl)) pa_nil)))) (pe_slice (ksl_list (K := K)) (pv 2) (po_some (pe_op op_add (pv 5) pe_int)) po_none)))
     (pss_cons (ps_set (i := 3) nd_L_turned_order (by rfl) (by first | exact Or.inl rfl | exact Or.inr rfl) (pe_op (kop_catLW (K := K)) (pe_op (kop_catLW (K := K)) (pe_slice (ksl_list (K := K)) (pv 3) po_none (po_some (pv 5))) (pe_lst (pa_cons (pe_ix (kix_list (K := K)) (pv 3) (pe_op op_add (pv 5) pe_int) (fun _ _ => rfl)) (pa_cons (pe_ix (kix_list (K := K)) (pv 3) (pv 5) (fun _ _ => rfl)) pa_nil)))) (pe_slice (ksl_list (K := K)) (pv 3) (po_some (pe_op op_add (pv 5) pe_int)) po_none)))
     (pss_one (ps_setC (N' := ["_law_piece", "_law_other"]) (cap := [none, some 6]) (i := 2) nd_L_turned_order (by rfl) (by first | exact Or.inl rfl | exact Or.inr rfl) (by rfl) (by kernel_rfl) (kpi_list (K := K) (pv 2)) (fun _ _ _ _ => (pg_name (i := 0) ndc_10 (by rfl) (by first | exact Or.inl rfl | exact Or.inr rfl))) (fun _ _ _ _ => pts_nil) (fun _ _ _ _ => (pe_callTy (kcall_tuple_of (K := K)) (by rfl) T.n_tuple boot_tupleT (pa_cons (pe_comp (N' := ["_law_face", "_law_other"]) (cap := [none, some 1]) (by rfl) (by kernel_rfl) (kpi_tup (K := K) (pv 0)) (fun _ _ _ _ => (pg_name (i := 0) ndc_11 (by rfl) (by first | exact Or.inl rfl | exact Or.inr rfl))) (fun _ _ _ _ => pts_nil) (fun _ _ _ _ => (pe_dget2 (u1 hu8) (pv 1) (pv 0) (pv 0) ⟨by rfl, by rfl, by rfl, by rfl⟩))) pa_nil)))))))) pss_nil))) pss_nil)))
     (pss_one (ps_ret (pe_tup (pa_cons (pv 2) (pa_cons (pv 3) pa_nil)))))))), ?_⟩
   obtain ⟨_, us, z, hq, r⟩ := id hL
   cases z
   have usl : us.length = xs.length := by have := r.length; simpa using this
   refine ⟨_, rfl, a, us, rfl, .inl hq, fun p0 hp0 => ?_⟩
   have s0 : Same H (upd H p0 (.lst us)) := Same.new hp0
   refine tSeq_cut (fun σ' H' => σ' = [some (.ref a), some (.ref l), some (.ref p0), none, none, none, none] ∧ H' = upd H p0 (.lst us)) ?_ fun key0 => key0 _ _ ⟨rfl, rfl⟩
   rintro _ _ ⟨rfl, rfl⟩
   refine tSeq_cut (fun σ' H' => ∃ (o : Addr), σ' = [some (.ref a), some (.ref l), some (.ref p0), some (.ref o), none, none, none] ∧ Same H H' ∧ H' p0 = some (.lst us) ∧ H o = none ∧ H' o = some (.lst ((upN xs.length).map V.int))) ?_ fun key => ?_
   rotate_left
   · refine ⟨_, rfl, a, us, rfl, .inl (s0.seq hq), xs.length, by rw [usl], by omega, fun o ho => ?_⟩
     exact key _ _ ⟨o, rfl, s0.trans (Same.new ho), (Same.new ho) _ _ upd_same, s0.free ho, upd_same⟩
   rintro _ H1 ⟨o, rfl, s1, hp1, hoN, ho1⟩
   refine tSeq_cut (fun σ' H' => ∃ (p o : Addr) (vs : List V) (ys : List (List Int)) (os : List Int) (o1 o2 o3 : Option V), σ' = [some (.ref a), some (.ref l), some (.ref p), some (.ref o), o1, o2, o3] ∧ Same H H' ∧ H p = none ∧ H o = none ∧ H' p = some (.lst vs) ∧ H' o = some (.lst (os.map V.int)) ∧ Reps K H' vs (ys.map tI) ∧ Turned xs ys os) ?_ fun key => ?_
   rotate_left
   · refine ⟨_, rfl, l, rfl, ⟨_, s1.seq hS⟩, for_list (K := K) (a := l) (xs := ns.map V.int)
       (fun j σ H2 => ∃ (p o : Addr) (vs : List V) (ys : List (List Int)) (os : List Int) (o1 o2 o3 : Option V), σ = [some (.ref a), some (.ref l), some (.ref p), some (.ref o), o1, o2, o3] ∧ Same H H2 ∧ H p = none ∧ H o = none ∧ H2 p = some (.lst vs) ∧ H2 o = some (.lst (os.map V.int)) ∧ Reps K H2 vs (ys.map tI) ∧ Turned xs ys os)
       ⟨p0, o, us, xs, _, none, none, none, rfl, s1, hp0, hoN, hp1, ho1, Reps.same s1 r, .refl⟩ (fun j σ H2 _ ⟨_, _, _, _, _, _, _, _, _, s2, _⟩ => s2.seq hS) ?_ ?_⟩
     · rintro j x σ H2 hx ⟨p, o, vs, ys, os, o1, o2, o3, rfl, s2, hp, ho, hp2, ho2, r2, hT⟩
       have hjn : j < ns.length := by have := (List.getElem?_eq_some_iff.mp hx).1; simpa using this
       have hxv : x = .int ns[j] := by
         rw [List.getElem?_map, List.getElem?_eq_getElem hjn] at hx
         simpa using hx.symm
       subst hxv
       have vsl : vs.length = ys.length := by have := r2.length; simpa using this
       obtain ⟨hyl, hol⟩ := hT.len
       refine ⟨_, rfl, p, vs, rfl, .inl (.of hp2), _, _, rfl, rfl, _, rfl, ?_⟩
       refine ite2 (fun h1 => ?_) (fun h1 => ⟨p, o, vs, ys, os, _, _, _, rfl, s2, hp, ho, hp2, ho2, r2, hT⟩)
       have h2 : 1 < ys.length := by
         have : (1 : Int) < (vs.length : Int) := by simpa using h1
         omega
       refine ⟨_, rfl, _, rfl, p, vs, rfl, .inl (.of hp2), _, _, rfl, rfl, _, _, rfl, rfl, (by show (0 : Int) < (vs.length : Int) - 1; omega), ?_⟩
       obtain ⟨t, ht, ht1⟩ : ∃ t : Nat, ns[j] % ((vs.length : Int) - 1) = (t : Int) ∧ t + 1 < ys.length := by
         have a0 : 0 ≤ ns[j] % ((vs.length : Int) - 1) := Int.emod_nonneg _ (by omega)
         have a1 : ns[j] % ((vs.length : Int) - 1) < (vs.length : Int) - 1 := Int.emod_lt_of_pos _ (by omega)
         exact ⟨(ns[j] % ((vs.length : Int) - 1)).toNat, by omega, by omega⟩
       refine tSeq_cut (fun σ' G => σ' = [some (.ref a), some (.ref l), some (.ref p), some (.ref o), some (.int ns[j]), some (.int (t : Int)), o3] ∧ H2 = G) ?_ fun key0 => key0 _ _ ⟨by rw [← ht]; rfl, rfl⟩
       rintro _ _ ⟨rfl, rfl⟩
       have get : ∀ {i : Nat}, i < ys.length → ∃ v, vs[i]? = some v ∧ TI K H2 v (ys.getD i []) := fun {i} hi => by
         have e : (ys.map tI)[i]? = some (tI (ys.getD i [])) := by rw [List.getElem?_map, List.getElem?_eq_getElem hi, List.getD_eq_getElem?_getD, List.getElem?_eq_getElem hi]; rfl
         obtain ⟨v, hv, tv⟩ := r2.get e
         exact ⟨v, hv, tv⟩
       obtain ⟨va, hva, tva⟩ := get (i := t) (by omega)
       obtain ⟨vb, hvb, tvb⟩ := get (i := t + 1) ht1
       have atb : atI vs ((t : Int) + 1) = some vb := atI_nat (j := t + 1) hvb
       have ata : atI vs (t : Int) = some va := atI_nat (j := t) hva
       obtain ⟨ab, rfl, sqb⟩ := TI.sq tvb
       refine ⟨_, rfl, _, rfl, _, rfl, _, _, rfl, rfl, p, vs, _, _, rfl, rfl, .of hp2, atb, .int (t : Int), nums (ys.getD (t + 1) []), rfl, .inr ⟨ab, _, rfl, sqb, reps_nums.mpr rfl⟩, by rw [deps_nums]; decide, _, rfl, ?_⟩
       refine ite2 (fun h3 => ?_) (fun h3 => ⟨p, o, vs, ys, os, _, _, _, rfl, s2, hp, ho, hp2, ho2, r2, hT⟩)
       have hmem : (t : Int) ∉ ys.getD (t + 1) [] := by
         intro hm
         have h4 : ((nums (ys.getD (t + 1) [])).any fun e => eqD e (.int (t : Int))) = true := List.any_eq_true.mpr ⟨.int (t : Int), List.mem_map.mpr ⟨_, hm, rfl⟩, by simp [eqD]⟩
         rw [h4] at h3
         simp at h3
       have hT2 := Turned.step t hT ht1 hmem
       refine fun d hd => ⟨_, rfl, _, rfl, _, _, rfl, rfl, _, rfl, _, _, rfl, rfl, _, rfl, upd_same, [(Sum.inl (t : Int), V.int ((t : Int) + 1)), (Sum.inl ((t : Int) + 1), V.int (t : Int))], rfl, by simp, ?_⟩
       rw [disp_sw]
       have e3 : upd (upd H2 d (.dK [])) d (.dK (cK [((t : Int), (t : Int) + 1), ((t : Int) + 1, (t : Int))])) = upd H2 d (.dK (cK [((t : Int), (t : Int) + 1), ((t : Int) + 1, (t : Int))])) := by
         funext b
         by_cases hb : b = d
         · subst hb; rw [upd_same, upd_same]
         · rw [upd_ne hb, upd_ne hb, upd_ne hb]
       rw [e3]
       have s3 : Same H2 (upd H2 d (.dK (cK [((t : Int), (t : Int) + 1), ((t : Int) + 1, (t : Int))]))) := Same.new hd
       have hd3 : (upd H2 d (.dK (cK [((t : Int), (t : Int) + 1), ((t : Int) + 1, (t : Int))]))) d = some (.dK (cK [((t : Int), (t : Int) + 1), ((t : Int) + 1, (t : Int))])) := upd_same
       generalize upd H2 d (.dK (cK [((t : Int), (t : Int) + 1), ((t : Int) + 1, (t : Int))])) = H3 at s3 hd3
       have hp3 := s3 _ _ hp2
       have ho3 := s3 _ _ ho2
       refine ⟨_, rfl, _, rfl, _, rfl, p, vs, rfl, .of hp3, fun c1 hc1 => ?_⟩
       have s4 : Same H3 (upd H3 c1 (.lst (cutV vs none (some (t : Int))))) := Same.new hc1
       have hc14 : (upd H3 c1 (.lst (cutV vs none (some (t : Int))))) c1 = some (.lst (cutV vs none (some (t : Int)))) := upd_same
       generalize upd H3 c1 (.lst (cutV vs none (some (t : Int)))) = H4 at s4 hc14
       have hp4 := s4 _ _ hp3
       refine ⟨_, rfl, _, rfl, _, _, rfl, rfl, p, vs, _, _, rfl, rfl, .of hp4, atb, _, rfl, _, rfl, p, vs, _, _, rfl, rfl, .of hp4, ata, smallE (by simp), fun c2 hc2 => ?_⟩
       have s5 : Same H4 (upd H4 c2 (.lst [.ref ab, va])) := Same.new hc2
       have hc25 : (upd H4 c2 (.lst [.ref ab, va])) c2 = some (.lst [.ref ab, va]) := upd_same
       generalize upd H4 c2 (.lst [.ref ab, va]) = H5 at s5 hc25
       have len1 : (cutV vs none (some (t : Int))).length ≤ 1000 := by rw [cut_take, List.length_take]; omega
       have len2 : (cutV vs (some ((t : Int) + 2)) none).length ≤ 1000 := by rw [show ((t : Int) + 2) = ((t + 2 : Nat) : Int) by omega, cut_drop, List.length_drop]; omega
       refine ⟨c1, c2, _, _, rfl, rfl, .of (s5 _ _ hc14), .of hc25, smallE (by simp only [List.length_cons, List.length_nil]; omega), fun c3 hc3 => ?_⟩
       have s6 : Same H5 (upd H5 c3 (.lst (cutV vs none (some (t : Int)) ++ [.ref ab, va]))) := Same.new hc3
       have hc36 : (upd H5 c3 (.lst (cutV vs none (some (t : Int)) ++ [.ref ab, va]))) c3 = some (.lst (cutV vs none (some (t : Int)) ++ [.ref ab, va])) := upd_same
       generalize upd H5 c3 (.lst (cutV vs none (some (t : Int)) ++ [.ref ab, va])) = H6 at s6 hc36
       refine ⟨_, rfl, _, rfl, _, _, rfl, rfl, _, rfl, p, vs, rfl, .of ((s5.trans s6) _ _ hp4), fun c4 hc4 => ?_⟩
       have s7 : Same H6 (upd H6 c4 (.lst (cutV vs (some ((t : Int) + 2)) none))) := Same.new hc4
       have hc47 : (upd H6 c4 (.lst (cutV vs (some ((t : Int) + 2)) none))) c4 = some (.lst (cutV vs (some ((t : Int) + 2)) none)) := upd_same
       generalize upd H6 c4 (.lst (cutV vs (some ((t : Int) + 2)) none)) = H7 at s7 hc47
       refine ⟨c3, c4, _, _, rfl, rfl, .of (s7 _ _ hc36), .of hc47, smallE (by simp only [List.length_append, List.length_cons, List.length_nil]; omega), fun c5 hc5 => ?_⟩
       have s8 : Same H7 (upd H7 c5 (.lst (cutV vs none (some (t : Int)) ++ [.ref ab, va] ++ cutV vs (some ((t : Int) + 2)) none))) := Same.new hc5
       have hc58 : (upd H7 c5 (.lst (cutV vs none (some (t : Int)) ++ [.ref ab, va] ++ cutV vs (some ((t : Int) + 2)) none))) c5 = some (.lst (cutV vs none (some (t : Int)) ++ [.ref ab, va] ++ cutV vs (some ((t : Int) + 2)) none)) := upd_same
       have r8 := reps_swap r2 tva tvb
       generalize upd H7 c5 (.lst (cutV vs none (some (t : Int)) ++ [.ref ab, va] ++ cutV vs (some ((t : Int) + 2)) none)) = H8 at s8 hc58
       generalize cutV vs none (some (t : Int)) ++ [.ref ab, va] ++ cutV vs (some ((t : Int) + 2)) none = ws at hc58 r8
       have s28 : Same H2 H8 := ((((s3.trans s4).trans s5).trans s6).trans s7).trans s8
       have hd8 : H8 d = some (.dK (cK [((t : Int), (t : Int) + 1), ((t : Int) + 1, (t : Int))])) := ((((s4.trans s5).trans s6).trans s7).trans s8) _ _ hd3
       replace r8 := Reps.same s28 r8
       have ho8 := s28 _ _ ho2
       have oa : atI (os.map V.int) (t : Int) = some (.int (os.getD t 0)) := atI_nat (j := t) (by rw [List.getElem?_map, List.getElem?_eq_getElem (by omega), List.getD_eq_getElem?_getD, List.getElem?_eq_getElem (by omega)]; rfl)
       have ob : atI (os.map V.int) ((t : Int) + 1) = some (.int (os.getD (t + 1) 0)) := atI_nat (j := t + 1) (by rw [List.getElem?_map, List.getElem?_eq_getElem (by omega), List.getD_eq_getElem?_getD, List.getElem?_eq_getElem (by omega)]; rfl)
       refine ⟨_, rfl, _, rfl, _, rfl, o, _, rfl, .of ho8, fun e1 he1 => ?_⟩
       have s9 : Same H8 (upd H8 e1 (.lst (cutV (os.map V.int) none (some (t : Int))))) := Same.new he1
       have he19 : (upd H8 e1 (.lst (cutV (os.map V.int) none (some (t : Int))))) e1 = some (.lst (cutV (os.map V.int) none (some (t : Int)))) := upd_same
       generalize upd H8 e1 (.lst (cutV (os.map V.int) none (some (t : Int)))) = H9 at s9 he19
       have ho9 := s9 _ _ ho8
       refine ⟨_, rfl, _, rfl, _, _, rfl, rfl, o, _, _, _, rfl, rfl, .of ho9, ob, _, rfl, _, rfl, o, _, _, _, rfl, rfl, .of ho9, oa, smallE (by simp), fun e2 he2 => ?_⟩
       have s10 : Same H9 (upd H9 e2 (.lst [.int (os.getD (t + 1) 0), .int (os.getD t 0)])) := Same.new he2
       have he210 : (upd H9 e2 (.lst [.int (os.getD (t + 1) 0), .int (os.getD t 0)])) e2 = some (.lst [.int (os.getD (t + 1) 0), .int (os.getD t 0)]) := upd_same
       generalize upd H9 e2 (.lst [.int (os.getD (t + 1) 0), .int (os.getD t 0)]) = H10 at s10 he210
       have olen1 : (cutV (os.map V.int) none (some (t : Int))).length ≤ 1000 := by rw [cut_take, List.length_take, List.length_map]; omega
       have olen2 : (cutV (os.map V.int) (some ((t : Int) + 2)) none).length ≤ 1000 := by rw [show ((t : Int) + 2) = ((t + 2 : Nat) : Int) by omega, cut_drop, List.length_drop, List.length_map]; omega
       refine ⟨e1, e2, _, _, rfl, rfl, .of (s10 _ _ he19), .of he210, smallE (by simp only [List.length_cons, List.length_nil]; omega), fun e3 he3 => ?_⟩
       have s11 : Same H10 (upd H10 e3 (.lst (cutV (os.map V.int) none (some (t : Int)) ++ [.int (os.getD (t + 1) 0), .int (os.getD t 0)]))) := Same.new he3
       have he311 : (upd H10 e3 (.lst (cutV (os.map V.int) none (some (t : Int)) ++ [.int (os.getD (t + 1) 0), .int (os.getD t 0)]))) e3 = some (.lst (cutV (os.map V.int) none (some (t : Int)) ++ [.int (os.getD (t + 1) 0), .int (os.getD t 0)])) := upd_same
       generalize upd H10 e3 (.lst (cutV (os.map V.int) none (some (t : Int)) ++ [.int (os.getD (t + 1) 0), .int (os.getD t 0)])) = H11 at s11 he311
       refine ⟨_, rfl, _, rfl, _, _, rfl, rfl, _, rfl, o, _, rfl, .of ((s10.trans s11) _ _ ho9), fun e4 he4 => ?_⟩
       have s12 : Same H11 (upd H11 e4 (.lst (cutV (os.map V.int) (some ((t : Int) + 2)) none))) := Same.new he4
       have he412 : (upd H11 e4 (.lst (cutV (os.map V.int) (some ((t : Int) + 2)) none))) e4 = some (.lst (cutV (os.map V.int) (some ((t : Int) + 2)) none)) := upd_same
       generalize upd H11 e4 (.lst (cutV (os.map V.int) (some ((t : Int) + 2)) none)) = H12 at s12 he412
       refine ⟨e3, e4, _, _, rfl, rfl, .of (s12 _ _ he311), .of he412, smallE (by simp only [List.length_append, List.length_cons, List.length_nil]; omega), fun e5 he5 => ?_⟩
       rw [ints_swap]
       have s13 : Same H12 (upd H12 e5 (.lst ((swapO os t).map V.int))) := Same.new he5
       have he513 : (upd H12 e5 (.lst ((swapO os t).map V.int))) e5 = some (.lst ((swapO os t).map V.int)) := upd_same
       generalize upd H12 e5 (.lst ((swapO os t).map V.int)) = H13 at s13 he513
       have s813 : Same H8 H13 := (((s9.trans s10).trans s11).trans s12).trans s13
       have hfo : H e5 = none := by
         have : Same H H12 := ((((s2.trans s28).trans s9).trans s10).trans s11).trans s12
         exact this.free he5
       replace r8 := Reps.same s813 r8
       have hc513 := s813 _ _ hc58
       have hd13 := s813 _ _ hd8
       have s213 : Same H H13 := (s2.trans s28).trans s813
       have wsl : ws.length = (swapN ys t).length := by have := r8.length; simpa using this
       have hsl := swapN_len ht1
       have h4s : ∀ q ∈ swapN ys t, q.length ≤ 4 := fun q hq => by
         rcases mem_swapN hq with z | z
         · exact hT.le4 hx4 q z
         · subst z; exact Nat.zero_le _
       refine ⟨_, rfl, c5, rfl, ⟨_, .of hc513⟩, fun D hD => ?_⟩
       have hDH : H D = none := s213.free hD
       refine comp_list0 (K := K) (a := c5) (xs := ws) (fun i zs τ G => Same H13 G ∧ G D = some (.lst zs) ∧ Reps K G zs ((((swapN ys t).take i).map fun q => q.map (swI t)).map tI) ∧ ∃ o, τ = [o, some (.ref d)])
         ⟨Same.new hD, upd_same, rfl, none, rfl⟩ (fun i zs τ G _ ⟨g1, _⟩ => .of (g1 _ _ hc513)) ?_ ?_
       · rintro i x zs τ G hx ⟨g1, hDG, rG, o', rfl⟩
         have hi : i < ws.length := (List.getElem?_eq_some_iff.mp hx).1
         have hi2 : i < (swapN ys t).length := by omega
         have hix : ((swapN ys t).map tI)[i]? = some (tI (swapN ys t)[i]) := by rw [List.getElem?_map, List.getElem?_eq_getElem hi2]; rfl
         obtain ⟨x', hx', tx⟩ := r8.get hix
         rw [hx] at hx'
         cases hx'
         have hq4 := h4s _ (List.getElem_mem hi2)
         generalize hqe : (swapN ys t)[i] = q at tx hq4
         obtain ⟨ax, rfl, sqx⟩ := TI.sq tx
         have sqG : SqT K G ax (q.map V.int) := g1.seqT sqx
         refine ⟨_, rfl, ax, rfl, ⟨_, sqG⟩, fun D2 hD2 => ?_⟩
         refine comp_tup0 (K := K) (a := ax) (xs := q.map V.int) (fun m ys' τ' G' => Same G G' ∧ G' D2 = some (.lst ys') ∧ ys' = ((q.take m).map (swI t)).map V.int ∧ ∃ o, τ' = [o, some (.ref d)])
           ⟨Same.new hD2, upd_same, rfl, none, rfl⟩ (fun m ys' τ' G' _ ⟨g2, _⟩ => g2.seqT sqG) ?_ ?_
         · rintro m y ys' τ' G' hy ⟨g2, hD2', hys, o'', rfl⟩
           have hm : m < q.length := by have := (List.getElem?_eq_some_iff.mp hy).1; simpa using this
           have hyv : y = .int q[m] := by
             rw [List.getElem?_map, List.getElem?_eq_getElem hm] at hy
             simpa using hy.symm
           subst hyv
           have hdG' : G' d = some (.dK (cK [((t : Int), (t : Int) + 1), ((t : Int) + 1, (t : Int))])) := (g1.trans g2) _ _ hd13
           refine ⟨_, rfl, d, rfl, .inl ⟨_, .inl hdG'⟩, _, rfl, _, rfl, _, dgetC (.inl hdG'), ?_⟩
           have ev : (Option.map V.int (lookI [((t : Int), (t : Int) + 1), ((t : Int) + 1, (t : Int))] q[m])).getD (V.int q[m]) = V.int (swI t q[m]) := by
             rw [← look_sw]
             cases lookI [((t : Int), (t : Int) + 1), ((t : Int) + 1, (t : Int))] q[m] <;> rfl
           rw [ev]
           refine ⟨hD2', small (by rw [hys, List.length_map, List.length_map, List.length_take]; omega), g2.turn hD2, upd_same, ?_, _, rfl⟩
           rw [List.take_succ, List.getElem?_eq_getElem hm, List.map_append, List.map_append, hys]
           rfl
         · rintro ys' τ' G' ⟨g2, hD2', hys, _⟩
           rw [List.length_map, List.take_length] at hys
           refine ⟨D2, _, rfl, .inl ⟨.of hD2', fun T2 hT2 => ?_⟩⟩
           have g3 : Same G' (upd G' T2 (.tup ys')) := Same.new hT2
           have g123 := (g1.trans g2).trans g3
           refine ⟨(g2.trans g3) _ _ hDG, small (by have := rG.length; rw [this, List.length_map, List.length_map, List.length_take]; omega), g123.turn hD, upd_same, ?_, _, rfl⟩
           have e5 : ((swapN ys t).take (i + 1)).map (fun q => q.map (swI t)) = ((swapN ys t).take i).map (fun q => q.map (swI t)) ++ [q.map (swI t)] := by
             rw [List.take_succ, List.getElem?_eq_getElem hi2, List.map_append, hqe]
             rfl
           rw [e5]
           refine push_TI ((g2.trans g3) _ _ hDG) (Reps.same (g2.trans g3) rG) (TI.mk ?_)
           rw [← hys]
           exact .of upd_same
       · rintro zs τ G ⟨g1, hDG, rG, _⟩
         rw [wsl, List.take_length] at rG
         exact ⟨D, e5, zs, swapS ys t, swapO os t, _, _, _, rfl, s213.trans g1, hDH, hfo, hDG, g1 _ _ he513, rG, hT2⟩
     · rintro σ H2 ⟨p, o, vs, ys, os, o1, o2, o3, rfl, s2, hp, ho, hp2, ho2, r2, hT⟩
       exact key _ _ ⟨p, o, vs, ys, os, o1, o2, o3, rfl, s2, hp, ho, hp2, ho2, r2, hT⟩
   rintro _ H2 ⟨p, o, vs, ys, os, o1, o2, o3, rfl, s2, hp, ho, hp2, ho2, r2, hT⟩
   refine ⟨_, rfl, _, rfl, smallE (by simp), fun R hR => ?_⟩
   have sR : Same H2 (upd H2 R (.tup [.ref p, .ref o])) := Same.new hR
   exact k R p o vs ys os _ (s2.trans sR) upd_same hp ho (sR _ _ hp2) (sR _ _ ho2) (Reps.same sR r2) hT
noncomputable abbrev s_L_whole : Stmt := top 32
theorem sc_L_whole : FnScope ["_law_found"] ["_law_found"] (defScope s_L_whole) := ⟨rfl, rfl, rfl, by decide +kernel, rfl, by decide +kernel, by decide +kernel⟩
theorem ok_L_whole {f : Addr} {fd : FuncData} (F : Fun K "_law_whole" "_law_whole" s_L_whole f fd) (T : Txt K mg C_HoleError C_NoShape C_NoChain C_NoGlue)  : FnOk P w K mg base CX0 1 f fd ["_law_found"] (sp_L_whole K) := by
 refine F.ok sc_L_whole (fun vs H Q E h => ?_) (fun cdv A outer s H vs Q E hr h => ?_)
 · obtain ⟨x, d, rfl, hx, k⟩ := h
   rfl
 · obtain ⟨x, d, rfl, hx, k⟩ := h
   refine ⟨_, (pss_one (ps_ret (pe_and (pe_callB (kcall_isinst (K := K)) (by rfl) T.n_isinstance boot_isinstanceB (pa_cons (pv 0) (pa_cons (pe_bltn (v := .ty "int") rfl T.n_int boot_intT rfl) pa_nil))) (pe_one (pe_not (pe_callB (kcall_isinst (K := K)) (by rfl) T.n_isinstance boot_isinstanceB (pa_cons (pv 0) (pa_cons (pe_bltn (v := .ty "bool") rfl T.n_bool boot_boolT rfl) pa_nil)))))))), ?_⟩
   refine ⟨_, rfl, _, _, d, rfl, .inl rfl, hx, _, rfl, ?_⟩
   refine ite2 (fun e => ?_) (fun e => ?_)
   · refine ⟨_, rfl, _, _, d, rfl, .inr (.inl rfl), hx, _, rfl, ?_⟩
     have e2 : wholeD d = !isD "bool" d := by unfold wholeD; rw [e]; rfl
     rw [e2] at k
     exact k
   · have e2 : wholeD d = false := by unfold wholeD; simp [e]
     rw [e2] at k
     exact k
noncomputable abbrev s_L_number_by : Stmt := top 33
theorem sc_L_number_by : FnScope ["_law_cell"] ["_law_cell"] (defScope s_L_number_by) := ⟨rfl, rfl, rfl, by decide +kernel, rfl, by decide +kernel, by decide +kernel⟩
theorem nd_L_number_by : (["_law_cell"] : List Str).Nodup := by decide +kernel
theorem ok_L_number_by {f : Addr} {fd : FuncData} (F : Fun K "_law_number_by" "_law_number_by" s_L_number_by f fd) (T : Txt K mg C_HoleError C_NoShape C_NoChain C_NoGlue)  : FnOk P w K mg base CX0 1 f fd ["_law_cell"] (sp_L_number_by K) := by
 refine F.ok sc_L_number_by (fun vs H Q E h => ?_) (fun cdv A outer s H vs Q E hr h => ?_)
 · obtain ⟨c, rfl, kq⟩ := h
   rfl
 · obtain ⟨c, rfl, kq⟩ := h
   refine ⟨_, (pss_cons (ps_set (i := 0) nd_L_number_by (by rfl) (by first | exact Or.inl rfl | exact Or.inr rfl) (pe_op op_mod (pv 0) (pe_op op_pow pe_int pe_int)))
     (pss_cons (ps_if (pt_cmpR op_eq (pe_op op_mod (pv 0) pe_int) pe_int (nomark _)) (pss_one (ps_ret (pe_op op_sub (pe_op op_mod (pe_op op_mulX (pv 0) pe_int) pe_int) pe_int))) pss_nil)
     (pss_one (ps_ret (pe_op op_sub (pe_op op_mod (pe_op op_fdiv (pv 0) pe_int) pe_int) pe_int))))), ?_⟩
   have h40 : (0 : Int) < (10 : Int) ^ (40 : Int).toNat := by decide +kernel
   refine ⟨_, rfl, _, _, rfl, rfl, ⟨by decide, by decide, by decide⟩, _, _, rfl, rfl, h40, ?_⟩
   have e40 : (10 : Int) ^ (40 : Int).toNat = 10000000000000000000000000000000000000000 := by decide +kernel
   obtain ⟨d, hd⟩ : ∃ d, d = c % (10 : Int) ^ (40 : Int).toNat := ⟨_, rfl⟩
   have d0 : 0 ≤ d := by rw [hd]; exact Int.emod_nonneg _ (by rw [e40]; decide)
   have d1 : d < 10000000000000000000000000000000000000000 := by rw [hd, e40]; exact Int.emod_lt_of_pos _ (by decide)
   have hdb : d.natAbs < 2 ^ 140 := by
     have : d.natAbs < 10000000000000000000000000000000000000000 := by omega
     exact Nat.lt_trans this (by decide +kernel)
   refine tSeq_cut (fun σ' H' => σ' = [some (.int d)] ∧ H = H') ?_ fun key0 => key0 _ _ ⟨by rw [hd] <;> rfl, rfl⟩
   rintro _ _ ⟨rfl, rfl⟩
   refine ⟨_, rfl, _, _, rfl, rfl, (by show (0 : Int) < 4; decide), rfl, _, rfl, ?_⟩
   refine ite2 (fun h1 => ?_) (fun h1 => ?_)
   · refine ⟨_, rfl, _, _, rfl, rfl, mulok (n := 70) hdb (by decide +kernel) (by decide), _, _, rfl, rfl, (by show (0 : Int) < 100000000000000000039; decide), _, _, rfl, rfl, kq _ ?_⟩
     have z0 : 0 ≤ d * 48271482714827148271 % 100000000000000000039 := Int.emod_nonneg _ (by decide)
     have z1 : d * 48271482714827148271 % 100000000000000000039 < 100000000000000000039 := Int.emod_lt_of_pos _ (by decide)
     have : (d * 48271482714827148271 % 100000000000000000039 - 50000000000000000019).natAbs < 100000000000000000039 := by omega
     exact Nat.lt_trans this (by decide +kernel)
   · refine ⟨_, rfl, _, _, rfl, rfl, ⟨by decide, by decide⟩, _, _, rfl, rfl, (by show (0 : Int) < 9; decide), _, _, rfl, rfl, kq _ ?_⟩
     have z0 : 0 ≤ d / 4 % 9 := Int.emod_nonneg _ (by decide)
     have z1 : d / 4 % 9 < 9 := Int.emod_lt_of_pos _ (by decide)
     have : (d / 4 % 9 - 4).natAbs < 9 := by omega
     exact Nat.lt_trans this (by decide +kernel)
noncomputable abbrev s_L_without_noughts : Stmt := top 35
theorem sc_L_without_noughts : FnScope ["_law_numbers", "_law_made", "_law_place"] ["_law_numbers"] (defScope s_L_without_noughts) := ⟨rfl, rfl, rfl, by decide +kernel, rfl, by decide +kernel, by decide +kernel⟩
theorem nd_L_without_noughts : (["_law_numbers", "_law_made", "_law_place"] : List Str).Nodup := by decide +kernel
theorem ok_L_without_noughts {f : Addr} {fd : FuncData} (F : Fun K "_law_without_noughts" "_law_without_noughts" s_L_without_noughts f fd) (T : Txt K mg C_HoleError C_NoShape C_NoChain C_NoGlue)  : FnOk P w K mg base CX0 1 f fd ["_law_numbers"] (sp_L_without_noughts K) := by
 refine F.ok sc_L_without_noughts (fun vs H Q E h => ?_) (fun cdv A outer s H vs Q E hr h => ?_)
 · obtain ⟨a, ms, rfl, ha, hm, k⟩ := h
   rfl
 · obtain ⟨a, ms, rfl, ha, hm, k⟩ := h
   have hu8 : (A.deeper (PyProof.Rows.envOfC "_law_without_noughts" (defScope s_L_without_noughts) s.heap.objs.size f cdv)).units + 8 < cLine := by have := hr.units; omega
   refine ⟨_, (pss_cons (ps_set (i := 1) nd_L_without_noughts (by rfl) (by first | exact Or.inl rfl | exact Or.inr rfl) pe_dnewK)
     (pss_cons (ps_frz (ps_for PassesOwn.never rfl (pi_keys (pv 0)) (pg_name (i := 2) nd_L_without_noughts (by rfl) (by first | exact Or.inl rfl | exact Or.inr rfl)) (pss_one (ps_if (pt_cmpR op_ne (pe_dget (u1 hu8) (pv 0) (pv 2) (fun _ _ => rfl)) pe_int (nomark _)) (pss_one (ps_dput (u1 hu8) (pv 1) (pv 2) (pe_dget (u1 hu8) (pv 0) (pv 2) (fun _ _ => rfl)) (by rfl))) pss_nil))))
     (pss_one (ps_ret (pv 1))))), ?_⟩
   intro D hD
   have naD : a ≠ D := ne_of_none ha hD
   refine .inr ⟨a, cK ms, (by rw [upd_ne naD]; exact ha), fun hnd o => ?_⟩
   have hndm : nd ms := nodup_cK.mp hnd
   refine ⟨_, rfl, a, o, cK ms, rfl, upd_same, ?_⟩
   refine for_keys (d := a) (o := o) (kvs := cK ms) (fun i σ H1 => ∃ o1, σ = [some (.ref a), some (.ref D), o1] ∧ H1 a = some (.frz o (.dK (cK ms))) ∧ H1 D = some (.dK (cK (cutI (ms.take i)))) ∧ (∀ c q, c ≠ a → c ≠ D → H c = some q → H1 c = some q))
     ⟨none, rfl, upd_same, ?_, fun c q n1 n2 e => by rw [upd_ne n1, upd_ne n2]; exact e⟩ (fun i σ H1 _ ⟨_, _, e, _⟩ => e) ?_ ?_
   · rw [upd_ne naD.symm, upd_same]; rfl
   · rintro i kk x σ H1 hx ⟨o1, rfl, ha1, hD1, hk1⟩
     obtain ⟨q, hq, rfl, rfl⟩ := cK_get hx
     have hlt : i < ms.length := (List.getElem?_eq_some_iff.mp hq).1
     have hat : lookI ms q.1 = some q.2 := lookI_in hndm (List.mem_of_getElem? hq)
     refine ⟨_, rfl, _, rfl, a, .int q.2, rfl, dget_at (.inr ⟨o, ha1⟩) hat, rfl, _, rfl, ?_⟩
     have ct := cutI_take hq
     refine ite2 (fun h1 => ?_) (fun h1 => ?_)
     · have e : ¬ q.2 = 0 := by simpa using h1
       rw [if_neg e] at ct
       have ln : (cutI (ms.take i)).length ≤ 1000000 := by have := len_cut (ms.take i); rw [List.length_take] at this; omega
       refine ⟨_, rfl, _, rfl, a, .int q.2, rfl, dget_at (.inr ⟨o, ha1⟩) hat, _, rfl, _, rfl, D, _, rfl, dput_ok hD1 ln, ?_⟩
       refine ⟨_, rfl, ?_, ?_, fun c r n1 n2 e2 => ?_⟩
       · rw [upd_ne naD]; exact ha1
       · rw [upd_same, put_new (cut_sub (take_new hndm hq)), ct]
       · rw [upd_ne n2]; exact hk1 c r n1 n2 e2
     · have e : q.2 = 0 := by simpa using h1
       rw [if_pos e] at ct
       exact ⟨_, rfl, ha1, by rw [ct]; exact hD1, hk1⟩
   · rintro σ H1 ⟨o1, rfl, ha1, hD1, hk1⟩
     rw [cK_len, List.take_length] at hD1
     refine ⟨ha1, _, rfl, k D _ hD (fun c q e2 => ?_) (by rw [upd_ne naD.symm]; exact hD1)⟩
     by_cases z : c = a
     · subst z
       rw [ha] at e2
       cases e2
       exact upd_same
     · rw [upd_ne z]; exact hk1 c q z (ne_of_none e2 hD) e2
noncomputable abbrev s_L_spots_of : Stmt := top 36
theorem sc_L_spots_of : FnScope ["_law_shape", "_law_k", "_law_sizes", "_law_spots", "_law_at"] ["_law_shape", "_law_k"] (defScope s_L_spots_of) := ⟨rfl, rfl, rfl, by decide +kernel, rfl, by decide +kernel, by decide +kernel⟩
theorem nd_L_spots_of : (["_law_shape", "_law_k", "_law_sizes", "_law_spots", "_law_at"] : List Str).Nodup := by decide +kernel
theorem ok_L_spots_of {f : Addr} {fd : FuncData} (F : Fun K "_law_spots_of" "_law_spots_of" s_L_spots_of f fd) (T : Txt K mg C_HoleError C_NoShape C_NoChain C_NoGlue)  : FnOk P w K mg base CX0 1 f fd ["_law_shape", "_law_k"] (sp_L_spots_of K) := by
 refine F.ok sc_L_spots_of (fun vs H Q E h => ?_) (fun cdv A outer s H vs Q E hr h => ?_)
 · obtain ⟨a, xs, k, rfl, hL, h0, h5, hxl, kq⟩ := h
   rfl
 · obtain ⟨a, xs, k, rfl, hL, h0, h5, hxl, kq⟩ := h
   refine ⟨_, (pss_cons (ps_set (i := 2) nd_L_spots_of (by rfl) (by first | exact Or.inl rfl | exact Or.inr rfl) (pe_lst (pa_cons pe_int (pa_cons pe_int (pa_cons pe_int (pa_cons pe_int (pa_cons pe_int pa_nil)))))))
     (pss_cons (ps_set (i := 3) nd_L_spots_of (by rfl) (by first | exact Or.inl rfl | exact Or.inr rfl) (pe_lst pa_nil))
     (pss_cons (ps_for PassesOwn.never rfl (pi_range1 (by rfl) T.n_range (pa_cons (pe_callB (kcall_len_seq (K := K)) (by rfl) T.n_len PySem.boot_len (pa_cons (pv 0) pa_nil)) pa_nil)) (pg_name (i := 4) nd_L_spots_of (by rfl) (by first | exact Or.inl rfl | exact Or.inr rfl)) (pss_one (ps_if (PW.pt (pw_or (pt_cmpR op_eq (pe_callB (kcall_len_seq (K := K)) (by rfl) T.n_len PySem.boot_len (pa_cons (pe_ix (kix_list (K := K)) (pv 0) (pv 4) (fun _ _ => rfl)) pa_nil)) (pe_ix (kix_list (K := K)) (pv 2) (pv 1) (fun _ _ => rfl)) (nomark _)) (pw_or1 (PW.pt (pw_and (pt_cmpR op_eq (pv 1) pe_int (nomark _)) (pw_and1 (pt_cmpR op_eq (pe_callB (kcall_len_seq (K := K)) (by rfl) T.n_len PySem.boot_len (pa_cons (pe_ix (kix_list (K := K)) (pv 0) (pv 4) (fun _ _ => rfl)) pa_nil)) pe_int (nomark _)))))))) (pss_one (ps_expr (kpe_bm (K := K) PySem.F.plainAttrs_list PySem.F.slot_list_append PySem.F.type_list_append mt_append (pv 3) (pa_cons (pv 4) pa_nil)))) pss_nil)))
     (pss_one (ps_ret (pv 3)))))), ?_⟩
   obtain ⟨_, us, z, hq, r⟩ := id hL
   cases z
   have usl : us.length = xs.length := by have := r.length; simpa using this
   refine ⟨smallE (by simp), fun z1 hz1 => ?_⟩
   have s1 : Same H (upd H z1 (.lst [.int 1, .int 2, .int 3, .int 4, .int 5])) := Same.new hz1
   have hz : (upd H z1 (.lst [.int 1, .int 2, .int 3, .int 4, .int 5])) z1 = some (.lst [.int 1, .int 2, .int 3, .int 4, .int 5]) := upd_same
   generalize upd H z1 (.lst [.int 1, .int 2, .int 3, .int 4, .int 5]) = H1 at s1 hz
   refine ⟨smallE (by simp), fun D hD => ?_⟩
   have s2 : Same H1 (upd H1 D (.lst [])) := Same.new hD
   have hat : atI [V.int 1, V.int 2, V.int 3, V.int 4, V.int 5] k = some (.int (k + 1)) := by
     have : k = 0 ∨ k = 1 ∨ k = 2 ∨ k = 3 ∨ k = 4 := by omega
     rcases this with e | e | e | e | e <;> subst e <;> rfl
   refine ⟨_, rfl, a, us, rfl, .inl ((s1.trans s2).seq hq), _, rfl, by omega, by omega, ?_⟩
   refine for_range (lo := 0) (n := (us.length : Int).toNat) (fun j σ G => ∃ o, σ = [some (.ref a), some (.int k), some (.ref z1), some (.ref D), o] ∧ Same H1 G ∧ G D = some (.lst ((spN xs k j).map V.int)))
     ⟨none, rfl, s2, upd_same⟩ ?_ ?_
   · rintro j σ G hj ⟨o, rfl, s3, hDG⟩
     have hj2 : j < xs.length := by omega
     rw [show (0 : Int) + (j : Int) = (j : Int) by omega]
     obtain ⟨us', v, hus', hv, tv⟩ := LT.get (Rep.same (s1.trans s3) hL) (i := (j : Int)) (by omega) (by omega)
     rw [Int.toNat_natCast] at tv
     obtain ⟨b, rfl, hb⟩ := TI.sq tv
     have spl := spN_len xs k j
     have yes : lenOk (xs.getD j []).length k = true → ∀ (o : Option V), ∃ o, ([some (.ref a), some (.int k), some (.ref z1), some (.ref D), some (.int (j : Int))] : St) = [some (.ref a), some (.int k), some (.ref z1), some (.ref D), o] ∧ Same H1 (upd G D (.lst ((spN xs k j).map V.int ++ [.int (j : Int)]))) ∧ (upd G D (.lst ((spN xs k j).map V.int ++ [.int (j : Int)]))) D = some (.lst ((spN xs k (j + 1)).map V.int)) := by
       intro hy _
       refine ⟨_, rfl, s3.turn hD, ?_⟩
       rw [upd_same, spN_yes hy, List.map_append]
       rfl
     refine ⟨_, rfl, _, rfl, a, us', _, _, rfl, rfl, hus', hv, b, _, rfl, .inr hb, _, rfl, _, rfl, z1, _, _, _, rfl, rfl, .of (s3 _ _ hz), hat, rfl, _, rfl, ?_⟩
     refine ite2 (fun h1 => ?_) (fun h1 => ?_)
     · have e : lenOk (xs.getD j []).length k = true := by
         unfold lenOk
         have : (((xs.getD j []).map V.int).length : Int) = k + 1 := by simpa using h1
         rw [List.length_map] at this
         rw [decide_eq_true this]
         rfl
       refine ifP rfl ?_
       refine ⟨_, rfl, .inl ⟨rfl, _, .of hDG⟩, _, rfl, D, _, _, rfl, rfl, hDG, small (by rw [List.length_map]; omega), ?_⟩
       exact yes e none
     · have n1 : ¬ ((xs.getD j []).length : Int) = k + 1 := by
         intro q
         apply h1
         rw [List.length_map, q]
         simp
       have no : ¬ lenOk (xs.getD j []).length k = true → ∀ (o : Option V), ∃ o, ([some (.ref a), some (.int k), some (.ref z1), some (.ref D), some (.int (j : Int))] : St) = [some (.ref a), some (.int k), some (.ref z1), some (.ref D), o] ∧ Same H1 G ∧ G D = some (.lst ((spN xs k (j + 1)).map V.int)) := by
         intro hn _
         refine ⟨_, rfl, s3, ?_⟩
         rw [spN_no hn]
         exact hDG
       refine ⟨_, rfl, rfl, _, rfl, ?_⟩
       refine ite2 (fun h2 => ?_) (fun h2 => ?_)
       · have k0 : k = 0 := by simpa using h2
         refine ⟨_, rfl, _, rfl, a, us', _, _, rfl, rfl, hus', hv, b, _, rfl, .inr hb, rfl, _, rfl, ?_⟩
         refine ite2 (fun h3 => ?_) (fun h3 => ?_)
         · have e : lenOk (xs.getD j []).length k = true := by
             unfold lenOk
             have : (((xs.getD j []).map V.int).length : Int) = 0 := by simpa using h3
             rw [List.length_map] at this
             rw [decide_eq_true k0, decide_eq_true (show (xs.getD j []).length = 0 by omega)]
             simp
           refine ⟨_, rfl, .inl ⟨rfl, _, .of hDG⟩, _, rfl, D, _, _, rfl, rfl, hDG, small (by rw [List.length_map]; omega), ?_⟩
           exact yes e none
         · refine no ?_ none
           unfold lenOk
           have n2 : ¬ (xs.getD j []).length = 0 := by
             intro q
             apply h3
             rw [List.length_map, q]
             simp
           rw [decide_eq_false n1, decide_eq_false n2]
           simp
       · refine ifN (by simp) ?_
         refine no ?_ none
         have k0 : ¬ k = 0 := by simpa using h2
         unfold lenOk
         rw [decide_eq_false n1, decide_eq_false k0]
         simp
   · rintro σ G ⟨o, rfl, s3, hDG⟩
     refine ⟨_, rfl, kq D G (s1.free hD) (s1.trans s3) ?_⟩
     rw [hDG, show ((us.length : Int)).toNat = xs.length by omega]
     rfl
noncomputable abbrev s_L_spoilt : Stmt := top 39
theorem sc_L_spoilt : FnScope ["_law_shape", "_law_spots", "_law_chain", "_law_cell", "_law_way", "_law_others", "_law_key", "_law_number", "_law_made", "_law_place"] ["_law_shape", "_law_spots", "_law_chain", "_law_cell"] (defScope s_L_spoilt) := ⟨rfl, rfl, rfl, by decide +kernel, rfl, by decide +kernel, by decide +kernel⟩
theorem nd_L_spoilt : (["_law_shape", "_law_spots", "_law_chain", "_law_cell", "_law_way", "_law_others", "_law_key", "_law_number", "_law_made", "_law_place"] : List Str).Nodup := by decide +kernel
theorem ok_L_spoilt {f : Addr} {fd : FuncData} (F : Fun K "_law_spoilt" "_law_spoilt" s_L_spoilt f fd) (T : Txt K mg C_HoleError C_NoShape C_NoChain C_NoGlue)  : FnOk P w K mg base CX0 1 f fd ["_law_shape", "_law_spots", "_law_chain", "_law_cell"] (sp_L_spoilt K) := by
 refine F.ok sc_L_spoilt (fun vs H Q E h => ?_) (fun cdv A outer s H vs Q E hr h => ?_)
 · obtain ⟨a, l, b, xs, k, c, ms, rfl, hL, hshp, hxl, hk0, hl, hb, hnd, hsp, hml, kq⟩ := h
   rfl
 · obtain ⟨a, l, b, xs, k, c, ms, rfl, hL, hshp, hxl, hk0, hl, hb, hnd, hsp, hml, kq⟩ := h
   have hu8 : (A.deeper (PyProof.Rows.envOfC "_law_spoilt" (defScope s_L_spoilt) s.heap.objs.size f cdv)).units + 8 < cLine := by have := hr.units; omega
   refine ⟨_, (pss_cons (ps_set (i := 4) nd_L_spoilt (by rfl) (by first | exact Or.inl rfl | exact Or.inr rfl) (pe_op op_mod (pv 3) pe_int))
     (pss_cons (ps_if (pt_cmpR op_gt (pv 4) pe_int (nomark _)) (pss_one (ps_set (i := 4) nd_L_spoilt (by rfl) (by first | exact Or.inl rfl | exact Or.inr rfl) pe_int)) pss_nil)
     (pss_cons (ps_if (pt_cmpR op_gt (pv 4) pe_int (nomark _)) (pss_one (ps_ret (pe_ix (kix_list (K := K)) (pe_lst (pa_cons (pe_callTy (call_listV (by rfl)) (by rfl) T.n_list boot_listT (pa_cons (pe_itemsV (pv 2)) pa_nil)) (pa_cons pe_non (pa_cons (pe_callB call_lenX (by rfl) T.n_len PySem.boot_len (pa_cons (pv 2) pa_nil)) pa_nil)))) (pe_op op_sub (pv 4) pe_int) (fun _ _ => rfl)))) pss_nil)
     (pss_cons (ps_setC (N' := ["_law_at", "_law_spots"]) (cap := [none, some 1]) (i := 5) nd_L_spoilt (by rfl) (by first | exact Or.inl rfl | exact Or.inr rfl) (by rfl) (by kernel_rfl) (pi_range1 (by rfl) T.n_range (pa_cons (pe_callB (kcall_len_seq (K := K)) (by rfl) T.n_len PySem.boot_len (pa_cons (pv 0) pa_nil)) pa_nil)) (fun _ _ _ _ => (pg_name (i := 0) ndc_12 (by rfl) (by first | exact Or.inl rfl | exact Or.inr rfl))) (fun _ _ _ _ => (pts_one (pt_cmpR (kop_notInD (K := K) hu8) (pv 0) (pv 1) rfl))) (fun _ _ _ _ => (pv 0)))
     (pss_cons (ps_set (i := 6) nd_L_spoilt (by rfl) (by first | exact Or.inl rfl | exact Or.inr rfl) (pe_op op_add (pe_callB (kcall_len_seq (K := K)) (by rfl) T.n_len PySem.boot_len (pa_cons (pv 0) pa_nil)) (pe_op op_mod (pe_op op_fdiv (pv 3) pe_int) pe_int)))
     (pss_cons (ps_set (i := 7) nd_L_spoilt (by rfl) (by first | exact Or.inl rfl | exact Or.inr rfl) (pe_op op_add pe_int (pe_op op_mod (pe_op op_fdiv (pv 3) pe_int) pe_int)))
     (pss_cons (ps_if (PW.pt (pw_and (pt_cmpR op_lt (pv 4) pe_int (nomark _)) (pw_and1 (pt_cmpR op_gt (pe_callB (kcall_len_seq (K := K)) (by rfl) T.n_len PySem.boot_len (pa_cons (pv 1) pa_nil)) pe_int (nomark _))))) (pss_cons (ps_set (i := 6) nd_L_spoilt (by rfl) (by first | exact Or.inl rfl | exact Or.inr rfl) (pe_ix (kix_list (K := K)) (pv 1) (pe_op op_mod (pe_op op_fdiv (pv 3) pe_int) (pe_callB (kcall_len_seq (K := K)) (by rfl) T.n_len PySem.boot_len (pa_cons (pv 1) pa_nil))) (fun _ _ => rfl)))
     (pss_one (ps_set (i := 7) nd_L_spoilt (by rfl) (by first | exact Or.inl rfl | exact Or.inr rfl) (pe_ix (kix_list (K := K)) (pe_lst (pa_cons pe_int (pa_cons pe_bl (pa_cons pe_non (pa_cons pe_str pa_nil))))) (pv 4) (fun _ _ => rfl))))) pss_nil)
     (pss_cons (ps_if (PW.pt (pw_and (pt_cmpR op_eq (pv 4) pe_int (nomark _)) (pw_and (pt_cmpR op_gt (pe_callB (kcall_len_seq (K := K)) (by rfl) T.n_len PySem.boot_len (pa_cons (pv 5) pa_nil)) pe_int (nomark _)) (pw_and1 (pt_cmpR op_gt (pe_callB call_lenX (by rfl) T.n_len PySem.boot_len (pa_cons (pv 2) pa_nil)) pe_int (nomark _)))))) (pss_one (ps_set (i := 6) nd_L_spoilt (by rfl) (by first | exact Or.inl rfl | exact Or.inr rfl) (pe_ix (kix_list (K := K)) (pv 5) (pe_op op_mod (pe_op op_fdiv (pv 3) pe_int) (pe_callB (kcall_len_seq (K := K)) (by rfl) T.n_len PySem.boot_len (pa_cons (pv 5) pa_nil))) (fun _ _ => rfl)))) pss_nil)
     (pss_cons (ps_if (PW.pt (pw_and (pt_cmpR op_gt (pv 4) pe_int (nomark _)) (pw_and1 (pt_cmpR op_lt (pv 4) pe_int (nomark _))))) (pss_one (ps_set (i := 6) nd_L_spoilt (by rfl) (by first | exact Or.inl rfl | exact Or.inr rfl) (pe_ix (kix_list (K := K)) (pe_lst (pa_cons (pe_op op_sub (pe_un un_neg pe_int) (pe_op op_mod (pe_op op_fdiv (pv 3) pe_int) pe_int)) (pa_cons pe_str (pa_cons pe_non (pa_cons (pe_cmpR (kop_inD (K := K) hu8) pe_int (pv 1) rfl) pa_nil))))) (pe_op op_sub (pv 4) pe_int) (fun _ _ => rfl)))) pss_nil)
     (pss_cons (ps_if (pt_cmpR op_eq (pv 4) pe_int (nomark _)) (pss_one (ps_set (i := 6) nd_L_spoilt (by rfl) (by first | exact Or.inl rfl | exact Or.inr rfl) (pe_tup (pa_cons pe_int pa_nil)))) pss_nil)
     (pss_cons (ps_set (i := 8) nd_L_spoilt (by rfl) (by first | exact Or.inl rfl | exact Or.inr rfl) pe_dnewK)
     (pss_cons (ps_frz (ps_for PassesOwn.never rfl (pi_keys (pv 2)) (pg_name (i := 9) nd_L_spoilt (by rfl) (by first | exact Or.inl rfl | exact Or.inr rfl)) (pss_cons (ps_if (pt_cmpR op_eq (pe_callB call_lenX (by rfl) T.n_len PySem.boot_len (pa_cons (pv 8) pa_nil)) (pe_op op_mod (pe_op op_fdiv (pv 3) pe_int) (pe_op op_add (pe_callB call_lenX (by rfl) T.n_len PySem.boot_len (pa_cons (pv 2) pa_nil)) pe_int)) (nomark _)) (pss_one (ps_dputX (u1 hu8) (pv 8) (pv 6) (pv 7) (by rfl))) pss_nil)
     (pss_one (ps_if (pt_cmpR (op_neK hu8) (pv 9) (pv 6) (nomark _)) (pss_one (ps_dputX (u1 hu8) (pv 8) (pv 9) (pe_dget (u1 hu8) (pv 2) (pv 9) (fun _ _ => rfl)) (by rfl))) pss_nil)))))
     (pss_cons (ps_if (pt_cmpR (op_notInX (u1 hu8)) (pv 6) (pv 8) rfl) (pss_one (ps_dputX (u1 hu8) (pv 8) (pv 6) (pv 7) (by rfl))) pss_nil)
     (pss_one (ps_ret (pv 8)))))))))))))))), ?_⟩
   obtain ⟨_, us, z, hqa, ra⟩ := id hL
   cases z
   have usl : us.length = xs.length := by have := ra.length; simpa using this
   have spl : (spots xs k).length ≤ 63 := by have := spN_len xs k xs.length; exact Nat.le_trans this hxl
   refine tSeq_cut (fun σ' H' => ∃ w : Int, σ' = [some (.ref a), some (.ref l), some (.ref b), some (.int c), some (.int w), none, none, none, none, none] ∧ H = H' ∧ 0 ≤ w ∧ w < 16) ?_ fun key => ?_
   rotate_left
   · refine ⟨_, rfl, _, _, rfl, rfl, (by show (0 : Int) < 16; decide), ?_⟩
     exact key _ _ ⟨_, rfl, rfl, Int.emod_nonneg _ (by decide), Int.emod_lt_of_pos _ (by decide)⟩
   rintro _ _ ⟨w0, rfl, rfl, hw0, hw1⟩
   refine tSeq_cut (fun σ' H' => ∃ w : Int, σ' = [some (.ref a), some (.ref l), some (.ref b), some (.int c), some (.int w), none, none, none, none, none] ∧ H = H' ∧ 0 ≤ w ∧ w < 13) ?_ fun key => ?_
   rotate_left
   · refine ⟨_, rfl, _, _, rfl, rfl, _, rfl, ?_⟩
     refine ite2 (fun _ => ?_) (fun h1 => ?_)
     · exact key _ _ ⟨8, rfl, rfl, by decide, by decide⟩
     · have h2 : ¬ w0 > 12 := by simpa using h1
       exact key _ _ ⟨w0, rfl, rfl, hw0, by omega⟩
   rintro _ _ ⟨w, rfl, rfl, hw0, hw1⟩
   have hw13 := hw1
   clear hw1
   refine tSeq_cut (fun σ' H' => σ' = [some (.ref a), some (.ref l), some (.ref b), some (.int c), some (.int w), none, none, none, none, none] ∧ H = H' ∧ w ≤ 9) ?_ fun key => ?_
   rotate_left
   · refine ⟨_, rfl, _, _, rfl, rfl, _, rfl, ?_⟩
     refine ite2 (fun h1 => ?_) (fun h1 => ?_)
     · have h2 : w > 9 := by simpa using h1
       refine ⟨_, rfl, b, _, rfl, hb, fun p hp => ?_⟩
       have s1 : Same H (upd H p (VwO p b)) := Same.new hp
       have hp1 : (upd H p (VwO p b)) p = some (VwO p b) := upd_same
       generalize upd H p (VwO p b) = H1 at s1 hp1
       refine ⟨p, b, cK ms, rfl, hp1, s1 _ _ hb, fun q ws hq hwl => ?_⟩
       have s2 : Same H1 (upd H1 q (.lst ws)) := Same.new hq
       have hq1 : (upd H1 q (.lst ws)) q = some (.lst ws) := upd_same
       generalize upd H1 q (.lst ws) = H2 at s2 hq1
       have s12 := s1.trans s2
       refine ⟨_, rfl, b, rfl, .inl ⟨cK ms, .inl (s12 _ _ hb), ?_⟩⟩
       refine ⟨smallE (by simp), fun z hz => ?_⟩
       have s3 : Same H2 (upd H2 z (.lst [.ref q, .non, .int ((cK ms).length : Int)])) := Same.new hz
       have hz1 : (upd H2 z (.lst [.ref q, .non, .int ((cK ms).length : Int)])) z = some (.lst [.ref q, .non, .int ((cK ms).length : Int)]) := upd_same
       generalize upd H2 z (.lst [.ref q, .non, .int ((cK ms).length : Int)]) = H3 at s3 hz1
       have s13 := s12.trans s3
       have ways := ways3 h2 hw13
       refine ⟨_, rfl, _, _, rfl, rfl, ?_⟩
       rcases ways with rfl | rfl | rfl
       · refine ⟨z, _, _, _, rfl, rfl, .of hz1, rfl, ?_⟩
         exact kq _ .lst H3 s13 ⟨q, ws, rfl, s3 _ _ hq1⟩ fun _ => rfl
       · refine ⟨z, _, _, _, rfl, rfl, .of hz1, rfl, ?_⟩
         exact kq _ (.data .non) H3 s13 ⟨True.intro, rfl⟩ fun _ => rfl
       · refine ⟨z, _, _, _, rfl, rfl, .of hz1, rfl, ?_⟩
         exact kq _ (.data (.int ((cK ms).length : Int))) H3 s13 ⟨True.intro, rfl⟩ fun _ => rfl
     · have h2 : ¬ w > 9 := by simpa using h1
       exact key _ _ ⟨rfl, rfl, by omega⟩
   rintro _ _ ⟨rfl, rfl, hw1⟩
   refine tSeq_cut (fun σ' H' => ∃ (q : Addr) (os : List Int), σ' = [some (.ref a), some (.ref l), some (.ref b), some (.int c), some (.int w), some (.ref q), none, none, none, none] ∧ Same H H' ∧ H' q = some (.lst (os.map V.int)) ∧ os.length ≤ 63 ∧ ∀ x ∈ os, x ∉ spots xs k) ?_ fun key => ?_
   rotate_left
   · refine ⟨_, rfl, a, us, rfl, .inl hqa, _, rfl, by omega, by omega, fun D hD => ?_⟩
     refine comp_range (fun i zs τ H1 => Same H H1 ∧ H1 D = some (.lst zs) ∧ (∃ os : List Int, zs = os.map V.int ∧ os.length ≤ i ∧ ∀ x ∈ os, x ∉ spots xs k) ∧ ∃ o, τ = [o, some (.ref l)])
       ⟨Same.new hD, upd_same, ⟨[], rfl, Nat.le_refl _, fun x hx => by cases hx⟩, none, rfl⟩ ?_ ?_
     · rintro i zs τ H1 hi ⟨s1, hD1, ⟨os, rfl, hol, hos⟩, o, rfl⟩
       refine ⟨_, rfl, _, rfl, .int (0 + (i : Int)), nums (spots xs k), rfl, rep_ints (s1.seq hl), (by rw [deps_nums]; decide), _, rfl, ?_⟩
       refine ite2 (fun h1 => ?_) (fun h1 => ?_)
       · have h2 : (0 + (i : Int)) ∉ spots xs k := by
           have h3 : (!(nums (spots xs k)).any fun e => eqD e (.int (0 + (i : Int)))) = true := h1
           rw [any_numO] at h3
           simpa using h3
         refine ⟨_, rfl, hD1, small (by rw [List.length_map]; omega), s1.turn hD, upd_same, ⟨os ++ [(0 : Int) + (i : Int)], by simp, by rw [List.length_append]; exact Nat.succ_le_succ hol, fun x hx => ?_⟩, _, rfl⟩
         rcases List.mem_append.mp hx with hx | hx
         · exact hos x hx
         · have : x = 0 + (i : Int) := by simpa using hx
           rw [this]
           exact h2
       · exact ⟨s1, hD1, ⟨os, rfl, by omega, hos⟩, _, rfl⟩
     · rintro zs τ H1 ⟨s1, hD1, ⟨os, rfl, hol, hos⟩, _⟩
       exact key _ _ ⟨D, os, rfl, s1, hD1, by omega, hos⟩
   rintro _ H1 ⟨q, os, rfl, s1, hq, hol, hos⟩
   have hL1 := Rep.same s1 hL
   have hb1 := s1 _ _ hb
   have hl1 := s1.seq hl
   have hqa1 := s1.seq hqa
   refine tSeq_cut (fun σ' H' => ∃ i : Int, σ' = [some (.ref a), some (.ref l), some (.ref b), some (.int c), some (.int w), some (.ref q), some (.int i), none, none, none] ∧ H1 = H' ∧ (xs.length : Int) ≤ i) ?_ fun key => ?_
   rotate_left
   · refine ⟨_, rfl, a, us, rfl, .inl hqa1, _, rfl, _, _, rfl, rfl, ⟨by decide, by decide⟩, _, _, rfl, rfl, (by show (0 : Int) < 3; decide), _, _, rfl, rfl, ?_⟩
     refine key _ _ ⟨_, rfl, rfl, ?_⟩
     have := Int.emod_nonneg (c / 13) (show (3 : Int) ≠ 0 by decide)
     omega
   rintro _ _ ⟨i0, rfl, rfl, hi0⟩
   refine tSeq_cut (fun σ' H' => ∃ kv nv : V, σ' = [some (.ref a), some (.ref l), some (.ref b), some (.int c), some (.int w), some (.ref q), some kv, some nv, none, none] ∧ Same H1 H' ∧ KeyX H' kv ∧ Sca nv ∧ Bad xs k ms kv nv) ?_ fun key => ?_
   rotate_left
   · refine ⟨_, rfl, _, _, rfl, rfl, ⟨by decide, by decide⟩, _, _, rfl, rfl, (by show (0 : Int) < 5; decide), _, _, rfl, rfl, ?_⟩
     exact key _ _ ⟨.int i0, _, rfl, Same.refl _, .inl ⟨.inl i0, rfl⟩, True.intro, .inl fun k' => partD_key (place_out (.inr hi0))⟩
   rintro _ H2 ⟨kv, nv, rfl, s2, hkx, hsn, hbad⟩
   have idx := idx_mod
   refine tSeq_cut (fun σ' H' => ∃ kv nv : V, σ' = [some (.ref a), some (.ref l), some (.ref b), some (.int c), some (.int w), some (.ref q), some kv, some nv, none, none] ∧ Same H1 H' ∧ KeyX H' kv ∧ Sca nv ∧ Bad xs k ms kv nv) ?_ fun key => ?_
   rotate_left
   · have stay := key _ _ ⟨kv, nv, rfl, s2, hkx, hsn, hbad⟩
     refine ⟨_, rfl, _, _, rfl, rfl, _, rfl, ?_⟩
     refine ite2 (fun h1 => ?_) (fun h1 => ?_)
     · have h1' : w < 4 := by simpa using h1
       refine ⟨_, rfl, l, _, rfl, .inl (s2.seq hl1), _, _, rfl, rfl, _, rfl, ?_⟩
       refine ite2 (fun h2 => ?_) (fun h2 => stay)
       have h2' : (spots xs k).length ≠ 0 := pos_map (of_decide_eq_true h2)
       obtain ⟨v, hv, hat⟩ := idx (spots xs k) (c / 195) h2'
       refine ⟨_, rfl, _, rfl, _, _, rfl, rfl, ⟨by decide, by decide⟩, _, rfl, l, _, rfl, .inl (s2.seq hl1), _, _, rfl, rfl, map_pos h2', l, _, _, _, rfl, rfl, s2.seq hl1, hat, ?_⟩
       refine ⟨smallE (by simp), fun z hz => ?_⟩
       have s3 : Same H2 (upd H2 z (.lst [.int 0, .bl true, .non, .str (Str.ofString "1")])) := Same.new hz
       have hz1 : (upd H2 z (.lst [.int 0, .bl true, .non, .str (Str.ofString "1")])) z = some (.lst [.int 0, .bl true, .non, .str (Str.ofString "1")]) := upd_same
       generalize upd H2 z (.lst [.int 0, .bl true, .non, .str (Str.ofString "1")]) = H3 at s3 hz1
       have ways := ways4 hw0 h1'
       have fin : ∀ nv' : V, Sca nv' → nzD (vD nv') = false → _ := fun nv' hs' hn' => key _ _ ⟨.int v, nv', rfl, s2.trans s3, .inl ⟨.inl v, rfl⟩, hs', .inl fun k' => partD_num hn'⟩
       rcases ways with rfl | rfl | rfl | rfl
       · exact ⟨_, rfl, z, _, _, _, rfl, rfl, .of hz1, rfl, fin _ True.intro rfl⟩
       · exact ⟨_, rfl, z, _, _, _, rfl, rfl, .of hz1, rfl, fin _ True.intro rfl⟩
       · exact ⟨_, rfl, z, _, _, _, rfl, rfl, .of hz1, rfl, fin _ True.intro rfl⟩
       · exact ⟨_, rfl, z, _, _, _, rfl, rfl, .of hz1, rfl, fin _ True.intro rfl⟩
     · refine ifN (by simp) ?_
       exact stay
   clear hkx hsn hbad
   rintro _ H3 ⟨kv, nv, rfl, s2, hkx, hsn, hbad⟩
   refine tSeq_cut (fun σ' H' => ∃ kv nv : V, σ' = [some (.ref a), some (.ref l), some (.ref b), some (.int c), some (.int w), some (.ref q), some kv, some nv, none, none] ∧ Same H1 H' ∧ KeyX H' kv ∧ Sca nv ∧ Bad xs k ms kv nv) ?_ fun key => ?_
   rotate_left
   · have stay := key _ _ ⟨kv, nv, rfl, s2, hkx, hsn, hbad⟩
     refine ⟨_, rfl, rfl, _, rfl, ?_⟩
     refine ite2 (fun h1 => ?_) (fun h1 => ?_)
     · refine ⟨_, rfl, q, _, rfl, .inl (.of (s2 _ _ hq)), _, _, rfl, rfl, _, rfl, ?_⟩
       refine ite2 (fun h2 => ?_) (fun h2 => ?_)
       · refine ⟨_, rfl, b, rfl, .inl ⟨_, .inl (s2 _ _ hb1), _, _, rfl, rfl, _, rfl, ?_⟩⟩
         refine ite2 (fun h3 => ?_) (fun h3 => stay)
         have h2' : os.length ≠ 0 := pos_map (of_decide_eq_true h2)
         have h3' : ms.length ≠ 0 := pos_cK (of_decide_eq_true h3)
         obtain ⟨v, hv, hat⟩ := idx os (c / 195) h2'
         refine ⟨_, rfl, _, rfl, _, _, rfl, rfl, ⟨by decide, by decide⟩, _, rfl, q, _, rfl, .inl (.of (s2 _ _ hq)), _, _, rfl, rfl, map_pos h2', q, _, _, _, rfl, rfl, .of (s2 _ _ hq), hat, ?_⟩
         exact key _ _ ⟨.int v, nv, rfl, s2, .inl ⟨.inl v, rfl⟩, hsn, .inr ⟨v, rfl, hos v hv, h3'⟩⟩
       · refine ifN (by simp) ?_
         exact stay
     · refine ifN (by simp) ?_
       exact stay
   clear hkx hsn hbad
   rintro _ H4 ⟨kv, nv, rfl, s2, hkx, hsn, hbad⟩
   refine tSeq_cut (fun σ' H' => ∃ kv nv : V, σ' = [some (.ref a), some (.ref l), some (.ref b), some (.int c), some (.int w), some (.ref q), some kv, some nv, none, none] ∧ Same H1 H' ∧ KeyX H' kv ∧ Sca nv ∧ Bad xs k ms kv nv) ?_ fun key => ?_
   rotate_left
   · have stay := key _ _ ⟨kv, nv, rfl, s2, hkx, hsn, hbad⟩
     refine ⟨_, rfl, _, _, rfl, rfl, _, rfl, ?_⟩
     refine ite2 (fun h1 => ?_) (fun h1 => ?_)
     · refine ⟨_, rfl, _, _, rfl, rfl, _, rfl, ?_⟩
       refine ite2 (fun h2 => ?_) (fun h2 => stay)
       have h1' : 4 < w := by simpa using h1
       have h2' : w < 9 := by simpa using h2
       refine ⟨_, rfl, _, rfl, _, _, rfl, rfl, ⟨by decide, by decide⟩, _, _, rfl, rfl, (by show (0 : Int) < 3; decide), _, _, rfl, rfl, _, rfl, .int 1, nums (spots xs k), rfl, rep_ints (s2.seq hl1), (by rw [deps_nums]; decide), ?_⟩
       refine ⟨smallE (by simp), fun z hz => ?_⟩
       have m0 : 0 ≤ c / 195 % 3 := Int.emod_nonneg _ (by decide)
       have ways := ways5 h1' h2'
       rcases ways with rfl | rfl | rfl | rfl
       · refine ⟨_, rfl, _, _, rfl, rfl, z, _, _, _, rfl, rfl, .of upd_same, rfl, ?_⟩
         exact key _ _ ⟨.int (-1 - c / 195 % 3), nv, rfl, s2.trans (Same.new hz), .inl ⟨.inl _, rfl⟩, hsn, .inl fun k' => partD_key (place_out (.inl (by omega)))⟩
       · refine ⟨_, rfl, _, _, rfl, rfl, z, _, _, _, rfl, rfl, .of upd_same, rfl, ?_⟩
         exact key _ _ ⟨.str (Str.ofString "a"), nv, rfl, s2.trans (Same.new hz), .inl ⟨.inr _, rfl⟩, hsn, .inl fun k' => partD_key rfl⟩
       · refine ⟨_, rfl, _, _, rfl, rfl, z, _, _, _, rfl, rfl, .of upd_same, rfl, ?_⟩
         exact key _ _ ⟨.non, nv, rfl, s2.trans (Same.new hz), .inr ⟨.inr (.inr (.inl rfl)), .inl True.intro, fun i e => nomatch e⟩, hsn, .inl fun k' => partD_key rfl⟩
       · refine ⟨_, rfl, _, _, rfl, rfl, z, _, _, _, rfl, rfl, .of upd_same, rfl, ?_⟩
         exact key _ _ ⟨.bl _, nv, rfl, s2.trans (Same.new hz), .inr ⟨.inr (.inl ⟨_, rfl⟩), .inl True.intro, fun i e => nomatch e⟩, hsn, .inl fun k' => partD_key rfl⟩
     · refine ifN (by simp) ?_
       exact stay
   clear hkx hsn hbad
   rintro _ H5 ⟨kv, nv, rfl, s2, hkx, hsn, hbad⟩
   refine tSeq_cut (fun σ' H' => ∃ kv nv : V, σ' = [some (.ref a), some (.ref l), some (.ref b), some (.int c), some (.int w), some (.ref q), some kv, some nv, none, none] ∧ Same H1 H' ∧ KeyX H' kv ∧ Sca nv ∧ Bad xs k ms kv nv) ?_ fun key => ?_
   rotate_left
   · have stay := key _ _ ⟨kv, nv, rfl, s2, hkx, hsn, hbad⟩
     refine ⟨_, rfl, rfl, _, rfl, ?_⟩
     refine ite2 (fun h1 => ?_) (fun h1 => stay)
     refine ⟨smallE (by simp), fun t ht => ?_⟩
     have ht1 : (upd H5 t (.tup [.int 0])) t = some (.tup [.int 0]) := upd_same
     exact key _ _ ⟨.ref t, nv, rfl, s2.trans (Same.new ht), .inr ⟨.inr (.inr (.inr ⟨t, rfl, ht1⟩)), .inr ⟨t, rfl, ht1⟩, fun i e => nomatch e⟩, hsn, .inl fun k' => partD_key rfl⟩
   clear hkx hsn hbad
   rintro _ H6 ⟨kv, nv, rfl, s2, hkx, hsn, hbad⟩
   have s06 := s1.trans s2
   have hb6 := s2 _ _ hb1
   clear hqa1 hl1 hb1 hL1 hq hos hol
   generalize some (V.ref q) = oq
   refine tSeq_cut (fun σ' H' => ∃ D : Addr, σ' = [some (.ref a), some (.ref l), some (.ref b), some (.int c), some (.int w), oq, some kv, some nv, some (.ref D), none] ∧ Same H6 H' ∧ H6 D = none ∧ H' D = some (.dK [])) ?_ fun key => ?_
   rotate_left
   · refine fun D hD => ?_
     exact key _ _ ⟨D, rfl, Same.new hD, hD, upd_same⟩
   rintro _ H7 ⟨D, rfl, s7, hD6, hD7⟩
   have s07 := s06.trans s7
   have hb7 := s7 _ _ hb6
   have nDb : D ≠ b := fun z => by rw [z, hb6] at hD6; cases hD6
   rcases hkx with ⟨kk, rfl⟩ | ⟨hik, hkr, hni⟩
   · -- an int or a text
     refine tSeq_cut (fun σ' H' => ∃ (o9 : Option V) (kvs : List (Key × V)), σ' = [some (.ref a), some (.ref l), some (.ref b), some (.int c), some (.int w), oq, some (kV kk), some nv, some (.ref D), o9] ∧ Same H H' ∧ H' D = some (.dK kvs) ∧ InvA ms kk nv kvs ms.length (2 * ms.length)) ?_ fun key => ?_
     rotate_left
     · refine .inr ⟨b, cK ms, hb7, fun _ o => ?_⟩
       refine ⟨_, rfl, b, o, cK ms, rfl, upd_same, ?_⟩
       refine for_keys (d := b) (o := o) (kvs := cK ms) (fun i σ G => ∃ (o9 : Option V) (kvs : List (Key × V)), σ = [some (.ref a), some (.ref l), some (.ref b), some (.int c), some (.int w), oq, some (kV kk), some nv, some (.ref D), o9] ∧ G b = some (.frz o (.dK (cK ms))) ∧ G D = some (.dK kvs) ∧ (∀ c q, c ≠ b → H c = some q → G c = some q) ∧ InvA ms kk nv kvs i (2 * i))
         ⟨none, [], rfl, upd_same, by rw [upd_ne nDb]; exact hD7, fun c q n1 e => by rw [upd_ne n1]; exact s07 _ _ e, InvA.new ms kk nv⟩ (fun i σ G _ ⟨_, _, _, e, _⟩ => e) ?_ ?_
       · rintro i kx x σ G hx ⟨o9, kvs, rfl, hbG, hDG, hkG, hA⟩
         obtain ⟨q, hq, rfl, rfl⟩ := cK_get hx
         have hlt : i < ms.length := (List.getElem?_eq_some_iff.mp hq).1
         have hat : lookI ms q.1 = some q.2 := lookI_in hnd (List.mem_of_getElem? hq)
         refine tSeq_cut (fun σ' H' => ∃ (kvs : List (Key × V)), σ' = [some (.ref a), some (.ref l), some (.ref b), some (.int c), some (.int w), oq, some (kV kk), some nv, some (.ref D), some (.int q.1)] ∧ H' b = some (.frz o (.dK (cK ms))) ∧ H' D = some (.dK kvs) ∧ (∀ c q, c ≠ b → H c = some q → H' c = some q) ∧ InvA ms kk nv kvs i (2 * i + 1)) ?_ fun key1 => ?_
         rotate_left
         · refine ⟨_, rfl, D, rfl, .inl ⟨kvs, .inl hDG, _, rfl, _, _, rfl, rfl, ⟨by decide, by decide⟩, _, rfl, b, rfl, .inl ⟨cK ms, .inr ⟨o, hbG⟩, _, _, rfl, rfl, _, _, rfl, rfl, cK_pos, rfl, _, rfl, ?_⟩⟩⟩
           have hAl := hA.len
           refine ite2 (fun h1 => ?_) (fun h1 => ?_)
           · refine ⟨_, rfl, _, rfl, _, rfl, D, rfl, .inl ⟨_, DPut.k hDG (sm0 hAl hlt hml), ?_⟩⟩
             refine key1 _ _ ⟨_, rfl, by rw [upd_ne nDb.symm]; exact hbG, upd_same, fun c r n1 e => ?_, hA.key hsn⟩
             rw [upd_ne (fun z => by rw [z] at e; have := s06 _ _ e; rw [hD6] at this; cases this)]
             exact hkG c r n1 e
           · exact key1 _ _ ⟨kvs, rfl, hbG, hDG, hkG, ⟨Nat.le_succ_of_le hAl, hA.sca, hA.own, hA.all⟩⟩
         clear hDG hA hbG hkG
         rintro _ G1 ⟨kvs1, rfl, hbG, hDG, hkG, hA⟩
         have hAl := hA.len
         refine ⟨_, rfl, _, rfl, q.1, vD (kV kk), rfl, kalt_key kk, _, rfl, ?_⟩
         refine ite2 (fun h1 => ?_) (fun h1 => ?_)
         · have hne : (Sum.inl q.1 : Key) ≠ kk := by
             have h2 : (!eqD (.int q.1) (vD (kV kk))) = true := h1
             rw [eq_key] at h2
             simpa using h2
           refine ⟨_, rfl, _, rfl, b, .int q.2, rfl, dget_at (.inr ⟨o, hbG⟩) hat, _, rfl, _, rfl, D, rfl, .inl ⟨_, DPut.k (k := Sum.inl q.1) hDG (sm1 hAl hlt hml), ?_⟩⟩
           refine ⟨_, _, rfl, by rw [upd_ne nDb.symm]; exact hbG, upd_same, fun c r n1 e => ?_, hA.place hq hne⟩
           rw [upd_ne (fun z => by rw [z] at e; have := s06 _ _ e; rw [hD6] at this; cases this)]
           exact hkG c r n1 e
         · have he : (Sum.inl q.1 : Key) = kk := by
             have h2 : ¬ (!eqD (.int q.1) (vD (kV kk))) = true := h1
             rw [eq_key] at h2
             simpa using h2
           exact ⟨_, kvs1, rfl, hbG, hDG, hkG, hA.skip hq he⟩
       · rintro σ G ⟨o9, kvs, rfl, hbG, hDG, hkG, hA⟩
         rw [cK_len] at hA
         refine ⟨hbG, ?_⟩
         refine key _ _ ⟨o9, kvs, rfl, fun c q e => ?_, by rw [upd_ne nDb]; exact hDG, hA⟩
         by_cases z : c = b
         · subst z
           rw [hb] at e
           cases e
           exact upd_same
         · rw [upd_ne z]
           exact hkG c q z e
     rintro _ H8 ⟨o9, kvs, rfl, s8, hD8, hA⟩
     have hAl := hA.len
     refine tSeq_cut (fun σ' H' => ∃ (kvs : List (Key × V)), σ' = [some (.ref a), some (.ref l), some (.ref b), some (.int c), some (.int w), oq, some (kV kk), some nv, some (.ref D), o9] ∧ Same H H' ∧ H' D = some (.dK kvs) ∧ InvA ms kk nv kvs ms.length (2 * ms.length + 1) ∧ ∃ v, (kk, v) ∈ kvs) ?_ fun key => ?_
     rotate_left
     · refine ⟨_, rfl, _, rfl, D, rfl, .inl ⟨kvs, kk, hD8, rfl, _, rfl, ?_⟩⟩
       refine ite2 (fun h1 => ?_) (fun h1 => ?_)
       · refine ⟨_, rfl, _, rfl, _, rfl, D, rfl, .inl ⟨_, DPut.k hD8 (sm2 hAl hml), ?_⟩⟩
         exact key _ _ ⟨_, rfl, s8.turn (s06.free hD6), upd_same, hA.key hsn, nv, putV_self _ _ _⟩
       · have h2 : (valV kvs kk).isSome = true := by
           have h3 : ¬ (!(valV kvs kk).isSome) = true := h1
           cases h4 : (valV kvs kk).isSome with
           | true => rfl
           | false => exact absurd (by rw [h4]; rfl) h3
         exact key _ _ ⟨kvs, rfl, s8, hD8, ⟨Nat.le_succ_of_le hAl, hA.sca, hA.own, hA.all⟩, val_mem h2⟩
     rintro _ H9 ⟨kvs9, rfl, s9, hD9, hA9, hin⟩
     have hAl9 := hA9.len
     exact ⟨_, rfl, kq _ (.dk kvs9) H9 s9 ⟨D, rfl, hD9, sm9 hAl9 hml, hA9.sca⟩ (hA9.bad hshp hk0 hin hsp hbad)⟩
   · -- an odd one
     have hr : ∀ p ∈ ms, 0 ≤ p.1 ∧ p.1 < 1000 := fun p hp => by
       obtain ⟨g1, g2, _⟩ := spN_mem (hsp p hp)
       exact ⟨g1, by omega⟩
     generalize hidx : c / 975 % ((ms.length : Int) + 1) = idx
     refine tSeq_cut (fun σ' H' => ∃ (o9 : Option V) (kvs : List (V × V)), σ' = [some (.ref a), some (.ref l), some (.ref b), some (.int c), some (.int w), oq, some kv, some nv, some (.ref D), o9] ∧ Same H6 H' ∧ OddOf H' D kvs ∧ InvB ms kv nv kvs ms.length (2 * ms.length) idx) ?_ fun key => ?_
     rotate_left
     · refine .inr ⟨b, cK ms, hb7, fun _ o => ?_⟩
       refine ⟨_, rfl, b, o, cK ms, rfl, upd_same, ?_⟩
       refine for_keys (d := b) (o := o) (kvs := cK ms) (fun i σ G => ∃ (o9 : Option V) (kvs : List (V × V)), σ = [some (.ref a), some (.ref l), some (.ref b), some (.int c), some (.int w), oq, some kv, some nv, some (.ref D), o9] ∧ G b = some (.frz o (.dK (cK ms))) ∧ OddOf G D kvs ∧ StayX b H6 G ∧ InvB ms kv nv kvs i (2 * i) idx)
         ⟨none, [], rfl, upd_same, .inr ⟨[], by rw [upd_ne nDb]; exact hD7, (fun p hp => nomatch hp), rfl⟩, fun c q n1 e => by rw [upd_ne n1]; exact s7 _ _ e, InvB.new ms kv nv idx⟩ (fun i σ G _ ⟨_, _, _, e, _⟩ => e) ?_ ?_
       · rintro i kx x σ G hx ⟨o9, kvs, rfl, hbG, hDG, hkG, hA⟩
         obtain ⟨q, hq, rfl, rfl⟩ := cK_get hx
         have hlt : i < ms.length := (List.getElem?_eq_some_iff.mp hq).1
         have hat : lookI ms q.1 = some q.2 := lookI_in hnd (List.mem_of_getElem? hq)
         refine tSeq_cut (fun σ' H' => ∃ (kvs : List (V × V)), σ' = [some (.ref a), some (.ref l), some (.ref b), some (.int c), some (.int w), oq, some kv, some nv, some (.ref D), some (.int q.1)] ∧ H' b = some (.frz o (.dK (cK ms))) ∧ OddOf H' D kvs ∧ StayX b H6 H' ∧ InvB ms kv nv kvs i (2 * i + 1) idx) ?_ fun key1 => ?_
         rotate_left
         · have hAl := hA.len
           refine ⟨_, rfl, D, rfl, .inr ⟨kvs, hDG, Nat.le_of_lt (sm0 hAl hlt hml), _, rfl, _, _, rfl, rfl, ⟨by decide, by decide⟩, _, rfl, b, rfl, .inl ⟨cK ms, .inr ⟨o, hbG⟩, _, _, rfl, rfl, _, _, rfl, rfl, cK_pos, rfl, _, rfl, ?_⟩⟩⟩
           rw [cK_len]
           refine ite2 (fun h1 => ?_) (fun h1 => ?_)
           · have h2 : (kvs.length : Int) = idx := by
               rw [← hidx]
               simpa using h1
             have hn : ¬ ∃ p ∈ kvs, p.1 = kv := fun z => by have := hA.own z; omega
             refine ⟨_, rfl, _, rfl, _, rfl, D, rfl, .inr ⟨kvs, hDG, IsKey.stay hb6 hkG hik, hA.free hn, sm0 hAl hlt hml, fun o' hO' => ?_⟩⟩
             refine key1 _ _ ⟨_, rfl, by rw [upd_ne nDb.symm]; exact hbG, .inl hO', fun c r n1 e => ?_, hA.key hsn hn (by omega)⟩
             rw [upd_ne (fun z => by rw [z, hD6] at e; cases e)]
             exact hkG c r n1 e
           · exact key1 _ _ ⟨kvs, rfl, hbG, hDG, hkG, hA.more (Nat.le_succ _) (Nat.le_refl _)⟩
         clear hDG hA hbG hkG
         rintro _ G1 ⟨kvs1, rfl, hbG, hDG, hkG, hA⟩
         have hAl := hA.len
         obtain ⟨r0, r1⟩ := hr q (List.mem_of_getElem? hq)
         refine ⟨_, rfl, _, rfl, q.1, vD kv, rfl, kalt_odd (IsKey.stay hb6 hkG hik), _, rfl, ?_⟩
         refine ite2 (fun h1 => ?_) (fun h1 => ?_)
         · have he : eqD (.int q.1) (vD kv) = false := by
             have h2 : (!eqD (.int q.1) (vD kv)) = true := h1
             simpa using h2
           have hne := odd_hash hik hni r0 r1 he
           refine ⟨_, rfl, _, rfl, b, .int q.2, rfl, dget_at (.inr ⟨o, hbG⟩) hat, _, rfl, _, rfl, D, rfl, .inr ⟨kvs1, hDG, .inl ⟨_, rfl⟩, hA.fresh hnd hr hq hne, sm1 hAl hlt hml, fun o' hO' => ?_⟩⟩
           refine ⟨_, _, rfl, by rw [upd_ne nDb.symm]; exact hbG, .inl hO', fun c r n1 e => ?_, hA.place hni hnd hr hq hne⟩
           rw [upd_ne (fun z => by rw [z, hD6] at e; cases e)]
           exact hkG c r n1 e
         · exact ⟨_, kvs1, rfl, hbG, hDG, hkG, hA.more (Nat.le_succ (2 * i + 1)) (Nat.le_succ _)⟩
       · rintro σ G ⟨o9, kvs, rfl, hbG, hDG, hkG, hA⟩
         rw [cK_len] at hA
         refine ⟨hbG, ?_⟩
         refine key _ _ ⟨o9, kvs, rfl, fun c q e => ?_, OddOf.at (upd_ne nDb) hDG, hA⟩
         by_cases z : c = b
         · subst z
           rw [hb6] at e
           cases e
           exact upd_same
         · rw [upd_ne z]
           exact hkG c q z e
     rintro _ H8 ⟨o9, kvs, rfl, s8, hD8, hA⟩
     have hAl := hA.len
     have stx : ∀ {G : Hp}, Same H6 G → StayX b H6 G := fun s c q _ e => s c q e
     refine tSeq_cut (fun σ' H' => ∃ (kvs : List (V × V)), σ' = [some (.ref a), some (.ref l), some (.ref b), some (.int c), some (.int w), oq, some kv, some nv, some (.ref D), o9] ∧ Same H6 H' ∧ OddAt H' D kvs ∧ InvB ms kv nv kvs ms.length (2 * ms.length + 1) (-1) ∧ ∃ p ∈ kvs, p.1 = kv) ?_ fun key => ?_
     rotate_left
     · refine ⟨_, rfl, _, rfl, D, rfl, ?_⟩
       by_cases hn : ∃ p ∈ kvs, p.1 = kv
       · obtain ⟨p, hp, ep⟩ := id hn
         obtain ⟨j, hj⟩ := List.mem_iff_getElem?.mp hp
         have hj' : kvs[j]? = some (kv, p.2) := by rw [hj, ← ep]
         refine .inr (.inr ⟨kvs, j, p.2, hD8, IsKey.stay hb6 (stx s8) hik, hni, hj', fun i p' hp' he => ?_, _, rfl, ?_⟩)
         · have k1 : (kvs.map fun p => hsh p.1)[i]? = some (hsh p'.1) := by rw [List.getElem?_map, hp']; rfl
           have k2 : (kvs.map fun p => hsh p.1)[j]? = some (hsh kv) := by rw [List.getElem?_map, hj']; rfl
           exact (List.getElem?_inj (List.getElem?_eq_some_iff.mp k1).1 hA.nod).mp (by rw [k1, k2, he])
         · refine ifN (by decide) ?_
           refine key _ _ ⟨kvs, rfl, s8, OddOf.odd hD8 hn hni, ⟨by omega, hA.sca, hA.keys, hA.nod, fun _ => by omega⟩, hn⟩
       · refine .inr (.inl ⟨kvs, hD8, IsKey.stay hb6 (stx s8) hik, hA.free hn, _, rfl, ?_⟩)
         refine ifP rfl ?_
         refine ⟨_, rfl, _, rfl, _, rfl, D, rfl, .inr ⟨kvs, hD8, IsKey.stay hb6 (stx s8) hik, hA.free hn, sm2 hAl hml, fun o' hO' => ?_⟩⟩
         have hA' : InvB ms kv nv kvs ms.length (2 * ms.length) (-1) := ⟨hA.len, hA.sca, hA.keys, hA.nod, fun _ => by omega⟩
         exact key _ _ ⟨_, rfl, s8.turn hD6, hO', hA'.key hsn hn (by omega), (kv, nv), by simp, rfl⟩
     rintro _ H9 ⟨kvs9, rfl, s9, hD9, hA9, hin⟩
     have hAl9 := hA9.len
     refine ⟨_, rfl, kq _ (.odd kvs9) H9 (s06.trans s9) ⟨D, rfl, hD9, sm9 hAl9 hml, fun p hp => ⟨?_, hA9.sca p hp⟩⟩ (hA9.bad hin hni)⟩
     rcases hA9.keys p hp with e | ⟨_, q, _, _, e, _⟩
     · rw [e]
       exact hkr.stay hb6 (stx s9)
     · rw [e]
       exact .inl True.intro
noncomputable abbrev s_L_cone_by : Stmt := top 41
theorem sc_L_cone_by : FnScope ["_law_shape", "_law_many", "_law_pieces", "_law_at"] ["_law_shape"] (defScope s_L_cone_by) := ⟨rfl, rfl, rfl, by decide +kernel, rfl, by decide +kernel, by decide +kernel⟩
theorem nd_L_cone_by : (["_law_shape", "_law_many", "_law_pieces", "_law_at"] : List Str).Nodup := by decide +kernel
theorem ok_L_cone_by {f : Addr} {fd : FuncData} (F : Fun K "_law_cone_by" "_law_cone_by" s_L_cone_by f fd) (T : Txt K mg C_HoleError C_NoShape C_NoChain C_NoGlue)  : FnOk P w K mg base CX0 1 f fd ["_law_shape"] (sp_L_cone_by K) := by
 refine F.ok sc_L_cone_by (fun vs H Q E h => ?_) (fun cdv A outer s H vs Q E hr h => ?_)
 · obtain ⟨a, xs, rfl, hL, hxl, h4, k⟩ := h
   rfl
 · obtain ⟨a, xs, rfl, hL, hxl, h4, k⟩ := h
   refine ⟨_, (pss_cons (ps_set (i := 1) nd_L_cone_by (by rfl) (by first | exact Or.inl rfl | exact Or.inr rfl) (pe_callB (kcall_len_seq (K := K)) (by rfl) T.n_len PySem.boot_len (pa_cons (pv 0) pa_nil)))
     (pss_cons (ps_set (i := 2) nd_L_cone_by (by rfl) (by first | exact Or.inl rfl | exact Or.inr rfl) (pe_op (kop_catLW (K := K)) (pv 0) (pe_lst (pa_cons (pe_tup pa_nil) pa_nil))))
     (pss_cons (ps_for PassesOwn.never rfl (pi_range1 (by rfl) T.n_range (pa_cons (pv 1) pa_nil)) (pg_name (i := 3) nd_L_cone_by (by rfl) (by first | exact Or.inl rfl | exact Or.inr rfl)) (pss_one (ps_if (pt_cmpR op_eq (pe_callB (kcall_len_seq (K := K)) (by rfl) T.n_len PySem.boot_len (pa_cons (pe_ix (kix_list (K := K)) (pv 0) (pv 3) (fun _ _ => rfl)) pa_nil)) pe_int (nomark _)) (pss_one (ps_expr (kpe_bm (K := K) PySem.F.plainAttrs_list PySem.F.slot_list_append PySem.F.type_list_append mt_append (pv 2) (pa_cons (pe_tup (pa_cons (pv 3) (pa_cons (pv 1) pa_nil))) pa_nil)))) (pss_one (ps_expr (kpe_bm (K := K) PySem.F.plainAttrs_list PySem.F.slot_list_append PySem.F.type_list_append mt_append (pv 2) (pa_cons (pe_op (kop_catW (K := K)) (pe_tup (pa_cons (pv 3) pa_nil)) (pe_callTy (kcall_tuple_of (K := K)) (by rfl) T.n_tuple boot_tupleT (pa_cons (pe_comp (N' := ["_law_face", "_law_many"]) (cap := [none, some 1]) (by rfl) (by kernel_rfl) (kpi_tup (K := K) (pe_ix (kix_list (K := K)) (pv 0) (pv 3) (fun _ _ => rfl))) (fun _ _ _ _ => (pg_name (i := 0) ndc_13 (by rfl) (by first | exact Or.inl rfl | exact Or.inr rfl))) (fun _ _ _ _ => pts_nil) (fun _ _ _ _ => (pe_op op_add (pe_op op_add (pv 0) (pv 1)) pe_int))) pa_nil))) pa_nil)))))))
     (pss_one (ps_ret (pv 2)))))), ?_⟩
   obtain ⟨_, us, z, hqa, ra⟩ := id hL
   cases z
   have usl : us.length = xs.length := by have := ra.length; simpa using this
   refine tSeq_cut (fun σ' H' => σ' = [some (.ref a), some (.int (xs.length : Int)), none, none] ∧ H = H') ?_ fun key => ?_
   rotate_left
   · exact ⟨_, rfl, a, us, rfl, .inl hqa, key _ _ ⟨by rw [usl] <;> rfl, rfl⟩⟩
   rintro _ _ ⟨rfl, rfl⟩
   refine tSeq_cut (fun σ' H' => ∃ (p : Addr) (ws : List V), σ' = [some (.ref a), some (.int (xs.length : Int)), some (.ref p), none] ∧ Same H H' ∧ H p = none ∧ H' p = some (.lst ws) ∧ Reps K H' ws ((xs ++ [[]]).map tI)) ?_ fun key => ?_
   rotate_left
   · refine ⟨_, rfl, Nat.zero_le _, fun T hT => ?_⟩
     have sG1 : Same H (upd H T (.tup [])) := Same.new hT
     have eG1 : upd H T (.tup []) T = some (.tup []) := upd_same
     generalize upd H T (.tup []) = G1 at sG1 eG1
     refine ⟨smallE (by simp), fun B hB => ?_⟩
     have sG2 : Same G1 (upd G1 B (.lst [.ref T])) := Same.new hB
     have eG2 : upd G1 B (.lst [.ref T]) B = some (.lst [.ref T]) := upd_same
     generalize upd G1 B (.lst [.ref T]) = G2 at sG2 eG2
     have s12 := sG1.trans sG2
     refine ⟨a, B, us, _, rfl, rfl, s12.seq hqa, .of eG2, smallE (by simp; omega), fun C hC => ?_⟩
     have sG3 : Same G2 (upd G2 C (.lst (us ++ [.ref T]))) := Same.new hC
     have eG3 : upd G2 C (.lst (us ++ [.ref T])) C = some (.lst (us ++ [.ref T])) := upd_same
     generalize upd G2 C (.lst (us ++ [.ref T])) = G3 at sG3 eG3
     have s13 := s12.trans sG3
     refine key _ _ ⟨C, _, rfl, s13, s12.free hC, eG3, ?_⟩
     rw [List.map_append]
     exact Reps.append (Reps.same s13 ra) ⟨_, _, rfl, TI.mk (.of ((sG2.trans sG3) _ _ eG1)), rfl⟩
   rintro _ H1 ⟨p, ws, rfl, s1, hp, hp1, r1⟩
   have q1 := s1.seq hqa
   have ra1 := Reps.same s1 ra
   refine tSeq_cut (fun σ' H' => ∃ o, σ' = [some (.ref a), some (.int (xs.length : Int)), some (.ref p), o] ∧ Same H H' ∧ ∃ us', H' p = some (.lst us') ∧ Reps K H' us' ((cnX xs).map tI)) ?_ fun key => ?_
   rotate_left
   · refine ⟨_, rfl, _, rfl, by omega, by omega, ?_⟩
     refine for_range (lo := 0) (n := ((xs.length : Int)).toNat) (fun i σ G => ∃ o, σ = [some (.ref a), some (.int (xs.length : Int)), some (.ref p), o] ∧ Same H G ∧ ∃ us', G p = some (.lst us') ∧ Reps K G us' ((xs ++ [[]] ++ cnN xs i).map tI)) ⟨none, rfl, s1, ws, hp1, by rw [show cnN xs 0 = [] from rfl, List.append_nil]; exact r1⟩ ?_ ?_
     · rintro i σ G hi ⟨o, rfl, g, us', hpG, rG⟩
       rw [show (0 : Int) + (i : Int) = (i : Int) by omega]
       have hi : i < xs.length := by omega
       obtain ⟨us2, v, hus, hat, tv⟩ := LT.get (Rep.same g hL) (i := (i : Int)) (by omega) (by omega)
       rw [Int.toNat_natCast] at tv
       obtain ⟨av, rfl, sqv⟩ := TI.sq tv
       have ul : us'.length = xs.length + 1 + i := by have := rG.length; rw [this, List.length_map, List.length_append, List.length_append, cnN_len]; rfl
       have x4 : (xs.getD i []).length ≤ 4 := by
         rcases mem_getD_or (l := xs) (i := i) (d := []) with z | z
         · exact h4 _ z
         · rw [z]; exact Nat.zero_le _
       have fin : ∀ (w : V) (G2 : Hp), Same G G2 → TI K G2 w (cnP xs.length (i : Int) (xs.getD i [])) → ∃ o', ([some (.ref a), some (.int (xs.length : Int)), some (.ref p), some (.int (i : Int))] : St) = [some (.ref a), some (.int (xs.length : Int)), some (.ref p), o'] ∧ Same H (upd G2 p (.lst (us' ++ [w]))) ∧ ∃ us'', (upd G2 p (.lst (us' ++ [w]))) p = some (.lst us'') ∧ Reps K (upd G2 p (.lst (us' ++ [w]))) us'' ((xs ++ [[]] ++ cnN xs (i + 1)).map tI) := fun w G2 g2 tw => by
         refine ⟨_, rfl, (g.trans g2).turn hp, _, upd_same, ?_⟩
         rw [cnN_succ, ← List.append_assoc]
         exact push_TI (g2 _ _ hpG) (Reps.same g2 rG) tw
       refine ⟨_, rfl, _, rfl, a, us2, _, .ref av, rfl, rfl, hus, hat, av, _, rfl, .inr sqv, rfl, _, rfl, ?_⟩
       rw [List.length_map]
       refine ite2 (fun h1 => ?_) (fun h1 => ?_)
       · have h0 : (xs.getD i []).length = 0 := by
           have := V.int.inj (of_decide_eq_true h1)
           omega
         refine ⟨_, rfl, .inl ⟨rfl, _, .of hpG⟩, _, rfl, _, rfl, smallE (by simp), fun T hT => ?_⟩
         have sT : Same G (upd G T (.tup [.int (i : Int), .int (xs.length : Int)])) := Same.new hT
         refine ⟨p, _, _, rfl, rfl, sT _ _ hpG, small (by omega), fin (.ref T) _ sT (TI.mk ?_)⟩
         unfold cnP
         rw [if_pos h0]
         exact .of upd_same
       · have h0 : ¬ (xs.getD i []).length = 0 := fun z => h1 (by rw [z]; rfl)
         refine ⟨_, rfl, .inl ⟨rfl, _, .of hpG⟩, _, rfl, smallE (by simp), fun T hT => ?_⟩
         have sG1 : Same G (upd G T (.tup [.int (i : Int)])) := Same.new hT
         have eG1 : upd G T (.tup [.int (i : Int)]) T = some (.tup [.int (i : Int)]) := upd_same
         generalize upd G T (.tup [.int (i : Int)]) = G1 at sG1 eG1
         refine ⟨_, rfl, _, rfl, a, us2, _, .ref av, rfl, rfl, sG1.seq hus, hat, av, rfl, ⟨_, sG1.seqT sqv⟩, fun D hD => ?_⟩
         refine comp_tup0 (K := K) (a := av) (xs := (xs.getD i []).map V.int) (fun j ys τ G2 => Same G1 G2 ∧ G2 D = some (.lst ys) ∧ ys = (((xs.getD i []).take j).map fun q => (xs.length : Int) + 1 + q).map V.int ∧ ∃ o, τ = [o, some (.int (xs.length : Int))])
           ⟨Same.new hD, upd_same, rfl, none, rfl⟩ (fun j ys τ G2 _ ⟨g2, _⟩ => (sG1.trans g2).seqT sqv) ?_ ?_
         · rintro j y ys τ G2 hy ⟨g2, hD2, hys, o2, rfl⟩
           have hj : j < (xs.getD i []).length := by have := (List.getElem?_eq_some_iff.mp hy).1; simpa using this
           have hyv : y = .int (xs.getD i [])[j] := by
             rw [List.getElem?_map, List.getElem?_eq_getElem hj] at hy
             simpa using hy.symm
           subst hyv
           refine ⟨_, rfl, _, rfl, _, _, rfl, rfl, _, _, rfl, rfl, hD2, small (by rw [hys, List.length_map, List.length_map, List.length_take]; omega), g2.turn hD, upd_same, ?_, _, rfl⟩
           rw [List.take_succ, List.getElem?_eq_getElem hj, List.map_append, List.map_append, hys]
           show _ ++ [V.int ((xs.getD i [])[j] + (xs.length : Int) + 1)] = _ ++ [V.int ((xs.length : Int) + 1 + (xs.getD i [])[j])]
           rw [show (xs.getD i [])[j] + (xs.length : Int) + 1 = (xs.length : Int) + 1 + (xs.getD i [])[j] by omega]
         · rintro ys τ G2 ⟨g2, hD2, hys, _⟩
           rw [List.length_map, List.take_length] at hys
           refine ⟨D, _, rfl, .inl ⟨.of hD2, fun T1 hT1 => ?_⟩⟩
           have sG3 : Same G2 (upd G2 T1 (.tup ys)) := Same.new hT1
           have eG3 : upd G2 T1 (.tup ys) T1 = some (.tup ys) := upd_same
           generalize upd G2 T1 (.tup ys) = G3 at sG3 eG3
           refine ⟨T, T1, _, _, rfl, rfl, .of ((g2.trans sG3) _ _ eG1), .of eG3, smallE (by have y4 : ys.length ≤ 4 := (by rw [hys, List.length_map, List.length_map]; exact x4); simp; omega), fun q HQ sQ hQ => ?_⟩
           have gA := ((sG1.trans g2).trans sG3).trans sQ
           refine ⟨p, _, _, rfl, rfl, gA _ _ hpG, small (by omega), fin (.ref q) _ gA (TI.mk ?_)⟩
           unfold cnP
           rw [if_neg h0]
           rw [hys] at hQ
           exact hQ
     · rintro σ G ⟨o, rfl, g, us', hpG, rG⟩
       rw [Int.toNat_natCast] at rG
       exact key _ _ ⟨o, rfl, g, us', hpG, rG⟩
   rintro _ H2 ⟨o, rfl, s2, us', hp2, r2⟩
   exact ⟨_, rfl, k p us' H2 hp s2 hp2 r2⟩
noncomputable abbrev s_L_coned_by : Stmt := top 42
theorem sc_L_coned_by : FnScope ["_law_shape", "_law_chain", "_law_due", "_law_place"] ["_law_shape", "_law_chain"] (defScope s_L_coned_by) := ⟨rfl, rfl, rfl, by decide +kernel, rfl, by decide +kernel, by decide +kernel⟩
theorem nd_L_coned_by : (["_law_shape", "_law_chain", "_law_due", "_law_place"] : List Str).Nodup := by decide +kernel
theorem ok_L_coned_by {f : Addr} {fd : FuncData} (F : Fun K "_law_coned_by" "_law_coned_by" s_L_coned_by f fd) (T : Txt K mg C_HoleError C_NoShape C_NoChain C_NoGlue)  : FnOk P w K mg base CX0 1 f fd ["_law_shape", "_law_chain"] (sp_L_coned_by K) := by
 refine F.ok sc_L_coned_by (fun vs H Q E h => ?_) (fun cdv A outer s H vs Q E hr h => ?_)
 · obtain ⟨a, b, xs, ms, rfl, hL, hb, hndm, hml, k⟩ := h
   rfl
 · obtain ⟨a, b, xs, ms, rfl, hL, hb, hndm, hml, k⟩ := h
   have hu8 : (A.deeper (PyProof.Rows.envOfC "_law_coned_by" (defScope s_L_coned_by) s.heap.objs.size f cdv)).units + 8 < cLine := by have := hr.units; omega
   refine ⟨_, (pss_cons (ps_set (i := 2) nd_L_coned_by (by rfl) (by first | exact Or.inl rfl | exact Or.inr rfl) pe_dnewK)
     (pss_cons (ps_frz (ps_for PassesOwn.never rfl (pi_keys (pv 1)) (pg_name (i := 3) nd_L_coned_by (by rfl) (by first | exact Or.inl rfl | exact Or.inr rfl)) (pss_one (ps_dput (u1 hu8) (pv 2) (pe_op op_add (pe_op op_add (pv 3) (pe_callB (kcall_len_seq (K := K)) (by rfl) T.n_len PySem.boot_len (pa_cons (pv 0) pa_nil))) pe_int) (pe_dget (u1 hu8) (pv 1) (pv 3) (fun _ _ => rfl)) (by rfl)))))
     (pss_one (ps_ret (pv 2))))), ?_⟩
   obtain ⟨_, us, z, hS, ra⟩ := id hL
   cases z
   have usl : us.length = xs.length := by have := ra.length; simpa using this
   refine fun D hD => ?_
   have nbD : b ≠ D := ne_of_none hb hD
   have s0 : Same H (upd H D (.dK [])) := Same.new hD
   have hb0 : (upd H D (.dK [])) b = some (.dK (cK ms)) := s0 _ _ hb
   have hD0 : (upd H D (.dK [])) D = some (.dK []) := upd_same
   have hS0 := Same.seq s0 hS
   generalize upd H D (.dK []) = H0 at s0 hb0 hD0 hS0
   refine .inr ⟨b, cK ms, hb0, fun _ o => ?_⟩
   refine ⟨_, rfl, b, o, cK ms, rfl, upd_same, ?_⟩
   refine for_keys (d := b) (o := o) (kvs := cK ms) (fun i σ H1 => ∃ o1, σ = [some (.ref a), some (.ref b), some (.ref D), o1] ∧ H1 b = some (.frz o (.dK (cK ms))) ∧ H1 D = some (.dK (cK (shN xs.length ms i))) ∧ (∀ c q, c ≠ b → c ≠ D → H0 c = some q → H1 c = some q))
     ⟨none, rfl, upd_same, by rw [upd_ne nbD.symm]; exact hD0, fun c q n1 n2 e => by rw [upd_ne n1]; exact e⟩ (fun i σ H1 _ ⟨_, _, e, _⟩ => e) ?_ ?_
   · rintro i kk x σ H1 hx ⟨o1, rfl, hb1, hD1, hk1⟩
     obtain ⟨q, hq, rfl, rfl⟩ := cK_get hx
     have hat : lookI ms q.1 = some q.2 := lookI_in hndm (List.mem_of_getElem? hq)
     have ml := shN_len xs.length ms i
     have hSG : SqL K H1 a us := by
       have e1 : StayX b H0 (upd H0 b (.frz o (.dK (cK ms)))) := fun c r n e => by rw [upd_ne n]; exact e
       have l1 := SqL.x e1 hb0 hS0
       have d1 : (upd H0 b (.frz o (.dK (cK ms)))) D = some (.dK []) := by rw [upd_ne nbD.symm]; exact hD0
       have e2 : StayX D (upd H0 b (.frz o (.dK (cK ms)))) H1 := fun c r n e => by
         by_cases z : c = b
         · subst z
           rw [upd_same] at e
           cases e
           exact hb1
         · rw [upd_ne z] at e
           exact hk1 c r z n e
       exact SqL.x (m := []) e2 d1 l1
     refine ⟨_, rfl, _, rfl, b, .int q.2, rfl, dget_at (.inr ⟨o, hb1⟩) hat, _, rfl, _, rfl, _, rfl, a, us, rfl, .inl hSG, _, _, rfl, rfl, _, _, rfl, rfl, D, _, rfl, dput_ok hD1 (by omega), ?_⟩
     refine ⟨_, rfl, ?_, ?_, fun c r n1 n2 e2 => ?_⟩
     · rw [upd_ne nbD]; exact hb1
     · rw [upd_same, usl, shN_put hndm hq]
     · rw [upd_ne n2]; exact hk1 c r n1 n2 e2
   · rintro σ H1 ⟨o1, rfl, hb1, hD1, hk1⟩
     rw [cK_len] at hD1
     have e0 : shN xs.length ms ms.length = shI xs.length ms := by unfold shN; rw [List.take_length]
     rw [e0] at hD1
     have s1 : Same H (upd H1 b (.dK (cK ms))) := fun c q e => by
       by_cases z : c = b
       · subst z
         rw [hb] at e
         cases e
         exact upd_same
       · rw [upd_ne z]
         exact hk1 c q z (ne_of_none e hD) (s0 _ _ e)
     exact ⟨hb1, _, rfl, k D _ hD s1 (by rw [upd_ne nbD.symm]; exact hD1)⟩
noncomputable abbrev s_is_whole_below : Stmt := top 2
theorem sc_is_whole_below : FnScope ["thing", "bound"] ["thing", "bound"] (defScope s_is_whole_below) := ⟨rfl, rfl, rfl, by decide +kernel, rfl, by decide +kernel, by decide +kernel⟩
theorem ok_is_whole_below {f : Addr} {fd : FuncData} (F : Fun K "is_whole_below" "is_whole_below" s_is_whole_below f fd) (T : Txt K mg C_HoleError C_NoShape C_NoChain C_NoGlue) (h_is_whole : Has P w K mg base "is_whole" ["thing"] 1 (sp_is_whole K)) : FnOk P w K mg base CX0 2 f fd ["thing", "bound"] (sp_is_whole_below K) := by
 refine F.ok sc_is_whole_below (fun vs H Q E h => ?_) (fun cdv A outer s H vs Q E hr h => ?_)
 · obtain ⟨x, d, b, rfl, hx, k⟩ := h
   rfl
 · obtain ⟨x, d, b, rfl, hx, k⟩ := h
   refine ⟨_, (pss_one (ps_ret (pe_and (pe_callH h_is_whole hr (by rfl) (pa_cons (pv 0) pa_nil)) (pe_one (pe_chain op_le op_lt pe_int (pv 0) (pv 1)))))), ?_⟩
   refine ⟨_, rfl, x, d, rfl, hx, _, rfl, ?_⟩
   refine ite2 (fun e => ?_) (fun e => ?_)
   · obtain ⟨i, rfl⟩ := wholeD_int e
     cases (show x = .int i from hx)
     refine ⟨_, rfl, _, _, rfl, rfl, _, rfl, ?_⟩
     refine ite2 (fun e1 => ?_) (fun e1 => ?_)
     · refine ⟨_, rfl, _, _, rfl, rfl, ?_⟩
       have e2 : belowD (.int i) b = decide (i < b) := by show (decide (0 ≤ i) && decide (i < b)) = _; rw [e1]; rfl
       rw [e2] at k
       exact k
     · have e2 : belowD (.int i) b = false := by show (decide (0 ≤ i) && decide (i < b)) = _; simp at e1; simp; omega
       rw [e2] at k
       exact k
   · have e2 : belowD d b = false := by
       cases d <;> first | rfl | (exfalso; exact e rfl)
     rw [e2] at k
     exact k
noncomputable abbrev s_places_of_level : Stmt := top 20
theorem sc_places_of_level : FnScope ["shape", "k"] ["shape", "k"] (defScope s_places_of_level) := ⟨rfl, rfl, rfl, by decide +kernel, rfl, by decide +kernel, by decide +kernel⟩
theorem ok_places_of_level {f : Addr} {fd : FuncData} (F : Fun K "places_of_level" "places_of_level" s_places_of_level f fd) (T : Txt K mg C_HoleError C_NoShape C_NoChain C_NoGlue) (h_level_of : Has P w K mg base "level_of" ["piece"] 1 (sp_level_of K)) : FnOk P w K mg base CX0 2 f fd ["shape", "k"] (sp_places_of_level K) := by
 refine F.ok sc_places_of_level (fun vs H Q E h => ?_) (fun cdv A outer s H vs Q E hr h => ?_)
 · obtain ⟨a, i, xs, rfl, hL, hxl, k⟩ := h
   rfl
 · obtain ⟨a, i, xs, rfl, hL, hxl, k⟩ := h
   refine ⟨_, (pss_one (ps_ret (pe_comp (N' := ["place", "piece", "k"]) (cap := [none, none, some 1]) (by rfl) (by kernel_rfl) (pi_enum (K := K) (by rfl) T.n_enumerate (pa_cons (pv 0) pa_nil)) (fun _ _ _ _ => (kpg_tup (K := K) (n := 2) (by rfl) (pgs_cons (pg_name (i := 0) ndc_3 (by rfl) (by first | exact Or.inl rfl | exact Or.inr rfl)) (pgs_cons (pg_name (i := 1) ndc_3 (by rfl) (by first | exact Or.inl rfl | exact Or.inr rfl)) pgs_nil)))) (fun _ _ _ _ => (pts_one (pt_cmpR op_eq (pe_callH h_level_of hr (by rfl) (pa_cons (pv 1) pa_nil)) (pv 2) (nomark _)))) (fun _ _ _ _ => (pv 0))))), ?_⟩
   obtain ⟨us, hq, hul⟩ := LT.len hL
   obtain ⟨_, us', z, hq', r⟩ := id hL
   cases z
   refine ⟨_, rfl, a, rfl, ⟨us', hq'⟩, fun D hD => ?_⟩
   have hul' : us'.length = xs.length := by have := r.length; simpa using this
   refine comp_enum (K := K) (a := a) (xs := us') (fun j ys τ H1 => j ≤ us'.length ∧ Same H H1 ∧ H1 D = some (.lst ys) ∧ ys = (plcN xs i j).map V.int ∧ ∃ o1 o2, τ = [o1, o2, some (.int i)])
     ⟨Nat.zero_le _, Same.new hD, upd_same, rfl, none, none, rfl⟩ (fun j ys τ H1 _ ⟨_, s1, _⟩ => s1.seq hq') ?_ ?_
   · rintro j v ys τ H1 p hv ⟨hj, s1, hD1, hys, o1, o2, rfl⟩ hp
     have hj2 : j < us'.length := (List.getElem?_eq_some_iff.mp hv).1
     have hj3 : j < xs.length := by omega
     obtain ⟨dv, hdv, rv⟩ := r.getV hv
     have edv : dv = tI (xs.getD j []) := by
       rw [List.getElem?_map, List.getElem?_eq_getElem hj3] at hdv
       rw [List.getD_eq_getElem?_getD, List.getElem?_eq_getElem hj3]
       simpa using hdv.symm
     subst edv
     have sp : Same H1 (upd H1 p (.tup [.int j, v])) := Same.new hp
     refine ⟨p, _, rfl, .of upd_same, rfl, _, _, rfl, _, _, rfl, rfl, ?_⟩
     refine ⟨_, rfl, v, nums (xs.getD j []), rfl, .inr (Rep.same (s1.trans sp) rv), _, rfl, rfl, _, rfl, ?_⟩
     rw [show (nums (xs.getD j [])).length = (xs.getD j []).length from List.length_map ..]
     have hDp : (upd H1 p (.tup [.int j, v])) D = some (.lst ys) := sp _ _ hD1
     have yl : ys.length ≤ j := by rw [hys, List.length_map]; exact plcN_len ..
     refine ite2 (fun h2 => ?_) (fun h2 => ?_)
     · have h3 : levI (xs.getD j []).length = i := by simpa using h2
       refine ⟨_, rfl, hDp, small (by omega), by omega, (s1.trans sp).turn hD, upd_same, ?_, _, _, rfl⟩
       rw [plcN_yes h3, List.map_append, hys]
       rfl
     · have h3 : ¬ levI (xs.getD j []).length = i := by simpa using h2
       refine ⟨by omega, s1.trans sp, hDp, ?_, _, _, rfl⟩
       rw [plcN_no h3]
       exact hys
   · rintro ys τ H1 ⟨_, s1, hD1, hys, _⟩
     rw [hul'] at hys
     refine k D H1 hD s1 ?_
     rw [hD1, hys]
     rfl
noncomputable abbrev s_piece_over : Stmt := top 23
theorem sc_piece_over : FnScope ["place", "piece", "tip"] ["place", "piece", "tip"] (defScope s_piece_over) := ⟨rfl, rfl, rfl, by decide +kernel, rfl, by decide +kernel, by decide +kernel⟩
theorem ok_piece_over {f : Addr} {fd : FuncData} (F : Fun K "piece_over" "piece_over" s_piece_over f fd) (T : Txt K mg C_HoleError C_NoShape C_NoChain C_NoGlue) (h_level_of : Has P w K mg base "level_of" ["piece"] 1 (sp_level_of K)) (h_moved : Has P w K mg base "moved" ["piece", "many"] 1 (sp_moved K)) : FnOk P w K mg base CX0 2 f fd ["place", "piece", "tip"] (sp_piece_over K) := by
 refine F.ok sc_piece_over (fun vs H Q E h => ?_) (fun cdv A outer s H vs Q E hr h => ?_)
 · obtain ⟨v, p, i, n, rfl, hv, hpl, hp1, k⟩ := h
   rfl
 · obtain ⟨v, p, i, n, rfl, hv, hpl, hp1, k⟩ := h
   refine ⟨_, (pss_cons (ps_if (pt_cmpR op_eq (pe_callH h_level_of hr (by rfl) (pa_cons (pv 1) pa_nil)) pe_int (nomark _)) (pss_one (ps_ret (pe_tup (pa_cons (pv 0) (pa_cons (pv 2) pa_nil))))) pss_nil)
     (pss_one (ps_ret (pe_op (kop_catW (K := K)) (pe_tup (pa_cons (pv 0) pa_nil)) (pe_callH h_moved hr (by rfl) (pa_cons (pv 1) (pa_cons (pe_op op_add (pv 2) pe_int) pa_nil))))))), ?_⟩
   refine ⟨_, rfl, v, nums p, rfl, TI.seqD hv, rfl, _, rfl, ?_⟩
   rw [show (nums p).length = p.length from List.length_map ..]
   refine ite2 (fun h1 => ?_) (fun h1 => ?_)
   · have hl : levI p.length = 0 := V.int.inj (of_decide_eq_true h1)
     have h0 : p.length = 0 := by
       unfold levI at hl
       split at hl <;> omega
     refine ⟨_, rfl, _, rfl, smallE (by simp), fun T hT => k (.ref T) _ (Same.new hT) (TI.mk ?_)⟩
     unfold cnP
     rw [if_pos h0]
     exact .of upd_same
   · have h0 : ¬ p.length = 0 := fun z => h1 (by rw [z]; rfl)
     refine ⟨_, rfl, smallE (by simp), fun T0 hT0 => ?_⟩
     have sG1 : Same H (upd H T0 (.tup [.int i])) := Same.new hT0
     have eG1 : upd H T0 (.tup [.int i]) T0 = some (.tup [.int i]) := upd_same
     generalize upd H T0 (.tup [.int i]) = G1 at sG1 eG1
     refine ⟨_, rfl, _, rfl, _, _, rfl, rfl, v, p, _, rfl, TI.same sG1 hv, hpl, fun w H1 s1 tw => ?_⟩
     obtain ⟨S, rfl, hS⟩ := TI.sq tw
     refine ⟨T0, S, _, _, rfl, rfl, .of (s1 _ _ eG1), hS, smallE (by simp; omega), fun q HQ sQ hQ => k (.ref q) HQ ((sG1.trans s1).trans sQ) (TI.mk ?_)⟩
     unfold cnP
     rw [if_neg h0]
     exact hQ
noncomputable abbrev s_L_words_with : Stmt := top 29
theorem sc_L_words_with : FnScope ["_law_words", "_law_word", "_law_family", "_law_layer", "_law_rows", "_law_k", "_law_below", "_law_one", "_law_face", "_law_more"] ["_law_words", "_law_word", "_law_family"] (defScope s_L_words_with) := ⟨rfl, rfl, rfl, by decide +kernel, rfl, by decide +kernel, by decide +kernel⟩
theorem nd_L_words_with : (["_law_words", "_law_word", "_law_family", "_law_layer", "_law_rows", "_law_k", "_law_below", "_law_one", "_law_face", "_law_more"] : List Str).Nodup := by decide +kernel
theorem ok_L_words_with {f : Addr} {fd : FuncData} (F : Fun K "_law_words_with" "_law_words_with" s_L_words_with f fd) (T : Txt K mg C_HoleError C_NoShape C_NoChain C_NoGlue) (h_L_faces_by : Has P w K mg base "_law_faces_by" ["_law_word", "_law_family"] 1 (sp_L_faces_by K)) : FnOk P w K mg base CX0 2 f fd ["_law_words", "_law_word", "_law_family"] (sp_L_words_with K) := by
 refine F.ok sc_L_words_with (fun vs H Q E h => ?_) (fun cdv A outer s H vs Q E hr h => ?_)
 · obtain ⟨l, us, v, ws, w, fam, rfl, hl, hr0, hv, hw, hlen, k⟩ := h
   rfl
 · obtain ⟨l, us, v, ws, w, fam, rfl, hl, hr0, hv, hw, hlen, k⟩ := h
   have hu8 : (A.deeper (PyProof.Rows.envOfC "_law_words_with" (defScope s_L_words_with) s.heap.objs.size f cdv)).units + 8 < cLine := by have := hr.units; omega
   refine ⟨_, (pss_cons (ps_set (i := 3) nd_L_words_with (by rfl) (by first | exact Or.inl rfl | exact Or.inr rfl) (pe_lst (pa_cons (pv 1) pa_nil)))
     (pss_cons (ps_set (i := 4) nd_L_words_with (by rfl) (by first | exact Or.inl rfl | exact Or.inr rfl) (pe_lst pa_nil))
     (pss_cons (ps_for PassesOwn.never rfl (pi_range1 (by rfl) T.n_range (pa_cons pe_int pa_nil)) (pg_name (i := 5) nd_L_words_with (by rfl) (by first | exact Or.inl rfl | exact Or.inr rfl)) (pss_cons (ps_set (i := 4) nd_L_words_with (by rfl) (by first | exact Or.inl rfl | exact Or.inr rfl) (pe_op (kop_catLW (K := K)) (pv 3) (pv 4)))
     (pss_cons (ps_set (i := 6) nd_L_words_with (by rfl) (by first | exact Or.inl rfl | exact Or.inr rfl) (pe_lst pa_nil))
     (pss_cons (ps_for PassesOwn.never rfl (kpi_list (K := K) (pv 3)) (pg_name (i := 7) nd_L_words_with (by rfl) (by first | exact Or.inl rfl | exact Or.inr rfl)) (pss_one (ps_for PassesOwn.never rfl (kpi_list (K := K) (pe_callH h_L_faces_by hr (by rfl) (pa_cons (pv 7) (pa_cons (pv 2) pa_nil)))) (pg_name (i := 8) nd_L_words_with (by rfl) (by first | exact Or.inl rfl | exact Or.inr rfl)) (pss_one (ps_if (PW.pt (pw_and (pt_cmpR (kop_notInD (K := K) hu8) (pv 8) (pv 0) rfl) (pw_and1 (pt_cmpR (kop_notInD (K := K) hu8) (pv 8) (pv 6) rfl)))) (pss_one (ps_expr (kpe_bm (K := K) PySem.F.plainAttrs_list PySem.F.slot_list_append PySem.F.type_list_append mt_append (pv 6) (pa_cons (pv 8) pa_nil)))) pss_nil)))))
     (pss_one (ps_set (i := 3) nd_L_words_with (by rfl) (by first | exact Or.inl rfl | exact Or.inr rfl) (pv 6)))))))
     (pss_cons (ps_set (i := 9) nd_L_words_with (by rfl) (by first | exact Or.inl rfl | exact Or.inr rfl) (pe_callTy (kcall_list_of (K := K)) (by rfl) T.n_list boot_listT (pa_cons (pv 0) pa_nil)))
     (pss_cons (ps_for PassesOwn.never rfl (kpi_list (K := K) (pv 4)) (pg_name (i := 7) nd_L_words_with (by rfl) (by first | exact Or.inl rfl | exact Or.inr rfl)) (pss_one (ps_if (pt_cmpR (kop_notInD (K := K) hu8) (pv 7) (pv 9) rfl) (pss_one (ps_expr (kpe_bm (K := K) PySem.F.plainAttrs_list PySem.F.slot_list_append PySem.F.type_list_append mt_append (pv 9) (pa_cons (pv 7) pa_nil)))) pss_nil)))
     (pss_one (ps_ret (pv 9)))))))), ?_⟩
   have s0w : ∀ u ∈ [w], Word fam u := fun u hu => by
     have e : u = w := by simpa using hu
     subst e
     exact hw
   refine ⟨_, rfl, smallE (by simp), fun L0 hL0 => ?_⟩
   have s1 : Same H (upd H L0 (.lst [v])) := Same.new hL0
   refine ⟨Nat.zero_le _, fun R0 hR0 => ?_⟩
   have s2 : Same (upd H L0 (.lst [v])) (upd (upd H L0 (.lst [v])) R0 (.lst [])) := Same.new hR0
   refine ⟨_, rfl, by decide, by decide, for_range (lo := 0) (n := (4 : Int).toNat)
     (fun i σ H2 => ∃ (L R : Addr) (lu ru : List V) (layer rows : List (List Int)) (o5 o6 o7 o8 o9 : Option V), σ = [some (.ref l), some v, some (.int fam), some (.ref L), some (.ref R), o5, o6, o7, o8, o9] ∧ Same H H2 ∧
       H2 L = some (.lst lu) ∧ Reps K H2 lu (layer.map tI) ∧ H2 R = some (.lst ru) ∧ Reps K H2 ru (rows.map tI) ∧ (∀ u ∈ layer, Word fam u) ∧ layers ws fam (4 - i) layer rows = layers ws fam 4 [w] [] ∧ layer.length ≤ 4 ^ i ∧ rows.length ≤ 1000 * i)
     ⟨L0, R0, [v], [], [w], [], none, none, none, none, none, rfl, s1.trans s2, s2 _ _ upd_same, Reps.one (TI.same (s1.trans s2) hv), upd_same, rfl, s0w, rfl, by simp, by simp⟩ ?_ ?_⟩
   · rintro i σ H2 hi ⟨L, R, lu, ru, layer, rows, o5, o6, o7, o8, o9, rfl, sH, hL, rL, hR, rR, hWl, hlay, hll, hrl⟩
     have hi4 : i < 4 := by simpa using hi
     have h4i : 4 ^ i ≤ 64 := by
       have : i = 0 ∨ i = 1 ∨ i = 2 ∨ i = 3 := by omega
       rcases this with rfl | rfl | rfl | rfl <;> decide
     have lul : lu.length = layer.length := by have := rL.length; simpa using this
     have rul : ru.length = rows.length := by have := rR.length; simpa using this
     refine ⟨_, rfl, _, rfl, L, R, _, _, rfl, rfl, .of hL, .of hR, smallE (by omega), fun R1 hR1 => ?_⟩
     have sa : Same H2 (upd H2 R1 (.lst (lu ++ ru))) := Same.new hR1
     have hR1a : (upd H2 R1 (.lst (lu ++ ru))) R1 = some (.lst (lu ++ ru)) := upd_same
     have rRa : Reps K (upd H2 R1 (.lst (lu ++ ru))) (lu ++ ru) ((layer ++ rows).map tI) := by
       rw [List.map_append]
       exact (Reps.same sa rL).append (Reps.same sa rR)
     have hLa := sa _ _ hL
     have rLa : Reps K (upd H2 R1 (.lst (lu ++ ru))) lu (layer.map tI) := Reps.same sa rL
     have sHa : Same H (upd H2 R1 (.lst (lu ++ ru))) := sH.trans sa
     refine ⟨Nat.zero_le _, fun B hB => ?_⟩
     have sb : Same (upd H2 R1 (.lst (lu ++ ru))) (upd (upd H2 R1 (.lst (lu ++ ru))) B (.lst [])) := Same.new hB
     have hBH : H B = none := sHa.free hB
     refine ⟨_, rfl, L, rfl, ⟨_, .of (sb _ _ hLa)⟩, for_list (K := K) (a := L) (xs := lu)
       (fun j σ H3 => ∃ (bu : List V) (o7 o8 : Option V), σ = [some (.ref l), some v, some (.int fam), some (.ref L), some (.ref R1), some (.int (0 + i)), some (.ref B), o7, o8, o9] ∧ Same (upd H2 R1 (.lst (lu ++ ru))) H3 ∧ H3 B = some (.lst bu) ∧
         Reps K H3 bu ((below ws fam [] (layer.take j)).map tI))
       ⟨[], _, _, rfl, sb, upd_same, rfl⟩ (fun j σ H3 _ ⟨_, _, _, _, s3, _⟩ => .of (s3 _ _ hLa)) ?_ ?_⟩
     · rintro j x σ H3 hx ⟨bu, o7, o8, rfl, s3, hB3, rB⟩
       have hj : j < lu.length := (List.getElem?_eq_some_iff.mp hx).1
       have hjl : j < layer.length := by omega
       have hjx : (layer.map tI)[j]? = some (tI layer[j]) := by rw [List.getElem?_map, List.getElem?_eq_getElem hjl]; rfl
       obtain ⟨x', hx', tx⟩ := rLa.get hjx
       rw [hx] at hx'
       cases hx'
       have hwj : Word fam layer[j] := hWl _ (List.getElem_mem _)
       refine ⟨_, rfl, _, rfl, x, layer[j], fam, rfl, TI.same s3 tx, hwj, fun p fu H4 hp s4 hp4 r4 => ?_⟩
       have fl := faces_len hwj
       have ful : fu.length = (facesBy layer[j] fam).length := by have := r4.length; simpa using this
       have hpB : p ≠ B := fun z => by rw [z, hB3] at hp; cases hp
       have hB4 := s4 _ _ hB3
       refine ⟨p, rfl, ⟨_, .of hp4⟩, for_list (K := K) (a := p) (xs := fu)
         (fun m σ H5 => ∃ (bu : List V) (o8 : Option V), σ = [some (.ref l), some v, some (.int fam), some (.ref L), some (.ref R1), some (.int (0 + i)), some (.ref B), some x, o8, o9] ∧ SameX B H4 H5 ∧ H5 B = some (.lst bu) ∧
           Reps K H5 bu ((addNew ws (below ws fam [] (layer.take j)) ((facesBy layer[j] fam).take m)).map tI) ∧ (addNew ws (below ws fam [] (layer.take j)) ((facesBy layer[j] fam).take m)).length ≤ 1000)
         ⟨bu, _, rfl, SameX.refl _ _, hB4, (by simpa [addNew] using Reps.same s4 rB), ?_⟩ (fun m σ H5 _ ⟨_, _, _, s5, _⟩ => .of (s5 _ _ hpB hp4)) ?_ ?_⟩
       · have := below_len (ws := ws) (fam := fam) (layer.take j) [] (fun u hu => hWl u (List.mem_of_mem_take hu))
         simp only [List.take_zero, addNew, List.length_nil, List.length_take] at this ⊢
         omega
       · rintro m y σ H5 hy ⟨bu5, o8', rfl, s5, hB5, rB5, hbl5⟩
         have hm : m < fu.length := (List.getElem?_eq_some_iff.mp hy).1
         have hmf : m < (facesBy layer[j] fam).length := by omega
         have hmy : ((facesBy layer[j] fam).map tI)[m]? = some (tI (facesBy layer[j] fam)[m]) := by rw [List.getElem?_map, List.getElem?_eq_getElem hmf]; rfl
         obtain ⟨y', hy', ty⟩ := r4.get hmy
         rw [hy] at hy'
         cases hy'
         generalize hf : (facesBy layer[j] fam)[m] = fc at ty
         have ty5 : TI K H5 y fc := TI.t (s5.t hB4) ty
         have hl5 : H5 l = some (.lst us) := by
           refine s5 l _ (fun z => ?_) (s4 _ _ (s3 _ _ (sHa _ _ hl)))
           rw [z] at hl
           rw [hl] at hBH
           cases hBH
         have rl5 : Rep K H5 (.ref l) (.lst (ws.map tI)) := ⟨l, us, rfl, .of hl5, Reps.t (s5.t hB4) (imms_tIs ws) (Reps.same ((sHa.trans s3).trans s4) hr0)⟩
         have rb5 : Rep K H5 (.ref B) (.lst ((addNew ws (below ws fam [] (layer.take j)) ((facesBy layer[j] fam).take m)).map tI)) := ⟨B, bu5, rfl, .of hB5, rB5⟩
         have e0 : addNew ws (below ws fam [] (layer.take j)) ((facesBy layer[j] fam).take (m + 1)) = (if fc ∉ ws ∧ fc ∉ addNew ws (below ws fam [] (layer.take j)) ((facesBy layer[j] fam).take m) then addNew ws (below ws fam [] (layer.take j)) ((facesBy layer[j] fam).take m) ++ [fc] else addNew ws (below ws fam [] (layer.take j)) ((facesBy layer[j] fam).take m)) := by
           rw [List.take_succ, List.getElem?_eq_getElem hmf, hf]
           exact addNew_snoc _ _ _ _
         have hbu5 : bu5.length = (addNew ws (below ws fam [] (layer.take j)) ((facesBy layer[j] fam).take m)).length := by have := rB5.length; simpa using this
         have hlen6 : (addNew ws (below ws fam [] (layer.take j)) ((facesBy layer[j] fam).take (m + 1))).length ≤ 1000 := by
           have h1 := addNew_len (ws := ws) ((facesBy layer[j] fam).take (m + 1)) (below ws fam [] (layer.take j))
           have h2 := below_len (ws := ws) (fam := fam) (layer.take j) [] (fun u hu => hWl u (List.mem_of_mem_take hu))
           simp only [List.length_nil, List.length_take] at h1 h2
           have h3 : (facesBy layer[j] fam).length ≤ 4 := by have := fl.1; have := fl.2; split at * <;> omega
           omega
         generalize hacc : addNew ws (below ws fam [] (layer.take j)) ((facesBy layer[j] fam).take m) = acc at rB5 rb5 e0 hbu5 hbl5
         refine ⟨_, rfl, _, rfl, tI fc, ws.map tI, ty5, .inl rl5, (by have := deps_tIs ws; omega), _, rfl, ?_⟩
         by_cases h1 : fc ∈ ws
         · refine ifN (by rw [if_pos rfl, any_tI]; simp [h1]) ?_
           refine ifN (by simp) ?_
           refine ⟨bu5, _, rfl, s5, hB5, ?_, hlen6⟩
           rw [e0, if_neg (by simp [h1])]
           exact rB5
         · refine ifP (by rw [if_pos rfl, any_tI]; simp [h1]) ?_
           refine ⟨_, rfl, _, rfl, tI fc, acc.map tI, ty5, .inl rb5, (by have := deps_tIs acc; omega), _, rfl, ?_⟩
           by_cases h2 : fc ∈ acc
           · refine ifN (by rw [if_pos rfl, any_tI]; simp [h2]) ?_
             refine ⟨bu5, _, rfl, s5, hB5, ?_, hlen6⟩
             rw [e0, if_neg (by simp [h2])]
             exact rB5
           · refine ifP (by rw [if_pos rfl, any_tI]; simp [h2]) ?_
             refine ⟨_, rfl, .inl ⟨rfl, _, .of hB5⟩, _, rfl, B, _, _, rfl, rfl, hB5, small (by omega), ?_⟩
             refine ⟨_, _, rfl, s5.upd, upd_same, ?_, hlen6⟩
             rw [e0, if_pos ⟨h1, h2⟩]
             exact push_TI hB5 rB5 ty5
       · rintro σ H5 ⟨bu5, o8', rfl, s5, hB5, rB5, _⟩
         refine ⟨bu5, _, _, rfl, ?_, hB5, ?_⟩
         · exact s5.same (s3.trans s4) hB
         · rw [ful, List.take_length] at rB5
           rw [List.take_succ, List.getElem?_eq_getElem hjl]
           have e1 : below ws fam [] (layer.take j ++ (some layer[j]).toList) = addNew ws (below ws fam [] (layer.take j)) (facesBy layer[j] fam) := below_snoc _ _ _ _ _
           rw [e1]
           exact rB5
     · rintro σ H3 ⟨bu, o7, o8, rfl, s3, hB3, rB⟩
       rw [lul, List.take_length] at rB
       refine ⟨_, rfl, ?_⟩
       refine ⟨B, R1, bu, lu ++ ru, below ws fam [] layer, layer ++ rows, _, _, _, _, _, rfl, sHa.trans s3, hB3, rB, s3 _ _ hR1a, Reps.same s3 rRa, ?_, ?_, ?_, ?_⟩
       · intro u hu
         rcases below_sub _ _ hu with z | ⟨t, ht, z⟩
         · exact nomatch z
         · exact (faces_word (hWl t ht) z).1
       · rw [← hlay, show 4 - i = (4 - (i + 1)) + 1 by omega]
         rfl
       · have := below_len (ws := ws) (fam := fam) layer [] hWl
         simp only [List.length_nil] at this
         rw [Nat.pow_succ]
         omega
       · rw [List.length_append]
         omega
   · rintro σ H2 ⟨L, R, lu, ru, layer, rows, o5, o6, o7, o8, o9, rfl, sH, hL, rL, hR, rR, hWl, hlay, hll, hrl⟩
     have hrows : rows = layers ws fam 4 [w] [] := hlay
     have hrl2 := layers_len (ws := ws) hw
     rw [← hrows] at hrl2
     have rul : ru.length = rows.length := by have := rR.length; simpa using this
     refine ⟨_, rfl, l, _, rfl, .inl (.of (sH _ _ hl)), fun M hM => ?_⟩
     have sm : Same H2 (upd H2 M (.lst us)) := Same.new hM
     have hMH : H M = none := sH.free hM
     have usl : us.length = ws.length := by have := hr0.length; simpa using this
     refine ⟨_, rfl, R, rfl, ⟨_, .of (sm _ _ hR)⟩, for_list (K := K) (a := R) (xs := ru)
       (fun j σ H3 => ∃ (mu : List V) (o7 : Option V), σ = [some (.ref l), some v, some (.int fam), some (.ref L), some (.ref R), o5, o6, o7, o8, some (.ref M)] ∧ Same H2 H3 ∧ H3 M = some (.lst mu) ∧ Reps K H3 mu ((addAll ws (rows.take j)).map tI))
       ⟨us, _, rfl, sm, upd_same, (by simpa [addAll] using Reps.same (sH.trans sm) hr0)⟩ (fun j σ H3 _ ⟨_, _, _, s3, _⟩ => .of (s3 _ _ hR)) ?_ ?_⟩
     · rintro j x σ H3 hx ⟨mu, o7', rfl, s3, hM3, rM⟩
       have hj : j < ru.length := (List.getElem?_eq_some_iff.mp hx).1
       have hjl : j < rows.length := by omega
       have hjx : (rows.map tI)[j]? = some (tI rows[j]) := by rw [List.getElem?_map, List.getElem?_eq_getElem hjl]; rfl
       obtain ⟨x', hx', tx⟩ := rR.get hjx
       rw [hx] at hx'
       cases hx'
       generalize hf : rows[j] = fc at tx
       have tx3 : TI K H3 x fc := TI.same s3 tx
       have e0 : addAll ws (rows.take (j + 1)) = (if fc ∈ addAll ws (rows.take j) then addAll ws (rows.take j) else addAll ws (rows.take j) ++ [fc]) := by
         rw [List.take_succ, List.getElem?_eq_getElem hjl, hf]
         exact addAll_snoc _ _ _
       have hal := addAll_len (rows.take j) ws
       rw [List.length_take] at hal
       have mul : mu.length = (addAll ws (rows.take j)).length := by have := rM.length; simpa using this
       generalize hacc : addAll ws (rows.take j) = acc at rM e0 hal mul
       have rm3 : Rep K H3 (.ref M) (.lst (acc.map tI)) := ⟨M, mu, rfl, .of hM3, rM⟩
       refine ⟨_, rfl, _, rfl, tI fc, acc.map tI, tx3, .inl rm3, (by have := deps_tIs acc; omega), _, rfl, ?_⟩
       by_cases h1 : fc ∈ acc
       · refine ifN (by rw [if_pos rfl, any_tI]; simp [h1]) ?_
         refine ⟨mu, _, rfl, s3, hM3, ?_⟩
         rw [e0, if_pos h1]
         exact rM
       · refine ifP (by rw [if_pos rfl, any_tI]; simp [h1]) ?_
         refine ⟨_, rfl, .inl ⟨rfl, _, .of hM3⟩, _, rfl, M, _, _, rfl, rfl, hM3, small (by omega), ?_⟩
         refine ⟨_, _, rfl, s3.turn hM, upd_same, ?_⟩
         rw [e0, if_neg h1]
         exact push_TI hM3 rM tx3
     · rintro σ H3 ⟨mu, o7', rfl, s3, hM3, rM⟩
       rw [rul, List.take_length, hrows] at rM
       exact ⟨_, rfl, k M mu H3 hMH (sH.trans s3) hM3 rM⟩
noncomputable abbrev s_L_chain_like : Stmt := top 34
theorem sc_L_chain_like : FnScope ["_law_found", "_law_due", "_law_place", "_law_number"] ["_law_found", "_law_due"] (defScope s_L_chain_like) := ⟨rfl, rfl, rfl, by decide +kernel, rfl, by decide +kernel, by decide +kernel⟩
theorem nd_L_chain_like : (["_law_found", "_law_due", "_law_place", "_law_number"] : List Str).Nodup := by decide +kernel
theorem ok_L_chain_like {f : Addr} {fd : FuncData} (F : Fun K "_law_chain_like" "_law_chain_like" s_L_chain_like f fd) (T : Txt K mg C_HoleError C_NoShape C_NoChain C_NoGlue) (h_L_whole : Has P w K mg base "_law_whole" ["_law_found"] 1 (sp_L_whole K)) : FnOk P w K mg base CX0 2 f fd ["_law_found", "_law_due"] (sp_L_chain_like K) := by
 refine F.ok sc_L_chain_like (fun vs H Q E h => ?_) (fun cdv A outer s H vs Q E hr h => ?_)
 · obtain ⟨a, b, ms, ns, rfl, ha, hb, nab, hs, k⟩ := h
   rfl
 · obtain ⟨a, b, ms, ns, rfl, ha, hb, nab, hs, k⟩ := h
   have hu8 : (A.deeper (PyProof.Rows.envOfC "_law_chain_like" (defScope s_L_chain_like) s.heap.objs.size f cdv)).units + 8 < cLine := by have := hr.units; omega
   refine ⟨_, (pss_cons (ps_if (pt_not (pt_val (pe_callB call_isDict (by rfl) T.n_isinstance boot_isinstanceB (pa_cons (pv 0) (pa_cons (pe_bltn (v := .ty "dict") rfl T.n_dict boot_dictT rfl) pa_nil))))) (pss_one (ps_ret pe_bl)) pss_nil)
     (pss_cons (ps_frz (ps_for PassesOwn.never rfl (pi_items (pv 0)) (kpg_tup (K := K) (n := 2) (by rfl) (pgs_cons (pg_name (i := 2) nd_L_chain_like (by rfl) (by first | exact Or.inl rfl | exact Or.inr rfl)) (pgs_cons (pg_name (i := 3) nd_L_chain_like (by rfl) (by first | exact Or.inl rfl | exact Or.inr rfl)) pgs_nil))) (pss_one (ps_if (PW.pt (pw_or (pt_not (pt_val (pe_callH h_L_whole hr (by rfl) (pa_cons (pv 2) pa_nil)))) (pw_or1 (pt_not (pt_val (pe_callH h_L_whole hr (by rfl) (pa_cons (pv 3) pa_nil))))))) (pss_one (ps_ret pe_bl)) pss_nil))))
     (pss_one (ps_ret (pe_cmpR (op_eqC (n := 8) hu8) (pv 0) (pv 1) (nomark _)))))), ?_⟩
   refine ⟨_, rfl, a, cK ms, rfl, .inl ha, _, rfl, ?_⟩
   refine ifN (by simp) ?_
   refine .inr ⟨a, cK ms, ha, fun hnd o => ?_⟩
   refine ⟨_, rfl, a, o, cK ms, rfl, upd_same, ?_⟩
   refine for_items (d := a) (o := o) (kvs := cK ms) (fun i σ H1 => ∃ o1 o2, σ = [some (.ref a), some (.ref b), o1, o2] ∧ H1 a = some (.frz o (.dK (cK ms))) ∧ (∀ c q, c ≠ a → H c = some q → H1 c = some q))
     ⟨none, none, rfl, upd_same, fun c q n1 e => by rw [upd_ne n1]; exact e⟩ (fun i σ H1 _ ⟨_, _, _, e, _⟩ => e) ?_ ?_
   · rintro i kk x σ H1 p hx ⟨o1, o2, rfl, ha1, hk1⟩ hp
     obtain ⟨q, hq, rfl, rfl⟩ := cK_get hx
     have sp : Same H1 (upd H1 p (.tup [.int q.1, .int q.2])) := Same.new hp
     refine ⟨p, _, rfl, .of upd_same, rfl, _, _, rfl, _, _, rfl, rfl, ?_⟩
     refine ⟨_, rfl, _, .int q.1, rfl, rfl, _, rfl, ?_⟩
     refine ifN (by simp [wholeD, isD]) ?_
     refine ⟨_, rfl, _, .int q.2, rfl, rfl, _, rfl, ?_⟩
     refine ifN (by simp [wholeD, isD]) ?_
     exact ⟨_, _, rfl, sp _ _ ha1, fun c r n1 e => sp _ _ (hk1 c r n1 e)⟩
   · rintro σ H1 ⟨o1, o2, rfl, ha1, hk1⟩
     have s1 : Same H (upd H1 a (.dK (cK ms))) := fun c q e2 => by
       by_cases z : c = a
       · subst z
         rw [ha] at e2
         cases e2
         exact upd_same
       · rw [upd_ne z]; exact hk1 c q z e2
     refine ⟨ha1, _, rfl, _, rfl, a, b, ms, ns, rfl, rfl, .inl upd_same, rd_same s1 hb, ?_⟩
     rw [hs]
     exact k _ s1
noncomputable abbrev s_L_chain_by : Stmt := top 37
theorem sc_L_chain_by : FnScope ["_law_spots", "_law_cells", "_law_made", "_law_cell", "_law_number"] ["_law_spots", "_law_cells"] (defScope s_L_chain_by) := ⟨rfl, rfl, rfl, by decide +kernel, rfl, by decide +kernel, by decide +kernel⟩
theorem nd_L_chain_by : (["_law_spots", "_law_cells", "_law_made", "_law_cell", "_law_number"] : List Str).Nodup := by decide +kernel
theorem ok_L_chain_by {f : Addr} {fd : FuncData} (F : Fun K "_law_chain_by" "_law_chain_by" s_L_chain_by f fd) (T : Txt K mg C_HoleError C_NoShape C_NoChain C_NoGlue) (h_L_number_by : Has P w K mg base "_law_number_by" ["_law_cell"] 1 (sp_L_number_by K)) : FnOk P w K mg base CX0 2 f fd ["_law_spots", "_law_cells"] (sp_L_chain_by K) := by
 refine F.ok sc_L_chain_by (fun vs H Q E h => ?_) (fun cdv A outer s H vs Q E hr h => ?_)
 · obtain ⟨l, c, sp, ns, rfl, hsp, hns, hsl, hnl, kq⟩ := h
   rfl
 · obtain ⟨l, c, sp, ns, rfl, hsp, hns, hsl, hnl, kq⟩ := h
   have hu8 : (A.deeper (PyProof.Rows.envOfC "_law_chain_by" (defScope s_L_chain_by) s.heap.objs.size f cdv)).units + 8 < cLine := by have := hr.units; omega
   refine ⟨_, (pss_cons (ps_set (i := 2) nd_L_chain_by (by rfl) (by first | exact Or.inl rfl | exact Or.inr rfl) pe_dnewK)
     (pss_cons (ps_for PassesOwn.never rfl (kpi_list (K := K) (pv 1)) (pg_name (i := 3) nd_L_chain_by (by rfl) (by first | exact Or.inl rfl | exact Or.inr rfl)) (pss_one (ps_if (pt_cmpR op_gt (pe_callB (kcall_len_seq (K := K)) (by rfl) T.n_len PySem.boot_len (pa_cons (pv 0) pa_nil)) pe_int (nomark _)) (pss_cons (ps_set (i := 4) nd_L_chain_by (by rfl) (by first | exact Or.inl rfl | exact Or.inr rfl) (pe_callH h_L_number_by hr (by rfl) (pa_cons (pe_op op_fdiv (pv 3) (pe_callB (kcall_len_seq (K := K)) (by rfl) T.n_len PySem.boot_len (pa_cons (pv 0) pa_nil))) pa_nil)))
     (pss_one (ps_if (pt_cmpR op_ne (pv 4) pe_int (nomark _)) (pss_one (ps_dput (u1 hu8) (pv 2) (pe_ix (kix_list (K := K)) (pv 0) (pe_op op_mod (pv 3) (pe_callB (kcall_len_seq (K := K)) (by rfl) T.n_len PySem.boot_len (pa_cons (pv 0) pa_nil))) (fun _ _ => rfl)) (pv 4) (by rfl))) pss_nil))) pss_nil)))
     (pss_one (ps_ret (pv 2))))), ?_⟩
   refine fun D hD => ?_
   have s0 : Same H (upd H D (.dK [])) := Same.new hD
   refine ⟨_, rfl, c, rfl, ⟨_, s0.seq hns⟩, for_list (K := K) (a := c) (xs := ns.map V.int) (fun i σ G => ∃ (o1 o2 : Option V) (ms : Ms), σ = [some (.ref l), some (.ref c), some (.ref D), o1, o2] ∧ Same H G ∧ G D = some (.dK (cK ms)) ∧ nd ms ∧ nz ms ∧ (∀ p ∈ ms, p.1 ∈ sp ∧ p.2.natAbs < 2 ^ 70) ∧ ms.length ≤ i)
     ⟨none, none, [], rfl, s0, upd_same, List.nodup_nil, (fun p hp => by cases hp), (fun p hp => by cases hp), Nat.le_refl _⟩ (fun i σ G _ ⟨_, _, _, _, s1, _⟩ => s1.seq hns) ?_ ?_⟩
   · rintro i x σ G hx ⟨o1, o2, ms, rfl, s1, hDG, h1, h2, h3, h4⟩
     have hi : i < ns.length := by have := (List.getElem?_eq_some_iff.mp hx).1; simpa using this
     have hxv : x = .int ns[i] := by
       rw [List.getElem?_map, List.getElem?_eq_getElem hi] at hx
       simpa using hx.symm
     subst hxv
     refine ⟨_, rfl, l, _, rfl, .inl (s1.seq hsp), _, _, rfl, rfl, _, rfl, ?_⟩
     rw [List.length_map]
     refine ite2 (fun hp => ?_) (fun hp => ⟨_, _, ms, rfl, s1, hDG, h1, h2, h3, by omega⟩)
     have hpos : (0 : Int) < (sp.length : Int) := by simpa using hp
     refine ⟨_, rfl, _, rfl, l, _, rfl, .inl (s1.seq hsp), _, _, rfl, rfl, (by rw [List.length_map]; exact ⟨hpos, by omega⟩), _, rfl, fun v hv => ?_⟩
     refine ⟨_, rfl, rfl, _, rfl, ?_⟩
     refine ite2 (fun hz => ?_) (fun hz => ⟨_, _, ms, rfl, s1, hDG, h1, h2, h3, by omega⟩)
     have hv0 : ¬ v = 0 := by simpa using hz
     have m0 : 0 ≤ ns[i] % (sp.length : Int) := Int.emod_nonneg _ (by omega)
     have m1 : ns[i] % (sp.length : Int) < (sp.length : Int) := Int.emod_lt_of_pos _ hpos
     obtain ⟨t, ht⟩ := Int.eq_ofNat_of_zero_le m0
     have htl : t < sp.length := by omega
     have hat : atI (sp.map V.int) (ns[i] % ((sp.map V.int).length : Int)) = some (.int sp[t]) := by
       rw [List.length_map, ht]
       exact atI_nat (j := t) (by rw [List.getElem?_map, List.getElem?_eq_getElem htl]; rfl)
     refine ⟨_, rfl, _, rfl, _, rfl, _, rfl, _, rfl, l, _, rfl, .inl (s1.seq hsp), _, _, rfl, rfl, (by rw [List.length_map]; exact hpos), l, _, _, _, rfl, rfl, s1.seq hsp, hat, D, _, rfl, dput_ok hDG (by omega), ?_⟩
     refine ⟨_, _, putI ms sp[t] v, rfl, s1.turn hD, upd_same, nd_put h1 _ _, nz_put h2 hv0, fun p hp => ?_, ?_⟩
     · rcases mem_put hp with q | q
       · exact h3 p q
       · subst q
         exact ⟨List.getElem_mem htl, hv⟩
     · have := len_put ms sp[t] v
       omega
   · rintro σ G ⟨o1, o2, ms, rfl, s1, hDG, h1, h2, h3, h4⟩
     rw [List.length_map] at h4
     exact ⟨_, rfl, kq D G ms hD s1 hDG h1 h2 h3 (by omega)⟩
noncomputable abbrev s_L_border_by : Stmt := top 38
theorem sc_L_border_by : FnScope ["_law_shape", "_law_chain", "_law_due", "_law_place", "_law_sign", "_law_face"] ["_law_shape", "_law_chain"] (defScope s_L_border_by) := ⟨rfl, rfl, rfl, by decide +kernel, rfl, by decide +kernel, by decide +kernel⟩
theorem nd_L_border_by : (["_law_shape", "_law_chain", "_law_due", "_law_place", "_law_sign", "_law_face"] : List Str).Nodup := by decide +kernel
theorem ok_L_border_by {f : Addr} {fd : FuncData} (F : Fun K "_law_border_by" "_law_border_by" s_L_border_by f fd) (T : Txt K mg C_HoleError C_NoShape C_NoChain C_NoGlue) (h_L_without_noughts : Has P w K mg base "_law_without_noughts" ["_law_numbers"] 1 (sp_L_without_noughts K)) : FnOk P w K mg base CX0 2 f fd ["_law_shape", "_law_chain"] (sp_L_border_by5 K) := by
 refine F.ok sc_L_border_by (fun vs H Q E h => ?_) (fun cdv A outer s H vs Q E hr h => ?_)
 · obtain ⟨a, b, xs, ms, rfl, hS, hb, hnd, hm, h4, hin, hbd, kq⟩ := h
   rfl
 · obtain ⟨a, b, xs, ms, rfl, hS, hb, hnd, hm, h4, hin, hbd, kq⟩ := h
   have hu8 : (A.deeper (PyProof.Rows.envOfC "_law_border_by" (defScope s_L_border_by) s.heap.objs.size f cdv)).units + 8 < cLine := by have := hr.units; omega
   refine ⟨_, (pss_cons (ps_set (i := 2) nd_L_border_by (by rfl) (by first | exact Or.inl rfl | exact Or.inr rfl) pe_dnewK)
     (pss_cons (ps_frz (ps_for PassesOwn.never rfl (pi_keys (pv 1)) (pg_name (i := 3) nd_L_border_by (by rfl) (by first | exact Or.inl rfl | exact Or.inr rfl)) (pss_cons (ps_set (i := 4) nd_L_border_by (by rfl) (by first | exact Or.inl rfl | exact Or.inr rfl) pe_int)
     (pss_one (ps_for PassesOwn.never rfl (kpi_tup (K := K) (pe_ix (kix_list (K := K)) (pv 0) (pv 3) (fun _ _ => rfl))) (pg_name (i := 5) nd_L_border_by (by rfl) (by first | exact Or.inl rfl | exact Or.inr rfl)) (pss_cons (ps_dput (u1 hu8) (pv 2) (pv 5) (pe_op op_add (pe_dget2 (u1 hu8) (pv 2) (pv 5) pe_int ⟨by rfl, by rfl, by rfl, by rfl⟩) (pe_op op_mulX (pv 4) (pe_dget (u1 hu8) (pv 1) (pv 3) (fun _ _ => rfl)))) (by rfl))
     (pss_one (ps_set (i := 4) nd_L_border_by (by rfl) (by first | exact Or.inl rfl | exact Or.inr rfl) (pe_un un_neg (pv 4))))))))))
     (pss_one (ps_ret (pe_callH h_L_without_noughts hr (by rfl) (pa_cons (pv 2) pa_nil)))))), ?_⟩
   refine fun D hD => ?_
   have nbD : b ≠ D := ne_of_none hb hD
   have s0 : Same H (upd H D (.dK [])) := Same.new hD
   have hb0 : (upd H D (.dK [])) b = some (.dK (cK ms)) := s0 _ _ hb
   have hD0 : (upd H D (.dK [])) D = some (.dK []) := upd_same
   have hS0 := Rep.same s0 hS
   generalize upd H D (.dK []) = H0 at s0 hb0 hD0 hS0
   refine .inr ⟨b, cK ms, hb0, fun _ o => ?_⟩
   refine ⟨_, rfl, b, o, cK ms, rfl, upd_same, ?_⟩
   refine for_keys (d := b) (o := o) (kvs := cK ms) (fun i σ H1 => ∃ o1 o2 o3, σ = [some (.ref a), some (.ref b), some (.ref D), o1, o2, o3] ∧ H1 b = some (.frz o (.dK (cK ms))) ∧ H1 D = some (.dK (cK (bbN xs ms i))) ∧ (∀ c q, c ≠ b → c ≠ D → H0 c = some q → H1 c = some q))
     ⟨none, none, none, rfl, upd_same, by rw [upd_ne nbD.symm]; exact hD0, fun c q n1 n2 e => by rw [upd_ne n1]; exact e⟩ (fun i σ H1 _ ⟨_, _, _, _, e, _⟩ => e) ?_ ?_
   · rintro i kk x σ H1 hx ⟨o1, o2, o3, rfl, hb1, hD1, hk1⟩
     obtain ⟨q, hq, rfl, rfl⟩ := cK_get hx
     have hlt : i < ms.length := (List.getElem?_eq_some_iff.mp hq).1
     have hqd : ms.getD i (0, 0) = q := by rw [List.getD_eq_getElem?_getD, hq]; rfl
     have hlook : lookI ms q.1 = some q.2 := lookI_in hnd (List.mem_of_getElem? hq)
     obtain ⟨x0, x1⟩ := hin q (List.mem_of_getElem? hq)
     have hq2 := hbd q (List.mem_of_getElem? hq)
     have ml := len_ib5 h4 ms i
     have hSG : LT K H1 (.ref a) xs := by
       have e1 : StayX b H0 (upd H0 b (.frz o (.dK (cK ms)))) := fun c r n e => by rw [upd_ne n]; exact e
       have l1 := Rep.x e1 hb0 hS0
       have d1 : (upd H0 b (.frz o (.dK (cK ms)))) D = some (.dK []) := by rw [upd_ne nbD.symm]; exact hD0
       have e2 : StayX D (upd H0 b (.frz o (.dK (cK ms)))) H1 := fun c r n e => by
         by_cases z : c = b
         · subst z
           rw [upd_same] at e
           cases e
           exact hb1
         · rw [upd_ne z] at e
           exact hk1 c r z n e
       exact Rep.x (m := []) e2 d1 l1
     obtain ⟨us, v, hus, hat, tv⟩ := LT.get hSG x0 x1
     have hfl : (xs.getD q.1.toNat []).length ≤ 5 := by
       rcases mem_getD_or (l := xs) (i := q.1.toNat) (d := []) with z | z
       · exact h4 _ z
       · rw [z]; exact Nat.zero_le _
     have ebb : bbN xs ms (i + 1) = ibN (bbN xs ms i) (xs.getD q.1.toNat []) q.2 (xs.getD q.1.toNat []).length := by
       show ibN _ _ _ _ = _
       rw [hqd]
     obtain ⟨af, rfl, sq⟩ := TI.sq tv
     generalize xs.getD q.1.toNat [] = fs at sq hfl ebb tv
     refine ⟨_, rfl, _, rfl, a, us, _, _, rfl, rfl, hus, hat, af, rfl, ⟨_, sq⟩, for_tup (K := K) (a := af) (xs := fs.map V.int) (fun j σ G => ∃ o5, σ = [some (.ref a), some (.ref b), some (.ref D), some (.int q.1), some (.int (sg j)), o5] ∧ StayX D H1 G ∧ G D = some (.dK (cK (ibN (bbN xs ms i) fs q.2 j))))
       ⟨_, rfl, fun _ _ _ e => e, hD1⟩ (fun j σ G _ ⟨_, _, s, _⟩ => SqT.x s hD1 sq) ?_ ?_⟩
     · rintro j y σ G hy ⟨o5, rfl, g, hDG⟩
       have hj : j < fs.length := by have := (List.getElem?_eq_some_iff.mp hy).1; simpa using this
       have hyv : y = .int (fs.getD j 0) := by
         rw [List.getElem?_map, List.getElem?_eq_getElem hj] at hy
         rw [List.getD_eq_getElem?_getD, List.getElem?_eq_getElem hj]
         simpa using hy.symm
       subst hyv
       have hbG := g _ _ nbD hb1
       have il := len_ib (bbN xs ms i) fs q.2 j
       have hsg : (sg j).natAbs < 2 ^ 2 := by unfold sg; omega
       refine ⟨_, rfl, D, rfl, .inl ⟨_, .inl hDG⟩, _, rfl, _, dget_ok (.inl hDG), _, rfl, _, rfl, _, rfl, b, .int q.2, rfl, dget_at (.inr ⟨o, hbG⟩) hlook, _, _, rfl, rfl, mulok hsg hq2 (by decide), getI (ibN (bbN xs ms i) fs q.2 j) (fs.getD j 0), _, cK_getD _ _, rfl, _, rfl, _, rfl, D, _, rfl, dput_ok hDG (by omega), ?_⟩
       refine ⟨_, rfl, _, rfl, ?_⟩
       refine ⟨some (.int (fs.getD j 0)), ?_, fun c r n1 e2 => ?_, upd_same⟩
       · have e3 : -(sg j) = sg (j + 1) := by unfold sg; omega
         rw [← e3]
         rfl
       · rw [upd_ne n1]; exact g c r n1 e2
     · rintro σ G ⟨o5, rfl, g, hDG⟩
       rw [List.length_map] at hDG
       refine ⟨_, _, _, rfl, g _ _ nbD hb1, by rw [ebb]; exact hDG, fun c r n1 n2 e2 => g c r n2 (hk1 c r n1 n2 e2)⟩
   · rintro σ H1 ⟨o1, o2, o3, rfl, hb1, hD1, hk1⟩
     rw [cK_len] at hD1
     have ml := len_ib5 h4 ms ms.length
     refine ⟨hb1, ?_⟩
     have s1 : Same H (upd H1 b (.dK (cK ms))) := fun c q e => by
       by_cases z : c = b
       · subst z
         rw [hb] at e
         cases e
         exact upd_same
       · rw [upd_ne z]
         exact hk1 c q z (ne_of_none e hD) (s0 _ _ e)
     refine ⟨_, rfl, D, bbN xs ms ms.length, rfl, by rw [upd_ne nbD.symm]; exact hD1, by omega, fun M H' hM s' hM' => ?_⟩
     exact kq M H' (s1.free hM) (s1.trans s') hM'
noncomputable abbrev s_L_shape_like : Stmt := top 40
theorem sc_L_shape_like : FnScope ["_law_found", "_law_due", "_law_piece", "_law_face"] ["_law_found", "_law_due"] (defScope s_L_shape_like) := ⟨rfl, rfl, rfl, by decide +kernel, rfl, by decide +kernel, by decide +kernel⟩
theorem nd_L_shape_like : (["_law_found", "_law_due", "_law_piece", "_law_face"] : List Str).Nodup := by decide +kernel
theorem ok_L_shape_like {f : Addr} {fd : FuncData} (F : Fun K "_law_shape_like" "_law_shape_like" s_L_shape_like f fd) (T : Txt K mg C_HoleError C_NoShape C_NoChain C_NoGlue) (h_L_whole : Has P w K mg base "_law_whole" ["_law_found"] 1 (sp_L_whole K)) : FnOk P w K mg base CX0 2 f fd ["_law_found", "_law_due"] (sp_L_shape_like K) := by
 refine F.ok sc_L_shape_like (fun vs H Q E h => ?_) (fun cdv A outer s H vs Q E hr h => ?_)
 · obtain ⟨a, b, xs, rfl, hA, hB, k⟩ := h
   rfl
 · obtain ⟨a, b, xs, rfl, hA, hB, k⟩ := h
   have hu8 : (A.deeper (PyProof.Rows.envOfC "_law_shape_like" (defScope s_L_shape_like) s.heap.objs.size f cdv)).units + 8 < cLine := by have := hr.units; omega
   refine ⟨_, (pss_cons (ps_if (PW.pt (pw_or (pt_not (pt_val (pe_callB (kcall_isinst (K := K)) (by rfl) T.n_isinstance boot_isinstanceB (pa_cons (pv 0) (pa_cons (pe_bltn (v := .ty "list") rfl T.n_list boot_listT rfl) pa_nil))))) (pw_or1 (pt_cmpR op_ne (pe_callB (kcall_len_seq (K := K)) (by rfl) T.n_len PySem.boot_len (pa_cons (pv 0) pa_nil)) (pe_callB (kcall_len_seq (K := K)) (by rfl) T.n_len PySem.boot_len (pa_cons (pv 1) pa_nil)) (nomark _))))) (pss_one (ps_ret pe_bl)) pss_nil)
     (pss_cons (ps_for PassesOwn.never rfl (kpi_list (K := K) (pv 0)) (pg_name (i := 2) nd_L_shape_like (by rfl) (by first | exact Or.inl rfl | exact Or.inr rfl)) (pss_cons (ps_if (pt_not (pt_val (pe_callB (kcall_isinst (K := K)) (by rfl) T.n_isinstance boot_isinstanceB (pa_cons (pv 2) (pa_cons (pe_bltn (v := .ty "tuple") rfl T.n_tuple boot_tupleT rfl) pa_nil))))) (pss_one (ps_ret pe_bl)) pss_nil)
     (pss_one (ps_for PassesOwn.never rfl (kpi_tup (K := K) (pv 2)) (pg_name (i := 3) nd_L_shape_like (by rfl) (by first | exact Or.inl rfl | exact Or.inr rfl)) (pss_one (ps_if (pt_not (pt_val (pe_callH h_L_whole hr (by rfl) (pa_cons (pv 3) pa_nil)))) (pss_one (ps_ret pe_bl)) pss_nil))))))
     (pss_one (ps_ret (pe_cmpR (kop_eqD (K := K) hu8) (pv 0) (pv 1) (nomark _)))))), ?_⟩
   obtain ⟨_, us, z, hqa, ra⟩ := id hA
   cases z
   obtain ⟨_, vs, z, hqb, rb⟩ := id hB
   cases z
   have usl : us.length = xs.length := by have := ra.length; simpa using this
   have vsl : vs.length = xs.length := by have := rb.length; simpa using this
   refine ⟨_, rfl, _, _, _, rfl, .inr (.inr (.inr (.inr (.inl rfl)))), hA, _, rfl, ?_⟩
   refine ifN (by simp [isD]) ?_
   refine ⟨_, rfl, a, us, rfl, .inl hqa, _, rfl, b, vs, rfl, .inl hqb, rfl, _, rfl, ?_⟩
   refine ifN (by simp [usl, vsl]) ?_
   refine tSeq_cut (fun σ' H' => σ' = [some (.ref a), some (.ref b), none, none] ∧ H = H') ?_ fun key0 => key0 _ _ ⟨rfl, rfl⟩
   rintro _ _ ⟨rfl, rfl⟩
   refine tSeq_cut (fun σ' H' => ∃ o1 o2, σ' = [some (.ref a), some (.ref b), o1, o2] ∧ H = H') ?_ fun key => ?_
   rotate_left
   · refine ⟨_, rfl, a, rfl, ⟨_, hqa⟩, for_list (K := K) (a := a) (xs := us) (fun j σ H2 => ∃ o1 o2, σ = [some (.ref a), some (.ref b), o1, o2] ∧ H = H2)
       ⟨none, none, rfl, rfl⟩ (fun j σ H2 _ ⟨_, _, _, e⟩ => by rw [← e]; exact hqa) ?_ ?_⟩
     · rintro j x σ H2 hx ⟨o1, o2, rfl, rfl⟩
       obtain ⟨d, hd, rx⟩ := ra.getV hx
       obtain ⟨q, rfl⟩ : ∃ q, d = tI q := by
         rw [List.getElem?_map] at hd
         cases e : xs[j]? with
         | none => rw [e] at hd; cases hd
         | some q => rw [e] at hd; exact ⟨q, (Option.some.inj hd).symm⟩
       obtain ⟨ax, rfl, sqx⟩ := TI.sq rx
       refine ⟨_, rfl, _, _, tI q, rfl, .inr (.inr (.inr (.inl rfl))), rx, _, rfl, ?_⟩
       refine ifN (by simp [isD, tI]) ?_
       refine ⟨_, rfl, ax, rfl, ⟨_, sqx⟩, for_tup (K := K) (a := ax) (xs := q.map V.int) (fun m σ H3 => ∃ o2, σ = [some (.ref a), some (.ref b), some (.ref ax), o2] ∧ H = H3)
         ⟨_, rfl, rfl⟩ (fun m σ H3 _ ⟨_, _, e⟩ => by rw [← e]; exact sqx) ?_ ?_⟩
       · rintro m y σ H3 hy ⟨o3, rfl, rfl⟩
         have hyv : ∃ n, y = .int n := by
           rw [List.getElem?_map] at hy
           cases e : q[m]? with
           | none => rw [e] at hy; cases hy
           | some n => rw [e] at hy; exact ⟨n, (Option.some.inj hy).symm⟩
         obtain ⟨n, rfl⟩ := hyv
         refine ⟨_, rfl, _, .int n, rfl, rfl, _, rfl, ?_⟩
         refine ifN (by simp [wholeD, isD]) ?_
         exact ⟨_, rfl, rfl⟩
       · rintro σ H3 ⟨o3, rfl, rfl⟩
         exact ⟨_, _, rfl, rfl⟩
     · rintro σ H2 ⟨o1, o2, rfl, rfl⟩
       exact key _ _ ⟨_, _, rfl, rfl⟩
   rintro _ _ ⟨o1, o2, rfl, rfl⟩
   refine ⟨_, rfl, _, rfl, .lst (xs.map tI), .lst (xs.map tI), hA, hB, ?_, ?_⟩
   · have := deps_tIs xs
     show deps (xs.map tI) + 1 ≤ 8
     omega
   · rw [eqD_refl]
     exact k
noncomputable abbrev s_is_place_of_level : Stmt := top 5
theorem sc_is_place_of_level : FnScope ["shape", "thing", "level"] ["shape", "thing", "level"] (defScope s_is_place_of_level) := ⟨rfl, rfl, rfl, by decide +kernel, rfl, by decide +kernel, by decide +kernel⟩
theorem ok_is_place_of_level {f : Addr} {fd : FuncData} (F : Fun K "is_place_of_level" "is_place_of_level" s_is_place_of_level f fd) (T : Txt K mg C_HoleError C_NoShape C_NoChain C_NoGlue) (h_is_whole_below : Has P w K mg base "is_whole_below" ["thing", "bound"] 2 (sp_is_whole_below K)) (h_level_of : Has P w K mg base "level_of" ["piece"] 1 (sp_level_of K)) : FnOk P w K mg base CX0 3 f fd ["shape", "thing", "level"] (sp_is_place_of_level K) := by
 refine F.ok sc_is_place_of_level (fun vs H Q E h => ?_) (fun cdv A outer s H vs Q E hr h => ?_)
 · obtain ⟨a, x, d, l, xs, rfl, hL, hx, k⟩ := h
   rfl
 · obtain ⟨a, x, d, l, xs, rfl, hL, hx, k⟩ := h
   refine ⟨_, (pss_one (ps_ret (pe_and (pe_callH h_is_whole_below hr (by rfl) (pa_cons (pv 1) (pa_cons (pe_callB (kcall_len_seq (K := K)) (by rfl) T.n_len PySem.boot_len (pa_cons (pv 0) pa_nil)) pa_nil))) (pe_one (pe_cmpR op_eq (pe_callH h_level_of hr (by rfl) (pa_cons (pe_ix (kix_list (K := K)) (pv 0) (pv 1) (fun _ _ => rfl)) pa_nil)) (pv 2) (nomark _)))))), ?_⟩
   obtain ⟨us, hq, hul⟩ := LT.len hL
   refine ⟨_, rfl, _, rfl, a, us, rfl, .inl hq, x, d, _, rfl, hx, _, rfl, ?_⟩
   rw [hul]
   refine ite2 (fun e => ?_) (fun e => ?_)
   · obtain ⟨i, rfl⟩ : ∃ i, d = .int i := by cases d <;> first | exact ⟨_, rfl⟩ | (exfalso; simp [belowD] at e)
     cases (show x = .int i from hx)
     have e' : (decide (0 ≤ i) && decide (i < (xs.length : Int))) = true := e
     have h0 : 0 ≤ i ∧ i < (xs.length : Int) := by simpa using e'
     obtain ⟨us', v, hq', hv, tv⟩ := LT.get hL h0.1 h0.2
     refine ⟨_, rfl, _, rfl, a, us', i, v, rfl, rfl, hq', hv, v, _, rfl, .inr tv, _, rfl, rfl, ?_⟩
     have e2 : placeLev xs (.int i) l = decide (levI (nums (xs.getD i.toNat [])).length = l) := by
       show (decide (0 ≤ i) && decide (i < (xs.length : Int)) && decide (levI (xs.getD i.toNat []).length = l)) = _
       rw [e']
       simp [nums]
     rw [e2] at k
     have e3 : decide (V.int (levI (nums (xs.getD i.toNat [])).length) = V.int l) = decide (levI (nums (xs.getD i.toNat [])).length = l) := by
       by_cases z : levI (nums (xs.getD i.toNat [])).length = l
       · simp [z]
       · simp [z]
     rw [e3]
     exact k
   · have e2 : placeLev xs d l = false := by
       cases d with
       | int i =>
         have e' : ¬ (decide (0 ≤ i) && decide (i < (xs.length : Int))) = true := e
         show (decide (0 ≤ i) && decide (i < (xs.length : Int)) && decide (levI (xs.getD i.toNat []).length = l)) = false
         rw [Bool.eq_false_iff.mpr e']
         rfl
       | _ => rfl
     rw [e2] at k
     exact k
noncomputable abbrev s_cone : Stmt := top 22
theorem sc_cone : FnScope ["shape", "tip", "told"] ["shape"] (defScope s_cone) := ⟨rfl, rfl, rfl, by decide +kernel, rfl, by decide +kernel, by decide +kernel⟩
theorem nd_cone : (["shape", "tip", "told"] : List Str).Nodup := by decide +kernel
theorem ok_cone {f : Addr} {fd : FuncData} (F : Fun K "cone" "cone" s_cone f fd) (T : Txt K mg C_HoleError C_NoShape C_NoChain C_NoGlue) (hx_check_size : HasX P w K mg base "check_size" ["pieces"] 1 (sp_check_size K C_NoShape)) (h_places_of_level : Has P w K mg base "places_of_level" ["shape", "k"] 2 (sp_places_of_level K)) (h_piece_over : Has P w K mg base "piece_over" ["place", "piece", "tip"] 2 (sp_piece_over K)) : FnOk P w K mg base (CX1 P w) 3 f fd ["shape"] (sp_cone K C_NoGlue C_NoShape) := by
 refine F.okX sc_cone (fun vs H Q E h => ?_) (fun cdv A outer s H vs Q E hr h => ?_)
 · obtain ⟨a, xs, rfl, hL, hcn, hxl, kG, kS, kQ⟩ := h
   rfl
 · obtain ⟨a, xs, rfl, hL, hcn, hxl, kG, kS, kQ⟩ := h
   obtain ⟨t_LEVELS, c_LEVELS⟩ := T.x_LEVELS
   refine ⟨_, (pss_cons (ps_if (pt_cmpR op_gt (pe_callB (kcall_len_seq (K := K)) (by rfl) T.n_len PySem.boot_len (pa_cons (pe_callH h_places_of_level hr (by rfl) (pa_cons (pv 0) (pa_cons (pe_op op_sub (pe_glob (v := .int 4) (by rfl) c_LEVELS ⟨_, rfl⟩) pe_int) pa_nil))) pa_nil)) pe_int (nomark _)) (pss_one (ps_raise makes_def (by rfl) (by rfl) T.m_NoGlue T.e_NoGlue (pa_cons pe_str pa_nil))) pss_nil)
     (pss_cons (ps_set (i := 1) nd_cone (by rfl) (by first | exact Or.inl rfl | exact Or.inr rfl) (pe_callB (kcall_len_seq (K := K)) (by rfl) T.n_len PySem.boot_len (pa_cons (pv 0) pa_nil)))
     (pss_cons (ps_set (i := 2) nd_cone (by rfl) (by first | exact Or.inl rfl | exact Or.inr rfl) (pe_op (kop_catLW (K := K)) (pe_op (kop_catLW (K := K)) (pv 0) (pe_lst (pa_cons (pe_tup pa_nil) pa_nil))) (pe_comp (N' := ["place", "piece", "tip"]) (cap := [none, none, some 1]) (by rfl) (by kernel_rfl) (pi_enum (K := K) (by rfl) T.n_enumerate (pa_cons (pv 0) pa_nil)) (fun _ _ _ _ => (kpg_tup (K := K) (n := 2) (by rfl) (pgs_cons (pg_name (i := 0) ndc_4 (by rfl) (by first | exact Or.inl rfl | exact Or.inr rfl)) (pgs_cons (pg_name (i := 1) ndc_4 (by rfl) (by first | exact Or.inl rfl | exact Or.inr rfl)) pgs_nil)))) (fun _ _ _ _ => pts_nil) (fun _ _ _ _ => (pe_callH h_piece_over hr (by rfl) (pa_cons (pv 0) (pa_cons (pv 1) (pa_cons (pv 2) pa_nil))))))))
     (pss_cons (ps_expr (pe_callX flies_def hx_check_size hr (by rfl) (pa_cons (pv 2) pa_nil)))
     (pss_one (ps_ret (pv 2))))))), ?_⟩
   obtain ⟨_, us, z, hqa, ra⟩ := id hL
   cases z
   have usl : us.length = xs.length := by have := ra.length; simpa using this
   refine tSeq_cut (fun σ' H' => σ' = [some (.ref a), none, none] ∧ Same H H' ∧ plc xs 3 = []) ?_ fun key => ?_
   rotate_left
   · refine ⟨_, rfl, _, _, rfl, rfl, a, 3, xs, rfl, hL, by omega, fun D H1 hD s1 hD1 => ?_⟩
     refine ⟨D, _, rfl, .inl (.of hD1), _, _, rfl, rfl, _, rfl, ?_⟩
     refine ite2 (fun h1 => ?_) (fun h1 => ?_)
     · have hp : (0 : Int) < (((plc xs 3).map V.int).length : Int) := of_decide_eq_true h1
       exact ⟨smallE (by simp), kG (fun z => by rw [z] at hp; simp at hp) H1 s1⟩
     · have hp : ¬ (0 : Int) < (((plc xs 3).map V.int).length : Int) := fun q => h1 (decide_eq_true q)
       have he : plc xs 3 = [] := by
         rw [List.length_map] at hp
         exact List.length_eq_zero_iff.mp (by omega)
       exact key _ _ ⟨rfl, s1, he⟩
   rintro _ H1 ⟨rfl, s1, he⟩
   have kS := kS he
   have kQ := kQ he
   have hq1 := s1.seq hqa
   have r1 := Reps.same s1 ra
   refine tSeq_cut (fun σ' H' => σ' = [some (.ref a), some (.int (xs.length : Int)), none] ∧ H1 = H') ?_ fun key => ?_
   rotate_left
   · exact ⟨_, rfl, a, us, rfl, .inl hq1, key _ _ ⟨by rw [usl] <;> rfl, rfl⟩⟩
   rintro _ _ ⟨rfl, rfl⟩
   refine tSeq_cut (fun σ' H' => ∃ (p : Addr) (ws : List V), σ' = [some (.ref a), some (.int (xs.length : Int)), some (.ref p)] ∧ Same H1 H' ∧ H1 p = none ∧ H' p = some (.lst ws) ∧ Reps K H' ws ((cnX xs).map tI)) ?_ fun key => ?_
   rotate_left
   · refine ⟨_, rfl, Nat.zero_le _, fun T hT => ?_⟩
     have sG1 : Same H1 (upd H1 T (.tup [])) := Same.new hT
     have eG1 : upd H1 T (.tup []) T = some (.tup []) := upd_same
     generalize upd H1 T (.tup []) = G1 at sG1 eG1
     refine ⟨smallE (by simp), fun B hB => ?_⟩
     have sG2 : Same G1 (upd G1 B (.lst [.ref T])) := Same.new hB
     have eG2 : upd G1 B (.lst [.ref T]) B = some (.lst [.ref T]) := upd_same
     generalize upd G1 B (.lst [.ref T]) = G2 at sG2 eG2
     have s12 := sG1.trans sG2
     refine ⟨a, B, us, _, rfl, rfl, s12.seq hq1, .of eG2, smallE (by simp; omega), fun C hC => ?_⟩
     have sG3 : Same G2 (upd G2 C (.lst (us ++ [.ref T]))) := Same.new hC
     have eG3 : upd G2 C (.lst (us ++ [.ref T])) C = some (.lst (us ++ [.ref T])) := upd_same
     generalize upd G2 C (.lst (us ++ [.ref T])) = G3 at sG3 eG3
     have s13 := s12.trans sG3
     have rC : Reps K G3 (us ++ [.ref T]) ((xs ++ [[]]).map tI) := by
       rw [List.map_append]
       exact Reps.append (Reps.same s13 r1) ⟨_, _, rfl, TI.mk (.of ((sG2.trans sG3) _ _ eG1)), rfl⟩
     refine ⟨_, rfl, a, rfl, ⟨us, s13.seq hq1⟩, fun D hD => ?_⟩
     refine comp_enumY (K := K) (a := a) (xs := us) (fun i ys τ G => Same G3 G ∧ G D = some (.lst ys) ∧ Reps K G ys ((cnN xs i).map tI) ∧ ∃ o1 o2, τ = [o1, o2, some (.int (xs.length : Int))])
       ⟨Same.new hD, upd_same, rfl, none, none, rfl⟩ (fun i ys τ G _ ⟨g, _⟩ => (s13.trans g).seq hq1) ?_ ?_
     · rintro i v ys τ G p hv ⟨g, hDG, rG, o1, o2, rfl⟩ hp
       have hi : i < xs.length := by have := (List.getElem?_eq_some_iff.mp hv).1; omega
       obtain ⟨dv, hdv, rv⟩ := r1.getV hv
       have edv : dv = tI (xs.getD i []) := by
         rw [List.getElem?_map, List.getElem?_eq_getElem hi] at hdv
         rw [List.getD_eq_getElem?_getD, List.getElem?_eq_getElem hi]
         simpa using hdv.symm
       subst edv
       have sp : Same G (upd G p (.tup [.int i, v])) := Same.new hp
       refine ⟨p, _, rfl, .of upd_same, rfl, _, _, rfl, _, _, rfl, rfl, ?_⟩
       generalize upd G p (.tup [.int i, v]) = G4 at sp
       have hc := cnt_at hcn hi
       refine ⟨_, rfl, _, rfl, _, rfl, v, xs.getD i [], (i : Int), xs.length, rfl, Rep.same ((s13.trans g).trans sp) rv, by omega, by omega, fun w G5 s5 tw => ?_⟩
       refine ⟨s5 _ _ (sp _ _ hDG), small (by have := rG.length; rw [this, List.length_map, cnN_len]; omega), ((g.trans sp).trans s5).turn hD, upd_same, ?_, _, _, rfl⟩
       rw [cnN_succ]
       exact push_TI (s5 _ _ (sp _ _ hDG)) (Reps.same (sp.trans s5) rG) tw
     · rintro ys τ G ⟨g, hDG, rG, _⟩
       rw [usl] at rG
       have yl : ys.length = xs.length := by have := rG.length; rw [this, List.length_map, cnN_len]
       refine ⟨C, D, _, ys, rfl, rfl, .of (g _ _ eG3), .of hDG, smallE (by simp; omega), fun P hP => ?_⟩
       refine key _ _ ⟨P, _, rfl, (s13.trans g).trans (Same.new hP), (s13.trans g).free hP, upd_same, ?_⟩
       unfold cnX
       rw [List.map_append]
       exact Reps.append (Reps.same (g.trans (Same.new hP)) rC) (Reps.same (Same.new hP) rG)
   rintro _ H2 ⟨p, ws, rfl, s2, hp, hp2, r2⟩
   have wl : ws.length = 2 * xs.length + 1 := by have := r2.length; rw [this, List.length_map, cnX_len]
   refine ⟨_, rfl, p, ws, rfl, .of hp2, fun h => ?_, fun h H3 s3 => ?_⟩
   · exact ⟨_, rfl, kQ (by omega) p ws H2 (s1.free hp) (s1.trans s2) hp2 r2⟩
   · exact kS (by omega) H3 ((s1.trans s2).trans s3)
noncomputable abbrev s_L_shape_by : Stmt := top 30
theorem sc_L_shape_by : FnScope ["_law_kind", "_law_cells", "_law_most", "_law_family", "_law_words", "_law_cell", "_law_more"] ["_law_kind", "_law_cells", "_law_most"] (defScope s_L_shape_by) := ⟨rfl, rfl, rfl, by decide +kernel, rfl, by decide +kernel, by decide +kernel⟩
theorem nd_L_shape_by : (["_law_kind", "_law_cells", "_law_most", "_law_family", "_law_words", "_law_cell", "_law_more"] : List Str).Nodup := by decide +kernel
theorem ok_L_shape_by {f : Addr} {fd : FuncData} (F : Fun K "_law_shape_by" "_law_shape_by" s_L_shape_by f fd) (T : Txt K mg C_HoleError C_NoShape C_NoChain C_NoGlue) (h_L_words_with : Has P w K mg base "_law_words_with" ["_law_words", "_law_word", "_law_family"] 2 (sp_L_words_with K)) (h_L_word_by : Has P w K mg base "_law_word_by" ["_law_cell", "_law_family", "_law_letters"] 1 (sp_L_word_by K)) (h_L_faces_by : Has P w K mg base "_law_faces_by" ["_law_word", "_law_family"] 1 (sp_L_faces_by K)) : FnOk P w K mg base CX0 3 f fd ["_law_kind", "_law_cells", "_law_most"] (sp_L_shape_by K) := by
 refine F.ok sc_L_shape_by (fun vs H Q E h => ?_) (fun cdv A outer s H vs Q E hr h => ?_)
 · obtain ⟨a, ns, kind, most, rfl, hS, hl, hm0, hm1, k⟩ := h
   rfl
 · obtain ⟨a, ns, kind, most, rfl, hS, hl, hm0, hm1, k⟩ := h
   have hu8 : (A.deeper (PyProof.Rows.envOfC "_law_shape_by" (defScope s_L_shape_by) s.heap.objs.size f cdv)).units + 8 < cLine := by have := hr.units; omega
   refine ⟨_, (pss_cons (ps_set (i := 3) nd_L_shape_by (by rfl) (by first | exact Or.inl rfl | exact Or.inr rfl) pe_int)
     (pss_cons (ps_if (pt_cmpR op_eq (pe_op op_mod (pv 0) pe_int) pe_int (nomark _)) (pss_one (ps_set (i := 3) nd_L_shape_by (by rfl) (by first | exact Or.inl rfl | exact Or.inr rfl) (pe_un un_neg pe_int))) pss_nil)
     (pss_cons (ps_if (pt_cmpR op_eq (pe_op op_mod (pv 0) pe_int) pe_int (nomark _)) (pss_one (ps_set (i := 3) nd_L_shape_by (by rfl) (by first | exact Or.inl rfl | exact Or.inr rfl) (pe_op op_add pe_int (pe_op op_mod (pe_op op_fdiv (pv 0) pe_int) pe_int)))) pss_nil)
     (pss_cons (ps_set (i := 4) nd_L_shape_by (by rfl) (by first | exact Or.inl rfl | exact Or.inr rfl) (pe_lst pa_nil))
     (pss_cons (ps_for PassesOwn.never rfl (kpi_list (K := K) (pv 1)) (pg_name (i := 5) nd_L_shape_by (by rfl) (by first | exact Or.inl rfl | exact Or.inr rfl)) (pss_cons (ps_set (i := 6) nd_L_shape_by (by rfl) (by first | exact Or.inl rfl | exact Or.inr rfl) (pe_callH h_L_words_with hr (by rfl) (pa_cons (pv 4) (pa_cons (pe_callH h_L_word_by hr (by rfl) (pa_cons (pv 5) (pa_cons (pv 3) (pa_cons (pe_op op_add pe_int (pe_op op_mod (pe_op op_fdiv (pv 0) pe_int) pe_int)) pa_nil)))) (pa_cons (pv 3) pa_nil)))))
     (pss_one (ps_if (pt_cmpR op_le (pe_callB (kcall_len_seq (K := K)) (by rfl) T.n_len PySem.boot_len (pa_cons (pv 6) pa_nil)) (pv 2) (nomark _)) (pss_one (ps_set (i := 4) nd_L_shape_by (by rfl) (by first | exact Or.inl rfl | exact Or.inr rfl) (pv 6))) pss_nil))))
     (pss_one (ps_ret (pe_comp (N' := ["_law_word", "_law_family", "_law_words"]) (cap := [none, some 3, some 4]) (by rfl) (by kernel_rfl) (kpi_list (K := K) (pv 4)) (fun _ _ _ _ => (pg_name (i := 0) ndc_8 (by rfl) (by first | exact Or.inl rfl | exact Or.inr rfl))) (fun _ _ _ _ => pts_nil) (fun _ _ _ _ => (pe_callTy (kcall_tuple_of (K := K)) (by rfl) T.n_tuple boot_tupleT (pa_cons (pe_comp (N' := ["_law_face", "_law_words"]) (cap := [none, some 2]) (by rfl) (by kernel_rfl) (kpi_list (K := K) (pe_callH h_L_faces_by hr (by rfl) (pa_cons (pv 0) (pa_cons (pv 1) pa_nil)))) (fun _ _ _ _ => (pg_name (i := 0) ndc_9 (by rfl) (by first | exact Or.inl rfl | exact Or.inr rfl))) (fun _ _ _ _ => pts_nil) (fun _ _ _ _ => (kpe_bm (K := K) PySem.F.plainAttrs_list PySem.F.slot_list_index PySem.F.type_list_index (kmt_index (K := K) hu8) (pv 1) (pa_cons (pv 0) pa_nil)))) pa_nil))))))))))), ?_⟩
   refine tSeq_cut (fun σ' H' => σ' = [some (.int kind), some (.ref a), some (.int most), some (.int 0), none, none, none] ∧ H = H') ?_ fun key0 => key0 _ _ ⟨rfl, rfl⟩
   rintro _ _ ⟨rfl, rfl⟩
   refine tSeq_cut (fun σ' H' => ∃ fam : Int, σ' = [some (.int kind), some (.ref a), some (.int most), some (.int fam), none, none, none] ∧ H = H' ∧ fam < 100) ?_ fun key1 => ?_
   rotate_left
   · refine ⟨_, rfl, _, _, rfl, rfl, (by show (0 : Int) < 3; decide), rfl, _, rfl, ?_⟩
     refine ite2 (fun _ => ?_) (fun _ => ?_)
     · exact ⟨_, rfl, key1 _ _ ⟨-1, rfl, rfl, by decide⟩⟩
     · exact key1 _ _ ⟨0, rfl, rfl, by decide⟩
   rintro _ _ ⟨fam0, rfl, rfl, hf0⟩
   refine tSeq_cut (fun σ' H' => ∃ fam : Int, σ' = [some (.int kind), some (.ref a), some (.int most), some (.int fam), none, none, none] ∧ H = H' ∧ fam < 100) ?_ fun key2 => ?_
   rotate_left
   · refine ⟨_, rfl, _, _, rfl, rfl, (by show (0 : Int) < 3; decide), rfl, _, rfl, ?_⟩
     refine ite2 (fun _ => ?_) (fun _ => ?_)
     · refine ⟨_, rfl, _, _, rfl, rfl, ⟨by decide, by decide⟩, _, _, rfl, rfl, (by show (0 : Int) < 19; decide), _, _, rfl, rfl, key2 _ _ ⟨_, rfl, rfl, ?_⟩⟩
       have : kind / 18 % 19 < 19 := Int.emod_lt_of_pos _ (by decide)
       omega
     · exact key2 _ _ ⟨fam0, rfl, rfl, hf0⟩
   rintro _ _ ⟨fam, rfl, rfl, hf⟩
   have l1 : 0 ≤ kind / 3 % 6 := Int.emod_nonneg _ (by decide)
   have l2 : kind / 3 % 6 < 6 := Int.emod_lt_of_pos _ (by decide)
   refine ⟨Nat.zero_le _, fun W0 hW0 => ?_⟩
   have s0 : Same H (upd H W0 (.lst [])) := Same.new hW0
   refine ⟨_, rfl, a, rfl, ⟨_, s0.seq hS⟩, for_list (K := K) (a := a) (xs := ns.map V.int)
     (fun j σ H2 => ∃ (W : Addr) (wu : List V) (ws : List (List Int)) (o5 o6 : Option V), σ = [some (.int kind), some (.ref a), some (.int most), some (.int fam), some (.ref W), o5, o6] ∧ Same H H2 ∧ H W = none ∧ H2 W = some (.lst wu) ∧
       Reps K H2 wu (ws.map tI) ∧ Ord fam ws ∧ (ws.length : Int) ≤ most)
     ⟨W0, [], [], none, none, rfl, s0, hW0, upd_same, rfl, Ord.nil, by simpa using hm0⟩ (fun j σ H2 _ ⟨_, _, _, _, _, _, s2, _⟩ => s2.seq hS) ?_ ?_⟩
   · rintro j x σ H2 hx ⟨W, wu, ws, o5, o6, rfl, s2, hW, hW2, rW, hO, hwl⟩
     have hjn : j < ns.length := by have := (List.getElem?_eq_some_iff.mp hx).1; simpa using this
     have hxv : x = .int ns[j] := by
       rw [List.getElem?_map, List.getElem?_eq_getElem hjn] at hx
       simpa using hx.symm
     subst hxv
     refine ⟨_, rfl, _, rfl, _, rfl, _, rfl, _, _, rfl, rfl, ⟨by decide, by decide⟩, _, _, rfl, rfl, (by show (0 : Int) < 6; decide), _, _, rfl, rfl, ?_⟩
     refine ⟨_, _, _, rfl, by omega, by omega, by omega, fun v H3 w s3 tv hw => ?_⟩
     refine ⟨_, rfl, ?_⟩
     refine ⟨W, wu, v, ws, w, fam, rfl, s3 _ _ hW2, Reps.same s3 rW, tv, hw, by omega, fun M mu H4 hM s4 hM4 rM => ?_⟩
     have s24 := s3.trans s4
     have hMH : H M = none := (s2.trans s3).free hM
     have mul : mu.length = (wordsWith ws w fam).length := by have := rM.length; simpa using this
     refine ⟨_, rfl, M, _, rfl, .inl (.of hM4), _, rfl, _, _, rfl, rfl, _, rfl, ?_⟩
     refine ite2 (fun h1 => ?_) (fun h1 => ?_)
     · have h2 : (mu.length : Int) ≤ most := by simpa using h1
       exact ⟨_, rfl, M, mu, wordsWith ws w fam, _, _, rfl, s2.trans s24, hMH, hM4, rM, wordsWith_ord hO hw, by omega⟩
     · exact ⟨W, wu, ws, _, _, rfl, s2.trans s24, hW, s24 _ _ hW2, Reps.same s24 rW, hO, hwl⟩
   · rintro σ H2 ⟨W, wu, ws, o5, o6, rfl, s2, hW, hW2, rW, hO, hwl⟩
     have wul : wu.length = ws.length := by have := rW.length; simpa using this
     refine ⟨_, rfl, W, rfl, ⟨_, .of hW2⟩, fun D hD => ?_⟩
     have hDH : H D = none := s2.free hD
     refine comp_list0 (K := K) (a := W) (xs := wu) (fun i ys τ H1 => Same H2 H1 ∧ H1 D = some (.lst ys) ∧ Reps K H1 ys (((ws.take i).map fun w => (facesBy w fam).map fun f => (idx ws f : Int)).map tI) ∧ ∃ o, τ = [o, some (.int fam), some (.ref W)])
       ⟨Same.new hD, upd_same, rfl, none, rfl⟩ (fun i ys τ H1 _ ⟨s1, _⟩ => .of (s1 _ _ hW2)) ?_ ?_
     · rintro i x ys τ H1 hx ⟨s1, hD1, r1, o, rfl⟩
       have hi : i < wu.length := (List.getElem?_eq_some_iff.mp hx).1
       have hil : i < ws.length := by omega
       have hix : (ws.map tI)[i]? = some (tI ws[i]) := by rw [List.getElem?_map, List.getElem?_eq_getElem hil]; rfl
       obtain ⟨x', hx', tx⟩ := rW.get hix
       rw [hx] at hx'
       cases hx'
       obtain ⟨hwi, hfi⟩ := hO.mem (List.getElem_mem hil)
       generalize hwe : ws[i] = w at tx hwi hfi
       refine ⟨_, rfl, _, rfl, x, w, fam, rfl, TI.same s1 tx, hwi, fun p fu H3 hp s3 hp3 r3 => ?_⟩
       have ful : fu.length = (facesBy w fam).length := by have := r3.length; simpa using this
       have s13 := s1.trans s3
       refine ⟨p, rfl, ⟨_, .of hp3⟩, fun D2 hD2 => ?_⟩
       refine comp_list0 (K := K) (a := p) (xs := fu) (fun m zs τ H4 => Same H3 H4 ∧ H4 D2 = some (.lst zs) ∧ zs = ((facesBy w fam).take m).map (fun f => V.int (idx ws f : Int)) ∧ ∃ o, τ = [o, some (.ref W)])
         ⟨Same.new hD2, upd_same, rfl, none, rfl⟩ (fun m zs τ H4 _ ⟨s4, _⟩ => .of (s4 _ _ hp3)) ?_ ?_
       · rintro m y zs τ H4 hy ⟨s4, hD4, hzs, o, rfl⟩
         have hm : m < fu.length := (List.getElem?_eq_some_iff.mp hy).1
         have hmf : m < (facesBy w fam).length := by omega
         have hmy : ((facesBy w fam).map tI)[m]? = some (tI (facesBy w fam)[m]) := by rw [List.getElem?_map, List.getElem?_eq_getElem hmf]; rfl
         obtain ⟨y', hy', ty⟩ := r3.get hmy
         rw [hy] at hy'
         cases hy'
         have hfm : (facesBy w fam)[m] ∈ ws := hfi _ (List.getElem_mem _)
         have s14 := s13.trans s4
         have rw4 : Rep K H4 (.ref W) (.lst (ws.map tI)) := ⟨W, wu, rfl, .of (s14 _ _ hW2), Reps.same s14 rW⟩
         have hfl := (faces_len hwi)
         have hzl : zs.length ≤ 4 := by
           rw [hzs, List.length_map, List.length_take]
           have := hfl.2
           have := hfl.1
           split at this <;> omega
         refine ⟨_, rfl, .inl ⟨rfl, _, .of (s14 _ _ hW2)⟩, _, rfl, ws.map tI, y, tI (facesBy w fam)[m], idx ws (facesBy w fam)[m], rfl, rw4, TI.same s4 ty, (by have := deps_tIs ws; omega), findIdx_tI hfm, ?_⟩
         refine ⟨hD4, small (by omega), s4.turn hD2, upd_same, ?_, _, rfl⟩
         rw [List.take_succ, List.getElem?_eq_getElem hmf, List.map_append, hzs]
         rfl
       · rintro zs τ H4 ⟨s4, hD4, hzs, _⟩
         rw [ful, List.take_length] at hzs
         have s14 := s13.trans s4
         refine ⟨D2, _, rfl, .inl ⟨.of hD4, fun T hT => ?_⟩⟩
         have s5 : Same H4 (upd H4 T (.tup zs)) := Same.new hT
         have hD5 := (s3.trans (s4.trans s5)) _ _ hD1
         have t5 : TI K (upd H4 T (.tup zs)) (.ref T) ((facesBy w fam).map fun f => (idx ws f : Int)) := by
           refine TI.mk (.of ?_)
           rw [List.map_map, upd_same, hzs]
           rfl
         have hyl : ys.length = i := by have := r1.length; simp at this; omega
         refine ⟨hD5, small (by omega), (s14.trans s5).turn hD, upd_same, ?_, _, rfl⟩
         have e2 : (ws.take (i + 1)).map (fun w => (facesBy w fam).map fun f => (idx ws f : Int)) = (ws.take i).map (fun w => (facesBy w fam).map fun f => (idx ws f : Int)) ++ [(facesBy w fam).map fun f => (idx ws f : Int)] := by
           rw [List.take_succ, List.getElem?_eq_getElem hil, hwe, List.map_append]
           rfl
         rw [e2]
         exact push_TI hD5 (Reps.same (s3.trans (s4.trans s5)) r1) t5
     · rintro ys τ H1 ⟨s1, hD1, r1, _⟩
       rw [wul, List.take_length] at r1
       exact k D ys H1 (shapeOf ws fam) hDH (s2.trans s1) hD1 r1 (shapeOf_shape hO) (by unfold shapeOf; rw [List.length_map]; exact hwl)
noncomputable abbrev s_L_edge_by : Stmt := top 43
theorem sc_L_edge_by : FnScope ["_law_shape", "_law_chain", "_law_level", "_law_due", "_law_below", "_law_place"] ["_law_shape", "_law_chain", "_law_level"] (defScope s_L_edge_by) := ⟨rfl, rfl, rfl, by decide +kernel, rfl, by decide +kernel, by decide +kernel⟩
theorem nd_L_edge_by : (["_law_shape", "_law_chain", "_law_level", "_law_due", "_law_below", "_law_place"] : List Str).Nodup := by decide +kernel
theorem ok_L_edge_by {f : Addr} {fd : FuncData} (F : Fun K "_law_edge_by" "_law_edge_by" s_L_edge_by f fd) (T : Txt K mg C_HoleError C_NoShape C_NoChain C_NoGlue) (h_L_border_by : Has P w K mg base "_law_border_by" ["_law_shape", "_law_chain"] 2 (sp_L_border_by5 K)) (h_L_without_noughts : Has P w K mg base "_law_without_noughts" ["_law_numbers"] 1 (sp_L_without_noughts K)) : FnOk P w K mg base CX0 3 f fd ["_law_shape", "_law_chain", "_law_level"] (sp_L_edge_by K) := by
 refine F.ok sc_L_edge_by (fun vs H Q E h => ?_) (fun cdv A outer s H vs Q E hr h => ?_)
 · obtain ⟨a, b, xs, ms, lv, rfl, hL, hb, hndm, hml, h5, hin, hbd, k⟩ := h
   rfl
 · obtain ⟨a, b, xs, ms, lv, rfl, hL, hb, hndm, hml, h5, hin, hbd, k⟩ := h
   have hu8 : (A.deeper (PyProof.Rows.envOfC "_law_edge_by" (defScope s_L_edge_by) s.heap.objs.size f cdv)).units + 8 < cLine := by have := hr.units; omega
   refine ⟨_, (pss_cons (ps_set (i := 3) nd_L_edge_by (by rfl) (by first | exact Or.inl rfl | exact Or.inr rfl) (pe_callTy call_dictC (by rfl) T.n_dict boot_dictT (pa_cons (pv 1) pa_nil)))
     (pss_cons (ps_if (pt_cmpR op_eq (pv 2) pe_int (nomark _)) (pss_cons (ps_dput (u1 hu8) (pv 3) (pe_callB (kcall_len_seq (K := K)) (by rfl) T.n_len PySem.boot_len (pa_cons (pv 0) pa_nil)) (pe_un un_neg (pe_callB (kcall_sumI (K := K) (by rfl)) (by rfl) T.n_sum boot_sumB (pa_cons (pe_frz (pe_comp (N' := ["_law_place", "_law_chain"]) (cap := [none, some 1]) (by rfl) (by kernel_rfl) (pi_keys (pv 1)) (fun _ _ _ _ => (pg_name (i := 0) ndc_14 (by rfl) (by first | exact Or.inl rfl | exact Or.inr rfl))) (fun _ _ _ _ => pts_nil) (fun _ _ _ _ => (pe_dget (u1 hu8) (pv 1) (pv 0) (fun _ _ => rfl))))) pa_nil))) (by rfl))
     (pss_one (ps_ret (pe_callH h_L_without_noughts hr (by rfl) (pa_cons (pv 3) pa_nil))))) pss_nil)
     (pss_cons (ps_set (i := 4) nd_L_edge_by (by rfl) (by first | exact Or.inl rfl | exact Or.inr rfl) (pe_callH h_L_border_by hr (by rfl) (pa_cons (pv 0) (pa_cons (pv 1) pa_nil))))
     (pss_cons (ps_frz (ps_for PassesOwn.never rfl (pi_keys (pv 4)) (pg_name (i := 5) nd_L_edge_by (by rfl) (by first | exact Or.inl rfl | exact Or.inr rfl)) (pss_one (ps_dput (u1 hu8) (pv 3) (pe_op op_add (pe_op op_add (pv 5) (pe_callB (kcall_len_seq (K := K)) (by rfl) T.n_len PySem.boot_len (pa_cons (pv 0) pa_nil))) pe_int) (pe_un un_neg (pe_dget (u1 hu8) (pv 4) (pv 5) (fun _ _ => rfl))) (by rfl)))))
     (pss_one (ps_ret (pv 3))))))), ?_⟩
   obtain ⟨_, us, z, hS, ra⟩ := id hL
   cases z
   have usl : us.length = xs.length := by have := ra.length; simpa using this
   refine tSeq_cut (fun σ' H' => ∃ D, σ' = [some (.ref a), some (.ref b), some (.int lv), some (.ref D), none, none] ∧ Same H H' ∧ H D = none ∧ H' D = some (.dK (cK ms))) ?_ fun key => ?_
   rotate_left
   · exact ⟨_, rfl, b, _, rfl, .inl hb, fun D hD => key _ _ ⟨D, rfl, Same.new hD, hD, upd_same⟩⟩
   rintro _ H1 ⟨D, rfl, s1, hD, hD1⟩
   have hb1 := s1 _ _ hb
   have nbD : b ≠ D := ne_of_none hb hD
   refine tSeq_cut (fun σ' H' => σ' = [some (.ref a), some (.ref b), some (.int lv), some (.ref D), none, none] ∧ H1 = H' ∧ lv ≠ 0) ?_ fun key => ?_
   rotate_left
   · refine ⟨_, rfl, rfl, _, rfl, ?_⟩
     refine ite2 (fun h1 => ?_) (fun h1 => ?_)
     rotate_left
     · exact key _ _ ⟨rfl, rfl, fun z => h1 (by rw [z]; rfl)⟩
     have h0 : lv = 0 := V.int.inj (of_decide_eq_true h1)
     refine .inr ⟨b, cK ms, hb1, fun hnd o => ?_⟩
     refine ⟨_, rfl, b, o, cK ms, rfl, upd_same, fun Z hZ => ?_⟩
     obtain ⟨hZ0, nZ1⟩ := frz_free hZ
     refine comp_keys (d := b) (o := o) (kvs := cK ms) (fun i zs τ H7 => zs = ((ms.take i).map fun p => p.2).map V.int ∧ H7 b = some (.frz o (.dK (cK ms))) ∧ H7 Z = some (.lst zs) ∧ (∀ c q, c ≠ b → H1 c = some q → H7 c = some q) ∧ ∃ o1, τ = [o1, some (.ref b)])
       ⟨rfl, ?_, upd_same, ?_, none, rfl⟩ (fun i zs τ H1 _ ⟨_, e, _⟩ => e) ?_ ?_
     · rw [upd_ne nZ1.symm]; exact upd_same
     · intro c q m1 e2
       rw [upd_ne (ne_of_none e2 hZ0), upd_ne m1]
       exact e2
     · rintro i kk x zs τ H7 hx ⟨rfl, hd1, hZ7, hk, o1, rfl⟩
       obtain ⟨q, hq, rfl, rfl⟩ := cK_get hx
       have hlt : i < ms.length := (List.getElem?_eq_some_iff.mp hq).1
       have hat : lookI ms q.1 = some q.2 := lookI_in hndm (List.mem_of_getElem? hq)
       refine ⟨_, rfl, _, rfl, b, .int q.2, rfl, dget_at (.inr ⟨_, hd1⟩) hat, ?_⟩
       refine ⟨hZ7, small (by simp; omega), ?_, ?_, upd_same, fun c r m1 e2 => ?_, _, rfl⟩
       · rw [List.take_add_one, hq, List.map_append, List.map_append]
         rfl
       · rw [upd_ne nZ1.symm]; exact hd1
       · rw [upd_ne (fun z => by rw [z, hZ0] at e2; cases e2)]
         exact hk c r m1 e2
     rintro zs τ H7 ⟨rfl, hd1, hZ7, hk, _⟩
     rw [cK_len, List.take_length] at hZ7
     have s68 : Same H1 (upd H7 b (.dK (cK ms))) := fun c q e2 => by
       by_cases z : c = b
       · subst z
         rw [hb1] at e2
         cases e2
         exact upd_same
       · rw [upd_ne z]; exact hk c q z e2
     have hZ8 : (upd H7 b (.dK (cK ms))) Z = some (.lst ((ms.map fun p => p.2).map V.int)) := by rw [upd_ne nZ1]; exact hZ7
     have hD8 := s68 _ _ hD1
     have s08 := s1.trans s68
     generalize upd H7 b (.dK (cK ms)) = H8 at s68 hZ8 hD8 s08
     refine ⟨hd1, Z, _, rfl, .of hZ8, _, rfl, _, rfl, _, rfl, a, us, rfl, .inl (s08.seq hS), D, _, rfl, dput_ok hD8 (by omega), ?_⟩
     have hm' := len_put ms (us.length : Int) (-(ms.map fun p => p.2).sum)
     refine ⟨_, rfl, D, _, rfl, upd_same, by omega, fun E H9 hE s9 hE9 => ?_⟩
     have e9 : Same H (upd H8 D (.dK (cK (putI ms (us.length : Int) (-(ms.map fun p => p.2).sum))))) := s08.turn hD
     refine k E H9 (e9.free hE) (e9.trans s9) ?_
     rw [hE9]
     unfold edI totI
     rw [if_pos h0, usl]
   rintro _ _ ⟨rfl, rfl, h0⟩
   have kk : ∀ G, Same H G → G D = some (.dK (cK (edN xs.length ms (cutI (bbI xs ms)) (cutI (bbI xs ms)).length))) → Q (.ref D) G := fun G g e => k D G hD g (by rw [e]; unfold edI; rw [if_neg h0])
   refine tSeq_cut (fun σ' H' => ∃ B, σ' = [some (.ref a), some (.ref b), some (.int lv), some (.ref D), some (.ref B), none] ∧ Same H1 H' ∧ H1 B = none ∧ H' B = some (.dK (cK (cutI (bbI xs ms))))) ?_ fun key => ?_
   rotate_left
   · exact ⟨_, rfl, _, rfl, a, b, xs, ms, rfl, Rep.same s1 hL, hb1, hndm, by omega, h5, hin, hbd, fun B H2 hB s2 hB2 => key _ _ ⟨B, rfl, s2, hB, hB2⟩⟩
   rintro _ H2 ⟨B, rfl, s2, hB, hB2⟩
   have hD2 := s2 _ _ hD1
   have nDB : D ≠ B := ne_of_none hD1 hB
   have ndb : nd (cutI (bbI xs ms)) := nd_no (nd_bb _ _ _)
   have lb : (cutI (bbI xs ms)).length ≤ 315 := Nat.le_trans (len_cut _) (Nat.le_trans (len_ib5 h5 ms ms.length) (by omega))
   have s02 := s1.trans s2
   generalize cutI (bbI xs ms) = bs at hB2 ndb lb kk
   refine .inr ⟨B, cK bs, hB2, fun _ o => ?_⟩
   refine ⟨_, rfl, B, o, cK bs, rfl, upd_same, ?_⟩
   refine for_keys (d := B) (o := o) (kvs := cK bs) (fun i σ G => ∃ o1, σ = [some (.ref a), some (.ref b), some (.int lv), some (.ref D), some (.ref B), o1] ∧ G B = some (.frz o (.dK (cK bs))) ∧ G D = some (.dK (cK (edN xs.length ms bs i))) ∧ (∀ c q, c ≠ B → c ≠ D → H2 c = some q → G c = some q))
     ⟨none, rfl, upd_same, by rw [upd_ne nDB]; exact hD2, fun c q n1 n2 e => by rw [upd_ne n1]; exact e⟩ (fun i σ G _ ⟨_, _, e, _⟩ => e) ?_ ?_
   · rintro i kv x σ G hx ⟨o1, rfl, hBG, hDG, hkG⟩
     obtain ⟨q, hq, rfl, rfl⟩ := cK_get hx
     have hlt : i < bs.length := (List.getElem?_eq_some_iff.mp hq).1
     have hqd : bs.getD i (0, 0) = q := by rw [List.getD_eq_getElem?_getD, hq]; rfl
     have hat : lookI bs q.1 = some q.2 := lookI_in ndb (List.mem_of_getElem? hq)
     have ml := len_ed xs.length ms bs i
     have hSG : SqL K G a us := by
       have e1 : StayX B H2 (upd H2 B (.frz o (.dK (cK bs)))) := fun c r n e => by rw [upd_ne n]; exact e
       have l1 := SqL.x e1 hB2 (s02.seq hS)
       have d1 : (upd H2 B (.frz o (.dK (cK bs)))) D = some (.dK (cK ms)) := by rw [upd_ne nDB]; exact hD2
       have e2 : StayX D (upd H2 B (.frz o (.dK (cK bs)))) G := fun c r n e => by
         by_cases z : c = B
         · subst z
           rw [upd_same] at e
           cases e
           exact hBG
         · rw [upd_ne z] at e
           exact hkG c r z n e
       exact SqL.x e2 d1 l1
     refine ⟨_, rfl, _, rfl, B, .int q.2, rfl, dget_at (.inr ⟨o, hBG⟩) hat, _, rfl, _, rfl, _, rfl, _, rfl, a, us, rfl, .inl hSG, _, _, rfl, rfl, _, _, rfl, rfl, D, _, rfl, dput_ok hDG (by omega), ?_⟩
     refine ⟨_, rfl, ?_, ?_, fun c r n1 n2 e2 => ?_⟩
     · rw [upd_ne nDB.symm]; exact hBG
     · rw [upd_same, usl]
       show _ = some (HO.dK (cK (putI (edN xs.length ms bs i) ((bs.getD i (0, 0)).1 + (xs.length : Int) + 1) (-(bs.getD i (0, 0)).2))))
       rw [hqd]
     · rw [upd_ne n2]; exact hkG c r n1 n2 e2
   · rintro σ G ⟨o1, rfl, hBG, hDG, hkG⟩
     rw [cK_len] at hDG
     have s3 : Same H (upd G B (.dK (cK bs))) := fun c q e => by
       by_cases z : c = B
       · subst z
         rw [s1 _ _ e] at hB
         cases hB
       · rw [upd_ne z]
         exact hkG c q z (ne_of_none e hD) (s02 _ _ e)
     exact ⟨hBG, _, rfl, kk _ s3 (by rw [upd_ne nDB]; exact hDG)⟩
noncomputable abbrev s_is_part : Stmt := top 9
theorem sc_is_part : FnScope ["shape", "k", "place", "number"] ["shape", "k", "place", "number"] (defScope s_is_part) := ⟨rfl, rfl, rfl, by decide +kernel, rfl, by decide +kernel, by decide +kernel⟩
theorem ok_is_part {f : Addr} {fd : FuncData} (F : Fun K "is_part" "is_part" s_is_part f fd) (T : Txt K mg C_HoleError C_NoShape C_NoChain C_NoGlue) (h_is_place_of_level : Has P w K mg base "is_place_of_level" ["shape", "thing", "level"] 3 (sp_is_place_of_level K)) (h_is_whole : Has P w K mg base "is_whole" ["thing"] 1 (sp_is_whole K)) : FnOk P w K mg base CX0 4 f fd ["shape", "k", "place", "number"] (sp_is_partX K) := by
 refine F.ok sc_is_part (fun vs H Q E h => ?_) (fun cdv A outer s H vs Q E hr h => ?_)
 · obtain ⟨a, xs, k, x, y, d, e, rfl, hL, hx, hy, kq⟩ := h
   rfl
 · obtain ⟨a, xs, k, x, y, d, e, rfl, hL, hx, hy, kq⟩ := h
   refine ⟨_, (pss_one (ps_ret (pe_and (pe_callH h_is_place_of_level hr (by rfl) (pa_cons (pv 0) (pa_cons (pv 2) (pa_cons (pv 1) pa_nil)))) (pe_and (pe_callH h_is_whole hr (by rfl) (pa_cons (pv 3) pa_nil)) (pe_one (pe_cmpR op_ne (pv 3) pe_int (nomark _))))))), ?_⟩
   refine ⟨_, rfl, _, rfl, _, rfl, a, x, d, k, xs, rfl, hL, hx, _, rfl, ?_⟩
   refine ite2 (fun e1 => ?_) (fun e1 => ?_)
   · refine ⟨_, rfl, y, e, rfl, hy, _, rfl, ?_⟩
     refine ite2 (fun e2 => ?_) (fun e2 => ?_)
     · obtain ⟨n, rfl⟩ := whole_num e2
       cases (show y = .int n from hy)
       refine ⟨_, rfl, rfl, ?_⟩
       have e3 : partD xs k d (.int n) = !decide (V.int n = V.int 0) := by
         unfold partD nzD
         rw [e1]
         by_cases z : n = 0
         · subst z; simp
         · simp [z]
       rw [e3] at kq
       exact kq
     · have e2' : wholeD e = false := by simpa using e2
       rw [partD_num (nz_whole e2')] at kq
       exact kq
   · have e1' : placeLev xs d k = false := by simpa using e1
     rw [partD_key e1'] at kq
     exact kq
noncomputable abbrev s_L_cone_told : Stmt := top 44
theorem sc_L_cone_told : FnScope ["_law_shape", "_law_told", "e"] ["_law_shape"] (defScope s_L_cone_told) := ⟨rfl, rfl, rfl, by decide +kernel, rfl, by decide +kernel, by decide +kernel⟩
theorem nd_L_cone_told : (["_law_shape", "_law_told", "e"] : List Str).Nodup := by decide +kernel
theorem ok_L_cone_told {f : Addr} {fd : FuncData} (F : Fun K "_law_cone_told" "_law_cone_told" s_L_cone_told f fd) (T : Txt K mg C_HoleError C_NoShape C_NoChain C_NoGlue) (hx_cone : HasX P w K mg base "cone" ["shape"] 3 (sp_cone K C_NoGlue C_NoShape)) : FnOk P w K mg base CX0 4 f fd ["_law_shape"] (sp_L_cone_told K) := by
 refine F.ok sc_L_cone_told (fun vs H Q E h => ?_) (fun cdv A outer s H vs Q E hr h => ?_)
 · obtain ⟨a, xs, rfl, hL, hcn, hxl, kG, kS, kQ⟩ := h
   rfl
 · obtain ⟨a, xs, rfl, hL, hcn, hxl, kG, kS, kQ⟩ := h
   refine ⟨_, (pss_cons (ps_set (i := 1) nd_L_cone_told (by rfl) (by first | exact Or.inl rfl | exact Or.inr rfl) pe_non)
     (pss_cons (ps_try (fun _ _ => (pss_one (ps_set (i := 1) nd_L_cone_told (by rfl) (by first | exact Or.inl rfl | exact Or.inr rfl) (pe_callX flies_tried hx_cone hr (by rfl) (pa_cons (pv 0) pa_nil)))))
     (ph_as (i := 2) nd_L_cone_told (by rfl) (by rfl) (by rfl) T.m_HoleError T.k_HoleError (fun _ => (pss_one (ps_set (i := 1) nd_L_cone_told (by rfl) (by first | exact Or.inl rfl | exact Or.inr rfl) (pe_tup (pa_cons (pe_callB (kcall_isiX (K := K)) (by rfl) T.n_isinstance boot_isinstanceB (pa_cons (pv 2) (pa_cons (pe_glob (v := .ref C_NoGlue) (by rfl) T.m_NoGlue rfl) pa_nil))) (pa_cons (pe_callB (kcall_isiX (K := K)) (by rfl) T.n_isinstance boot_isinstanceB (pa_cons (pv 2) (pa_cons (pe_glob (v := .ref C_NoShape) (by rfl) T.m_NoShape rfl) pa_nil))) pa_nil))))))
     ph_none))
     (pss_one (ps_ret (pv 1))))), ?_⟩
   refine ⟨_, rfl, a, xs, rfl, hL, hcn, hxl, fun he H1 s1 => ?_, fun he hz H1 s1 => ?_, fun he hz p us H1 hp s1 hp1 r1 => ?_⟩
   · refine ⟨C_NoGlue, true, rfl, T.s_NoGlue_HoleError, ?_⟩
     refine ifP rfl fun e he1 => ?_
     have g1 : Same H1 (upd H1 e (excO e (.ref C_NoGlue))) := Same.new he1
     refine ⟨_, rfl, e, C_NoGlue, _, _, _, rfl, rfl, ref_only, upd_same, T.x_NoGlue, T.i_NoGlue_NoGlue, _, rfl, e, C_NoGlue, _, _, _, rfl, rfl, ref_only, upd_same, T.x_NoGlue, T.i_NoGlue_NoShape, smallE (by simp), fun M hM => ?_⟩
     exact ⟨_, rfl, kG he M _ ((s1.trans g1).trans (Same.new hM)) upd_same⟩
   · refine ⟨C_NoShape, true, rfl, T.s_NoShape_HoleError, ?_⟩
     refine ifP rfl fun e he1 => ?_
     have g1 : Same H1 (upd H1 e (excO e (.ref C_NoShape))) := Same.new he1
     refine ⟨_, rfl, e, C_NoShape, _, _, _, rfl, rfl, ref_only, upd_same, T.x_NoShape, T.i_NoShape_NoGlue, _, rfl, e, C_NoShape, _, _, _, rfl, rfl, ref_only, upd_same, T.x_NoShape, T.i_NoShape_NoShape, smallE (by simp), fun M hM => ?_⟩
     exact ⟨_, rfl, kS he hz M _ ((s1.trans g1).trans (Same.new hM)) upd_same⟩
   · exact ⟨_, rfl, kQ he hz p us H1 hp s1 hp1 r1⟩
noncomputable abbrev s_is_chain : Stmt := top 8
theorem sc_is_chain : FnScope ["shape", "k", "thing"] ["shape", "k", "thing"] (defScope s_is_chain) := ⟨rfl, rfl, rfl, by decide +kernel, rfl, by decide +kernel, by decide +kernel⟩
theorem ok_is_chain {f : Addr} {fd : FuncData} (F : Fun K "is_chain" "is_chain" s_is_chain f fd) (T : Txt K mg C_HoleError C_NoShape C_NoChain C_NoGlue) (h_is_part : Has P w K mg base "is_part" ["shape", "k", "place", "number"] 4 (sp_is_partX K)) : FnOk P w K mg base CX0 5 f fd ["shape", "k", "thing"] (sp_is_chainX K) := by
 refine F.ok sc_is_chain (fun vs H Q E h => ?_) (fun cdv A outer s H vs Q E hr h => ?_)
 · obtain ⟨a, xs, k, x, t, rfl, hL, hT, kq⟩ := h
   rfl
 · obtain ⟨a, xs, k, x, t, rfl, hL, hT, kq⟩ := h
   refine ⟨_, (pss_cons (ps_if (pt_not (pt_val (pe_callB (call_isiO (K := K)) (by rfl) T.n_isinstance boot_isinstanceB (pa_cons (pv 2) (pa_cons (pe_bltn (v := .ty "dict") rfl T.n_dict boot_dictT rfl) pa_nil))))) (pss_one (ps_ret pe_bl)) pss_nil)
     (pss_one (ps_ret (pe_callB (kcall_allB (K := K) (by rfl)) (by rfl) T.n_all boot_allB (pa_cons (pe_frz (pe_comp (N' := ["place", "number", "shape", "k"]) (cap := [none, none, some 0, some 1]) (by rfl) (by kernel_rfl) (pi_itemsX (pv 2)) (fun _ _ _ _ => (kpg_tup (K := K) (n := 2) (by rfl) (pgs_cons (pg_name (i := 0) ndc_1 (by rfl) (by first | exact Or.inl rfl | exact Or.inr rfl)) (pgs_cons (pg_name (i := 1) ndc_1 (by rfl) (by first | exact Or.inl rfl | exact Or.inr rfl)) pgs_nil)))) (fun _ _ _ _ => pts_nil) (fun _ _ _ _ => (pe_callH h_is_part hr (by rfl) (pa_cons (pv 2) (pa_cons (pv 3) (pa_cons (pv 0) (pa_cons (pv 1) pa_nil)))))))) pa_nil))))), ?_⟩
   cases t with
   | data d =>
     refine ⟨_, rfl, x, "dict", rfl, .inr (.inr (.inr (.inr (.inr rfl)))), .inl ⟨.d (vD x), hT.1.rep, _, rfl, ?_⟩⟩
     rw [sca_dict hT.1]
     refine ifP rfl ?_
     exact kq _ (Same.refl _)
   | lst =>
     obtain ⟨b, us, rfl, hb⟩ := hT
     refine ⟨_, rfl, _, "dict", rfl, .inr (.inr (.inr (.inr (.inr rfl)))), .inr (.inr ⟨b, us, rfl, hb, _, rfl, ?_⟩)⟩
     refine ifP (by decide) ?_
     exact kq _ (Same.refl _)
   | dk kvs =>
     obtain ⟨b, rfl, hb, hm, hv⟩ := hT
     refine ⟨_, rfl, _, "dict", rfl, .inr (.inr (.inr (.inr (.inr rfl)))), .inl ⟨.dic, ⟨b, kvs, rfl, .inl hb⟩, _, rfl, ?_⟩⟩
     refine ifN (by decide) ?_
     refine .inr ⟨b, kvs, hb, fun hnd o => ?_⟩
     refine ⟨_, rfl, .inl ⟨b, o, kvs, rfl, upd_same, fun D hD => ?_⟩⟩
     obtain ⟨hD0, nDb⟩ := frz_free hD
     refine comp_items (d := b) (o := o) (kvs := kvs) (fun i zs τ H1 => zs = ((kvs.take i).map fun p => partD xs k (vD (kV p.1)) (vD p.2)).map V.bl ∧ H1 b = some (.frz o (.dK kvs)) ∧ H1 D = some (.lst zs) ∧ StayX b H H1 ∧ ∃ o1 o2, τ = [o1, o2, some (.ref a), some (.int k)])
       ⟨rfl, ?_, upd_same, ?_, none, none, rfl⟩ (fun i zs τ H1 _ ⟨_, e, _⟩ => e) ?_ ?_
     · rw [upd_ne nDb.symm]; exact upd_same
     · intro c q n1 e2
       rw [upd_ne (ne_of_none e2 hD0), upd_ne n1]
       exact e2
     · rintro i kk x zs τ H1 p hx ⟨rfl, hb1, hD1, hk1, o1, o2, rfl⟩ hp
       have hlt : i < kvs.length := (List.getElem?_eq_some_iff.mp hx).1
       have sp : Same H1 (upd H1 p (.tup [kV kk, x])) := Same.new hp
       refine ⟨p, _, rfl, .of upd_same, rfl, _, _, rfl, _, _, rfl, rfl, ?_⟩
       refine ⟨_, rfl, _, rfl, _, rfl, _, rfl, a, xs, k, kV kk, x, _, _, rfl, Rep.same sp (Rep.x hk1 hb hL), (sca_key kk).rep, (hv _ (List.mem_of_getElem? hx)).rep, ?_⟩
       refine ⟨sp _ _ hD1, small (by simp; omega), ?_, ?_, upd_same, fun c r n1 e2 => ?_, _, _, rfl⟩
       · rw [List.take_add_one, hx, List.map_append, List.map_append]
         rfl
       · rw [upd_ne nDb.symm]; exact sp _ _ hb1
       · rw [upd_ne (fun z => by rw [z, hD0] at e2; cases e2)]
         exact sp _ _ (hk1 c r n1 e2)
     · rintro zs τ H1 ⟨rfl, hb1, hD1, hk1, _⟩
       rw [List.take_length] at hD1
       refine ⟨hb1, D, kvs.map fun p => partD xs k (vD (kV p.1)) (vD p.2), rfl, .of (by rw [upd_ne nDb]; exact hD1), ?_⟩
       rw [List.all_map]
       refine kq _ fun c q e2 => ?_
       by_cases z : c = b
       · subst z
         rw [hb] at e2
         cases e2
         exact upd_same
       · rw [upd_ne z]
         exact hk1 c q z e2
   | odd kvs =>
     obtain ⟨b, rfl, hO, hm, hv⟩ := hT
     refine ⟨_, rfl, _, "dict", rfl, .inr (.inr (.inr (.inr (.inr rfl)))), .inr (.inl ⟨b, kvs, rfl, hO, _, rfl, ?_⟩)⟩
     refine ifN (by decide) ?_
     obtain ⟨hsys, o, hb, hOb⟩ := hO
     refine .inl ⟨_, rfl, .inr ⟨b, o, kvs, rfl, hsys, hb, hOb, fun D hD => ?_⟩⟩
     refine comp_itemsX (d := b) (o := o) (kvs := kvs) (fun i zs τ H1 => zs = ((kvs.take i).map fun p => partD xs k (vD p.1) (vD p.2)).map V.bl ∧ H1 D = some (.lst zs) ∧ Same H H1 ∧ ∃ o1 o2, τ = [o1, o2, some (.ref a), some (.int k)])
       ⟨rfl, upd_same, Same.new hD, none, none, rfl⟩ (fun i zs τ H1 _ ⟨_, _, s1, _⟩ => s1 _ _ hb) ?_ ?_
     · rintro i kk x zs τ H1 p hx ⟨rfl, hD1, s1, o1, o2, rfl⟩ hp
       have hlt : i < kvs.length := (List.getElem?_eq_some_iff.mp hx).1
       have sp : Same H1 (upd H1 p (.tup [kk, x])) := Same.new hp
       obtain ⟨hv1, hv2⟩ := hv _ (List.mem_of_getElem? hx)
       refine ⟨p, _, rfl, .of upd_same, rfl, _, _, rfl, _, _, rfl, rfl, ?_⟩
       refine ⟨_, rfl, _, rfl, _, rfl, _, rfl, a, xs, k, kk, x, _, _, rfl, Rep.same (s1.trans sp) hL, (hv1.same (s1.trans sp)).rep, hv2.rep, ?_⟩
       refine ⟨sp _ _ hD1, small (by simp; omega), ?_, upd_same, (s1.trans sp).turn hD, _, _, rfl⟩
       rw [List.take_add_one, hx, List.map_append, List.map_append]
       rfl
     · rintro zs τ H1 ⟨rfl, hD1, s1, _⟩
       rw [List.take_length] at hD1
       refine ⟨D, kvs.map fun p => partD xs k (vD p.1) (vD p.2), rfl, .of hD1, ?_⟩
       rw [List.all_map]
       exact kq _ s1
noncomputable abbrev s_is_chain_of_some_level : Stmt := top 10
theorem sc_is_chain_of_some_level : FnScope ["shape", "thing", "bound"] ["shape", "thing", "bound"] (defScope s_is_chain_of_some_level) := ⟨rfl, rfl, rfl, by decide +kernel, rfl, by decide +kernel, by decide +kernel⟩
theorem ok_is_chain_of_some_level {f : Addr} {fd : FuncData} (F : Fun K "is_chain_of_some_level" "is_chain_of_some_level" s_is_chain_of_some_level f fd) (T : Txt K mg C_HoleError C_NoShape C_NoChain C_NoGlue) (h_is_chain : Has P w K mg base "is_chain" ["shape", "k", "thing"] 5 (sp_is_chainX K)) : FnOk P w K mg base CX0 6 f fd ["shape", "thing", "bound"] (sp_some_levelX K) := by
 refine F.ok sc_is_chain_of_some_level (fun vs H Q E h => ?_) (fun cdv A outer s H vs Q E hr h => ?_)
 · obtain ⟨a, x, xs, n, t, rfl, hL, hT, hn, kq⟩ := h
   rfl
 · obtain ⟨a, x, xs, n, t, rfl, hL, hT, hn, kq⟩ := h
   refine ⟨_, (pss_one (ps_ret (pe_callB (kcall_anyB (K := K) (by rfl)) (by rfl) T.n_any boot_anyB (pa_cons (pe_comp (N' := ["k", "shape", "thing"]) (cap := [none, some 0, some 1]) (by rfl) (by kernel_rfl) (pi_range1 (by rfl) T.n_range (pa_cons (pv 2) pa_nil)) (fun _ _ _ _ => (pg_name (i := 0) ndc_2 (by rfl) (by first | exact Or.inl rfl | exact Or.inr rfl))) (fun _ _ _ _ => pts_nil) (fun _ _ _ _ => (pe_callH h_is_chain hr (by rfl) (pa_cons (pv 1) (pa_cons (pv 0) (pa_cons (pv 2) pa_nil)))))) pa_nil)))), ?_⟩
   refine ⟨_, rfl, _, rfl, by omega, by omega, fun D hD => ?_⟩
   refine comp_range0 (fun i zs τ H1 => Same H H1 ∧ H1 D = some (.lst zs) ∧ zs = ((List.range i).map fun (k : Nat) => chainT xs (k : Int) t).map V.bl ∧ ∃ o, τ = [o, some (.ref a), some x])
     ⟨Same.new hD, upd_same, rfl, none, rfl⟩ ?_ ?_
   · rintro i zs τ H1 hi ⟨s1, hD1, hzs, o, rfl⟩
     have hi2 : i < n := by omega
     refine ⟨_, rfl, _, rfl, _, rfl, a, xs, _, x, t, rfl, Rep.same s1 hL, hT.same s1, fun H2 s2 => ?_⟩
     refine ⟨s2 _ _ hD1, small (by rw [hzs, List.length_map, List.length_map, List.length_range]; omega), (s1.trans s2).turn hD, upd_same, ?_, _, rfl⟩
     rw [List.range_succ, List.map_append, List.map_append, hzs, show ((0 : Int) + (i : Int)) = (i : Int) by omega]
     rfl
   · rintro zs τ H1 ⟨s1, hD1, hzs, _⟩
     rw [Int.toNat_natCast] at hzs
     refine ⟨D, (List.range n).map fun (k : Nat) => chainT xs (k : Int) t, rfl, .of (by rw [hD1, hzs]), ?_⟩
     rw [List.any_map]
     exact kq _ s1
noncomputable abbrev s_coned : Stmt := top 24
theorem sc_coned : FnScope ["shape", "chain", "first"] ["shape", "chain"] (defScope s_coned) := ⟨rfl, rfl, rfl, by decide +kernel, rfl, by decide +kernel, by decide +kernel⟩
theorem nd_coned : (["shape", "chain", "first"] : List Str).Nodup := by decide +kernel
theorem ok_coned {f : Addr} {fd : FuncData} (F : Fun K "coned" "coned" s_coned f fd) (T : Txt K mg C_HoleError C_NoShape C_NoChain C_NoGlue) (h_is_chain_of_some_level : Has P w K mg base "is_chain_of_some_level" ["shape", "thing", "bound"] 6 (sp_some_levelX K)) : FnOk P w K mg base (CX1 P w) 7 f fd ["shape", "chain"] (sp_coned K C_NoChain) := by
 refine F.okX sc_coned (fun vs H Q E h => ?_) (fun cdv A outer s H vs Q E hr h => ?_)
 · obtain ⟨a, x, xs, rfl, hL, hxl, alt⟩ := h
   rfl
 · obtain ⟨a, x, xs, rfl, hL, hxl, alt⟩ := h
   obtain ⟨t_LEVELS, c_LEVELS⟩ := T.x_LEVELS
   refine ⟨_, (pss_cons (ps_if (pt_not (pt_val (pe_callH h_is_chain_of_some_level hr (by rfl) (pa_cons (pv 0) (pa_cons (pv 1) (pa_cons (pe_op op_sub (pe_glob (v := .int 4) (by rfl) c_LEVELS ⟨_, rfl⟩) pe_int) pa_nil)))))) (pss_one (ps_raise makes_def (by rfl) (by rfl) T.m_NoChain T.e_NoChain (pa_cons pe_str pa_nil))) pss_nil)
     (pss_cons (ps_set (i := 2) nd_coned (by rfl) (by first | exact Or.inl rfl | exact Or.inr rfl) (pe_op op_add (pe_callB (kcall_len_seq (K := K)) (by rfl) T.n_len PySem.boot_len (pa_cons (pv 0) pa_nil)) pe_int))
     (pss_one (ps_ret (pe_callTy (call_dictP (by rfl)) (by rfl) T.n_dict boot_dictT (pa_cons (pe_frz (pe_comp (N' := ["place", "number", "first"]) (cap := [none, none, some 2]) (by rfl) (by kernel_rfl) (pi_items (pv 1)) (fun _ _ _ _ => (kpg_tup (K := K) (n := 2) (by rfl) (pgs_cons (pg_name (i := 0) ndc_5 (by rfl) (by first | exact Or.inl rfl | exact Or.inr rfl)) (pgs_cons (pg_name (i := 1) ndc_5 (by rfl) (by first | exact Or.inl rfl | exact Or.inr rfl)) pgs_nil)))) (fun _ _ _ _ => pts_nil) (fun _ _ _ _ => (pe_tup (pa_cons (pe_op op_add (pv 2) (pv 0)) (pa_cons (pv 1) pa_nil)))))) pa_nil)))))), ?_⟩
   obtain ⟨_, us, z, hqa, ra⟩ := id hL
   cases z
   have usl : us.length = xs.length := by have := ra.length; simpa using this
   rcases alt with ⟨b, ms, rfl, hb, hndm, hml, ⟨k0, hk0, hch⟩, k⟩ | ⟨⟨t, hT, hF⟩, kE⟩
   rotate_left
   · refine ⟨_, rfl, _, rfl, _, _, rfl, rfl, a, x, xs, 3, t, rfl, hL, hT, by decide, fun H1 s1 => ⟨_, rfl, ?_⟩⟩
     have e : ((List.range 3).any fun (k : Nat) => chainT xs (k : Int) t) = false := List.any_eq_false.mpr fun k hk => by rw [hF k (List.mem_range.mp hk)]; simp
     rw [e]
     refine ifP rfl ?_
     exact ⟨smallE (by simp), kE H1 s1⟩
   refine tSeq_cut (fun σ' H' => σ' = [some (.ref a), some (.ref b), none] ∧ Same H H') ?_ fun key => ?_
   rotate_left
   · refine ⟨_, rfl, _, rfl, _, _, rfl, rfl, a, .ref b, xs, 3, _, rfl, hL, thing_cK hb (by omega), by decide, fun H1 s1 => ⟨_, rfl, ?_⟩⟩
     have e : ((List.range 3).any fun (k : Nat) => chainT xs (k : Int) (.dk (cK ms))) = true := List.any_eq_true.mpr ⟨k0, List.mem_range.mpr hk0, by rw [chainT_cK]; exact hch⟩
     rw [e]
     refine ifN (by decide) ?_
     exact key _ _ ⟨rfl, s1⟩
   rintro _ H0 ⟨rfl, s0⟩
   have hb0 := s0 _ _ hb
   have k : newC H0 (shI xs.length ms) Q := fun D H' hD s' hD' => k D H' (s0.free hD) (s0.trans s') hD'
   refine tSeq_cut (fun σ' H' => σ' = [some (.ref a), some (.ref b), some (.int ((xs.length : Int) + 1))] ∧ H0 = H') ?_ fun key => ?_
   rotate_left
   · exact ⟨_, rfl, a, us, rfl, .inl (s0.seq hqa), _, _, rfl, rfl, key _ _ ⟨by rw [usl] <;> rfl, rfl⟩⟩
   rintro _ _ ⟨rfl, rfl⟩
   refine .inr ⟨b, cK ms, hb0, fun hnd o => ?_⟩
   refine ⟨_, rfl, b, o, cK ms, rfl, upd_same, fun D hD => ?_⟩
   obtain ⟨hD0, nDa⟩ := frz_free hD
   refine comp_items (d := b) (o := o) (kvs := cK ms) (fun i zs τ H1 => ∃ ts : List Addr, zs = ts.map V.ref ∧ ts.length = i ∧ (∀ (j : Nat) t, ts[j]? = some t → ∃ p : Int × Int, ms[j]? = some p ∧ H1 t = some (.tup [.int ((xs.length : Int) + 1 + p.1), .int p.2]) ∧ t ≠ D) ∧ H1 b = some (.frz o (.dK (cK ms))) ∧ H1 D = some (.lst zs) ∧ (∀ c q, c ≠ b → H0 c = some q → H1 c = some q) ∧ ∃ o1 o2, τ = [o1, o2, some (.int ((xs.length : Int) + 1))])
     ⟨[], rfl, rfl, (fun j t z => by simp at z), ?_, upd_same, ?_, none, none, rfl⟩ (fun i zs τ H1 _ ⟨_, _, _, _, e, _⟩ => e) ?_ ?_
   · rw [upd_ne nDa.symm]; exact upd_same
   · intro c q n1 e2
     rw [upd_ne (ne_of_none e2 hD0), upd_ne n1]
     exact e2
   · rintro i kk x zs τ H1 p hx ⟨ts, rfl, htl, hts, ha1, hD1, hk1, o1, o2, rfl⟩ hp
     obtain ⟨q, hq, rfl, rfl⟩ := cK_get hx
     have hlt : i < ms.length := (List.getElem?_eq_some_iff.mp hq).1
     have sp : Same H1 (upd H1 p (.tup [.int q.1, .int q.2])) := Same.new hp
     refine ⟨p, _, rfl, .of upd_same, rfl, _, _, rfl, _, _, rfl, rfl, ?_⟩
     refine ⟨_, rfl, _, rfl, _, _, rfl, rfl, _, rfl, smallE (by simp), fun t ht => ?_⟩
     have st := sp.trans (Same.new (o := .tup [.int ((xs.length : Int) + 1 + q.1), .int q.2]) ht)
     have ntD : t ≠ D := (ne_of_none (sp _ _ hD1) ht).symm
     refine ⟨st _ _ hD1, small (by rw [List.length_map]; omega), ts ++ [t], by simp, by simp [htl], fun j t' e2 => ?_, ?_, upd_same, fun c r n1 e2 => ?_, _, _, rfl⟩
     · rw [List.getElem?_append] at e2
       split at e2
       · obtain ⟨p', h1', h2', h3'⟩ := hts j t' e2
         exact ⟨p', h1', by rw [upd_ne h3']; exact st _ _ h2', h3'⟩
       · rename_i hj
         have hj0 : j - ts.length = 0 := by
           cases hz : j - ts.length with
           | zero => rfl
           | succ m => rw [hz] at e2; simp at e2
         rw [hj0] at e2
         have et : t = t' := by simpa using e2
         subst et
         refine ⟨q, by rw [show j = i by omega]; exact hq, ?_, ntD⟩
         rw [upd_ne ntD]
         exact upd_same
     · rw [upd_ne nDa.symm]; exact st _ _ ha1
     · have := hk1 c r n1 e2
       rw [upd_ne (fun z => by rw [z, hD0] at e2; cases e2)]
       exact st _ _ this
   · rintro zs τ H1 ⟨ts, rfl, htl, hts, ha1, hD1, hk1, _⟩
     rw [cK_len] at htl
     refine ⟨ha1, D, ts, cK (shI xs.length ms), rfl, (by rw [upd_ne nDa]; exact hD1), (by rw [cK_len, sh_len]; exact htl), fun i t e2 => ?_, fun E hE => ?_⟩
     · obtain ⟨p, h1', h2', _⟩ := hts i t e2
       refine ⟨(.inl ((xs.length : Int) + 1 + p.1), .int p.2), ?_, ?_⟩
       · unfold cK shI
         rw [List.getElem?_map, List.getElem?_map, h1']
         rfl
       · have nta : t ≠ b := ne_of h2' ha1 (fun z => by cases z)
         rw [upd_ne nta]
         exact h2'
     · have s1 : Same H0 (upd H1 b (.dK (cK ms))) := fun c q e2 => by
         by_cases z : c = b
         · subst z
           rw [hb0] at e2
           cases e2
           exact upd_same
         · rw [upd_ne z]; exact hk1 c q z e2
       refine k E _ (s1.free hE) (s1.trans (Same.new hE)) ?_
       rw [upd_same, mergeK_nodup _ [] (by rw [List.nil_append]; exact nodup_cK.mpr (nd_sh hndm)), List.nil_append]
noncomputable abbrev s_L_coned_told : Stmt := top 45
theorem sc_L_coned_told : FnScope ["_law_shape", "_law_thing", "_law_told", "e"] ["_law_shape", "_law_thing"] (defScope s_L_coned_told) := ⟨rfl, rfl, rfl, by decide +kernel, rfl, by decide +kernel, by decide +kernel⟩
theorem nd_L_coned_told : (["_law_shape", "_law_thing", "_law_told", "e"] : List Str).Nodup := by decide +kernel
theorem ok_L_coned_told {f : Addr} {fd : FuncData} (F : Fun K "_law_coned_told" "_law_coned_told" s_L_coned_told f fd) (T : Txt K mg C_HoleError C_NoShape C_NoChain C_NoGlue) (hx_coned : HasX P w K mg base "coned" ["shape", "chain"] 7 (sp_coned K C_NoChain)) : FnOk P w K mg base CX0 8 f fd ["_law_shape", "_law_thing"] (sp_L_coned_told K) := by
 refine F.ok sc_L_coned_told (fun vs H Q E h => ?_) (fun cdv A outer s H vs Q E hr h => ?_)
 · obtain ⟨a, x, xs, rfl, hL, hxl, alt⟩ := h
   rfl
 · obtain ⟨a, x, xs, rfl, hL, hxl, alt⟩ := h
   refine ⟨_, (pss_cons (ps_set (i := 2) nd_L_coned_told (by rfl) (by first | exact Or.inl rfl | exact Or.inr rfl) pe_non)
     (pss_cons (ps_try (fun _ _ => (pss_one (ps_set (i := 2) nd_L_coned_told (by rfl) (by first | exact Or.inl rfl | exact Or.inr rfl) (pe_callX flies_tried hx_coned hr (by rfl) (pa_cons (pv 0) (pa_cons (pv 1) pa_nil))))))
     (ph_as (i := 3) nd_L_coned_told (by rfl) (by rfl) (by rfl) T.m_NoChain T.k_NoChain (fun _ => (pss_one (ps_set (i := 2) nd_L_coned_told (by rfl) (by first | exact Or.inl rfl | exact Or.inr rfl) (pe_tup (pa_cons (pe_callB (kcall_isiX (K := K)) (by rfl) T.n_isinstance boot_isinstanceB (pa_cons (pv 3) (pa_cons (pe_glob (v := .ref C_HoleError) (by rfl) T.m_HoleError rfl) pa_nil))) (pa_cons (pe_callB (kcall_isiX (K := K)) (by rfl) T.n_isinstance boot_isinstanceB (pa_cons (pv 3) (pa_cons (pe_glob (v := .ref C_NoGlue) (by rfl) T.m_NoGlue rfl) pa_nil))) (pa_cons (pe_callB (kcall_isiX (K := K)) (by rfl) T.n_isinstance boot_isinstanceB (pa_cons (pv 3) (pa_cons (pe_glob (v := .ref C_NoShape) (by rfl) T.m_NoShape rfl) pa_nil))) pa_nil)))))))
     ph_none))
     (pss_one (ps_ret (pv 2))))), ?_⟩
   refine ⟨_, rfl, _, rfl, a, x, xs, rfl, hL, hxl, ?_⟩
   rcases alt with ⟨b, ms, ex, hb, hndm, hml, hk, k⟩ | ⟨hT, kE⟩
   · exact .inl ⟨b, ms, ex, hb, hndm, hml, hk, fun D H1 hD s1 hD1 => ⟨_, rfl, k D H1 hD s1 hD1⟩⟩
   · refine .inr ⟨hT, fun H1 s1 => ?_⟩
     refine ⟨C_NoChain, true, rfl, T.s_NoChain_NoChain, ?_⟩
     refine ifP rfl fun e he1 => ?_
     have g1 : Same H1 (upd H1 e (excO e (.ref C_NoChain))) := Same.new he1
     refine ⟨_, rfl, e, C_NoChain, _, _, _, rfl, rfl, ref_only, upd_same, T.x_NoChain, T.i_NoChain_HoleError, _, rfl, e, C_NoChain, _, _, _, rfl, rfl, ref_only, upd_same, T.x_NoChain, T.i_NoChain_NoGlue, _, rfl, e, C_NoChain, _, _, _, rfl, rfl, ref_only, upd_same, T.x_NoChain, T.i_NoChain_NoShape, smallE (by simp), fun M hM => ?_⟩
     exact ⟨_, rfl, kE M _ ((s1.trans g1).trans (Same.new hM)) upd_same⟩
noncomputable abbrev s_law : Stmt := top 46
theorem sc_law : FnScope ["_law_script", "_law_bits", "_law_many", "_law_most", "_law_cells", "_law_shape", "_law_level", "_law_spots", "_law_chain", "_law_handed", "_law_due", "_law_turn", "_law_found", "_law_spoilt_here"] ["_law_script"] (defScope s_law) := ⟨rfl, rfl, rfl, by decide +kernel, rfl, by decide +kernel, by decide +kernel⟩
theorem nd_law : (["_law_script", "_law_bits", "_law_many", "_law_most", "_law_cells", "_law_shape", "_law_level", "_law_spots", "_law_chain", "_law_handed", "_law_due", "_law_turn", "_law_found", "_law_spoilt_here"] : List Str).Nodup := by decide +kernel
theorem ok_law {f : Addr} {fd : FuncData} (F : Fun K "law" "law" s_law f fd) (T : Txt K mg C_HoleError C_NoShape C_NoChain C_NoGlue) (h_L_cell_at : Has P w K mg base "_law_cell_at" ["_law_script", "_law_k"] 1 (sp_L_cell_at K)) (h_L_shape_by : Has P w K mg base "_law_shape_by" ["_law_kind", "_law_cells", "_law_most"] 3 (sp_L_shape_by K)) (h_L_spots_of : Has P w K mg base "_law_spots_of" ["_law_shape", "_law_k"] 1 (sp_L_spots_of K)) (h_L_chain_by : Has P w K mg base "_law_chain_by" ["_law_spots", "_law_cells"] 2 (sp_L_chain_by K)) (h_L_cone_by : Has P w K mg base "_law_cone_by" ["_law_shape"] 1 (sp_L_cone_by K)) (h_L_spoilt : Has P w K mg base "_law_spoilt" ["_law_shape", "_law_spots", "_law_chain", "_law_cell"] 1 (sp_L_spoilt K)) (h_L_coned_told : Has P w K mg base "_law_coned_told" ["_law_shape", "_law_thing"] 8 (sp_L_coned_told K)) (h_L_turned_order : Has P w K mg base "_law_turned_order" ["_law_shape", "_law_cells"] 1 (sp_L_turned_order K)) (h_L_chain_like : Has P w K mg base "_law_chain_like" ["_law_found", "_law_due"] 2 (sp_L_chain_like K)) (h_L_cone_told : Has P w K mg base "_law_cone_told" ["_law_shape"] 4 (sp_L_cone_told K)) (h_L_coned_by : Has P w K mg base "_law_coned_by" ["_law_shape", "_law_chain"] 1 (sp_L_coned_by K)) (h_L_border_by : Has P w K mg base "_law_border_by" ["_law_shape", "_law_chain"] 2 (sp_L_border_by5 K)) (h_L_edge_by : Has P w K mg base "_law_edge_by" ["_law_shape", "_law_chain", "_law_level"] 3 (sp_L_edge_by K)) (h_L_shape_like : Has P w K mg base "_law_shape_like" ["_law_found", "_law_due"] 2 (sp_L_shape_like K)) : FnOk P w K mg base CX0 9 f fd ["_law_script"] (sp_law K) := by
 refine F.ok sc_law (fun vs H Q E h => ?_) (fun cdv A outer s H vs Q E hr h => ?_)
 · obtain ⟨a, ns, rfl, hS, hl, k⟩ := h
   rfl
 · obtain ⟨a, ns, rfl, hS, hl, k⟩ := h
   have hu8 : (A.deeper (PyProof.Rows.envOfC "law" (defScope s_law) s.heap.objs.size f cdv)).units + 8 < cLine := by have := hr.units; omega
   refine ⟨_, (pss_cons (ps_set (i := 1) nd_law (by rfl) (by first | exact Or.inl rfl | exact Or.inr rfl) (pe_callH h_L_cell_at hr (by rfl) (pa_cons (pv 0) (pa_cons pe_int pa_nil))))
     (pss_cons (ps_set (i := 2) nd_law (by rfl) (by first | exact Or.inl rfl | exact Or.inr rfl) (pe_op op_add pe_int (pe_op op_mod (pv 1) pe_int)))
     (pss_cons (ps_set (i := 3) nd_law (by rfl) (by first | exact Or.inl rfl | exact Or.inr rfl) pe_int)
     (pss_cons (ps_if (pt_cmpR op_eq (pe_op op_mod (pe_op op_fdiv (pv 1) pe_int) pe_int) pe_int (nomark _)) (pss_one (ps_set (i := 3) nd_law (by rfl) (by first | exact Or.inl rfl | exact Or.inr rfl) pe_int)) pss_nil)
     (pss_cons (ps_set (i := 4) nd_law (by rfl) (by first | exact Or.inl rfl | exact Or.inr rfl) (pe_slice (ksl_list (K := K)) (pv 0) (po_some pe_int) (po_some (pe_op op_add pe_int (pv 2)))))
     (pss_cons (ps_if (pt_cmpR op_eq (pe_op op_mod (pe_op op_fdiv (pv 1) pe_int) pe_int) pe_int (nomark _)) (pss_one (ps_setC (N' := ["_law_cell"]) (cap := [none]) (i := 4) nd_law (by rfl) (by first | exact Or.inl rfl | exact Or.inr rfl) (by rfl) (by kernel_rfl) (kpi_list (K := K) (pv 4)) (fun _ _ _ _ => (pg_name (i := 0) ndc_16 (by rfl) (by first | exact Or.inl rfl | exact Or.inr rfl))) (fun _ _ _ _ => pts_nil) (fun _ _ _ _ => (pe_op op_add (pe_op op_mulX (pe_op op_fdiv (pv 0) pe_int) pe_int) (pe_op op_mod (pv 0) pe_int))))) pss_nil)
     (pss_cons (ps_set (i := 5) nd_law (by rfl) (by first | exact Or.inl rfl | exact Or.inr rfl) (pe_callH h_L_shape_by hr (by rfl) (pa_cons (pe_callH h_L_cell_at hr (by rfl) (pa_cons (pv 0) (pa_cons pe_int pa_nil))) (pa_cons (pv 4) (pa_cons (pv 3) pa_nil)))))
     (pss_cons (ps_set (i := 5) nd_law (by rfl) (by first | exact Or.inl rfl | exact Or.inr rfl) (pe_ix (kix_tup (K := K)) (pe_callH h_L_turned_order hr (by rfl) (pa_cons (pv 5) (pa_cons (pe_slice (ksl_list (K := K)) (pv 0) (po_some pe_int) (po_some pe_int)) pa_nil))) pe_int (fun _ _ => rfl)))
     (pss_cons (ps_if (pt_cmpR op_eq (pe_op op_mod (pe_callH h_L_cell_at hr (by rfl) (pa_cons (pv 0) (pa_cons pe_int pa_nil))) pe_int) pe_int (nomark _)) (pss_one (ps_set (i := 5) nd_law (by rfl) (by first | exact Or.inl rfl | exact Or.inr rfl) (pe_op (kop_catLW (K := K)) (pv 5) (pe_comp (N' := ["_law_k"]) (cap := [none]) (by rfl) (by kernel_rfl) (pi_range1 (by rfl) T.n_range (pa_cons (pe_op op_sub (pe_op op_add pe_int (pe_op op_mod (pe_op op_fdiv (pe_callH h_L_cell_at hr (by rfl) (pa_cons (pv 0) (pa_cons pe_int pa_nil))) pe_int) pe_int)) (pe_callB (kcall_len_seq (K := K)) (by rfl) T.n_len PySem.boot_len (pa_cons (pv 5) pa_nil))) pa_nil)) (fun _ _ _ _ => (pg_name (i := 0) ndc_15 (by rfl) (by first | exact Or.inl rfl | exact Or.inr rfl))) (fun _ _ _ _ => pts_nil) (fun _ _ _ _ => (pe_tup pa_nil)))))) pss_nil)
     (pss_cons (ps_set (i := 6) nd_law (by rfl) (by first | exact Or.inl rfl | exact Or.inr rfl) (pe_op op_mod (pe_callH h_L_cell_at hr (by rfl) (pa_cons (pv 0) (pa_cons pe_int pa_nil))) pe_int))
     (pss_cons (ps_set (i := 7) nd_law (by rfl) (by first | exact Or.inl rfl | exact Or.inr rfl) (pe_callH h_L_spots_of hr (by rfl) (pa_cons (pv 5) (pa_cons (pv 6) pa_nil))))
     (pss_cons (ps_set (i := 8) nd_law (by rfl) (by first | exact Or.inl rfl | exact Or.inr rfl) (pe_callH h_L_chain_by hr (by rfl) (pa_cons (pv 7) (pa_cons (pe_slice (ksl_list (K := K)) (pv 0) (po_some (pe_op op_add pe_int (pv 2))) (po_some (pe_op op_add pe_int (pv 2)))) pa_nil))))
     (pss_cons (ps_set (i := 9) nd_law (by rfl) (by first | exact Or.inl rfl | exact Or.inr rfl) (pe_lst (pa_cons (pe_callTy (kcall_list_of (K := K)) (by rfl) T.n_list boot_listT (pa_cons (pv 5) pa_nil)) (pa_cons (pe_callTy call_dictC (by rfl) T.n_dict boot_dictT (pa_cons (pv 8) pa_nil)) pa_nil))))
     (pss_cons (ps_set (i := 10) nd_law (by rfl) (by first | exact Or.inl rfl | exact Or.inr rfl) (pe_callH h_L_cone_by hr (by rfl) (pa_cons (pv 5) pa_nil)))
     (pss_cons (ps_if (pt_cmpR op_gt (pe_callB (kcall_len_seq (K := K)) (by rfl) T.n_len PySem.boot_len (pa_cons (pe_callH h_L_spots_of hr (by rfl) (pa_cons (pv 5) (pa_cons pe_int pa_nil))) pa_nil)) pe_int (nomark _)) (pss_one (ps_if (pt_cmpR (kop_neD (K := K) hu8) (pe_callH h_L_cone_told hr (by rfl) (pa_cons (pe_ix (kix_list (K := K)) (pv 9) pe_int (fun _ _ => rfl)) pa_nil)) (pe_tup (pa_cons pe_bl (pa_cons pe_bl pa_nil))) (nomark _)) (pss_one (ps_ret pe_bl)) pss_nil)) (pss_one (ps_if (pt_cmpR op_gt (pe_callB (kcall_len_seq (K := K)) (by rfl) T.n_len PySem.boot_len (pa_cons (pv 10) pa_nil)) pe_int (nomark _)) (pss_one (ps_if (pt_cmpR (kop_neD (K := K) hu8) (pe_callH h_L_cone_told hr (by rfl) (pa_cons (pe_ix (kix_list (K := K)) (pv 9) pe_int (fun _ _ => rfl)) pa_nil)) (pe_tup (pa_cons pe_bl (pa_cons pe_bl pa_nil))) (nomark _)) (pss_one (ps_ret pe_bl)) pss_nil)) (pss_one (ps_for PassesOwn.never rfl (pi_range1 (by rfl) T.n_range (pa_cons pe_int pa_nil)) (pg_name (i := 11) nd_law (by rfl) (by first | exact Or.inl rfl | exact Or.inr rfl)) (pss_cons (ps_set (i := 12) nd_law (by rfl) (by first | exact Or.inl rfl | exact Or.inr rfl) (pe_callH h_L_cone_told hr (by rfl) (pa_cons (pe_ix (kix_list (K := K)) (pv 9) pe_int (fun _ _ => rfl)) pa_nil)))
     (pss_cons (ps_if (pt_not (pt_val (pe_callH h_L_shape_like hr (by rfl) (pa_cons (pv 12) (pa_cons (pv 10) pa_nil))))) (pss_one (ps_ret pe_bl)) pss_nil)
     (pss_one (ps_expr (kpe_bm (K := K) PySem.F.plainAttrs_list PySem.F.slot_list_append PySem.F.type_list_append mt_append (pv 12) (pa_cons (pe_tup pa_nil) pa_nil)))))))))))
     (pss_cons (ps_set (i := 13) nd_law (by rfl) (by first | exact Or.inl rfl | exact Or.inr rfl) (pe_callH h_L_spoilt hr (by rfl) (pa_cons (pv 5) (pa_cons (pv 7) (pa_cons (pv 8) (pa_cons (pe_callH h_L_cell_at hr (by rfl) (pa_cons (pv 0) (pa_cons pe_int pa_nil))) pa_nil))))))
     (pss_cons (ps_if (pt_cmpR (kop_neD (K := K) hu8) (pe_callH h_L_coned_told hr (by rfl) (pa_cons (pe_ix (kix_list (K := K)) (pv 9) pe_int (fun _ _ => rfl)) (pa_cons (pv 13) pa_nil))) (pe_tup (pa_cons pe_bl (pa_cons pe_bl (pa_cons pe_bl pa_nil)))) (nomark _)) (pss_one (ps_ret pe_bl)) pss_nil)
     (pss_cons (ps_set (i := 12) nd_law (by rfl) (by first | exact Or.inl rfl | exact Or.inr rfl) (pe_callH h_L_coned_told hr (by rfl) (pa_cons (pe_ix (kix_list (K := K)) (pv 9) pe_int (fun _ _ => rfl)) (pa_cons (pe_ix (kix_list (K := K)) (pv 9) pe_int (fun _ _ => rfl)) pa_nil))))
     (pss_cons (ps_if (PW.pt (pw_and (pt_cmpR op_eq (pv 6) pe_int (nomark _)) (pw_and1 (pt_cmpR op_gt (pe_callB call_lenD (by rfl) T.n_len PySem.boot_len (pa_cons (pv 8) pa_nil)) pe_int (nomark _))))) (pss_one (ps_ret (pe_and (pe_cmpR (kop_eqD (K := K) hu8) (pv 12) (pe_tup (pa_cons pe_bl (pa_cons pe_bl (pa_cons pe_bl pa_nil)))) (nomark _)) (pe_one (pe_cmpR (kop_eqMix (K := K) hu8) (pv 9) (pe_lst (pa_cons (pv 5) (pa_cons (pv 8) pa_nil))) (nomark _)))))) pss_nil)
     (pss_cons (ps_if (pt_not (pt_val (pe_callH h_L_chain_like hr (by rfl) (pa_cons (pv 12) (pa_cons (pe_callH h_L_coned_by hr (by rfl) (pa_cons (pv 5) (pa_cons (pv 8) pa_nil))) pa_nil))))) (pss_one (ps_ret pe_bl)) pss_nil)
     (pss_one (ps_ret (pe_and (pe_cmpR (op_eqC (n := 8) hu8) (pe_callH h_L_border_by hr (by rfl) (pa_cons (pv 10) (pa_cons (pv 12) pa_nil))) (pe_callH h_L_edge_by hr (by rfl) (pa_cons (pv 5) (pa_cons (pv 8) (pa_cons (pv 6) pa_nil)))) (nomark _)) (pe_one (pe_cmpR (kop_eqMix (K := K) hu8) (pv 9) (pe_lst (pa_cons (pv 5) (pa_cons (pv 8) pa_nil))) (nomark _)))))))))))))))))))))))))), ?_⟩
   refine tSeq_cut (fun σ' H' => ∃ bits : Int, σ' = [some (.ref a), some (.int bits), none, none, none, none, none, none, none, none, none, none, none, none] ∧ H = H') ?_ fun key => ?_
   rotate_left
   · exact ⟨_, rfl, a, ns, 1, rfl, hS, by decide, hl, key _ _ ⟨_, rfl, rfl⟩⟩
   rintro _ _ ⟨bits, rfl, rfl⟩
   refine tSeq_cut (fun σ' H' => ∃ many : Int, σ' = [some (.ref a), some (.int bits), some (.int many), none, none, none, none, none, none, none, none, none, none, none] ∧ H = H' ∧ 0 ≤ many ∧ many ≤ 63) ?_ fun key => ?_
   rotate_left
   · refine ⟨_, rfl, _, _, rfl, rfl, (by show (0 : Int) < 20; decide), _, _, rfl, rfl, ?_⟩
     have q0 : 0 ≤ bits % 20 := Int.emod_nonneg _ (by decide)
     have q1 : bits % 20 < 20 := Int.emod_lt_of_pos _ (by decide)
     exact key _ _ ⟨_, rfl, rfl, by omega, by omega⟩
   rintro _ _ ⟨many, rfl, rfl, hmn0, hmn1⟩
   refine tSeq_cut (fun σ' H' => σ' = [some (.ref a), some (.int bits), some (.int many), some (.int 10), none, none, none, none, none, none, none, none, none, none] ∧ H = H') ?_ fun key0 => key0 _ _ ⟨rfl, rfl⟩
   rintro _ _ ⟨rfl, rfl⟩
   refine tSeq_cut (fun σ' H' => ∃ most : Int, σ' = [some (.ref a), some (.int bits), some (.int many), some (.int most), none, none, none, none, none, none, none, none, none, none] ∧ H = H' ∧ 0 ≤ most ∧ most ≤ 24) ?_ fun key => ?_
   rotate_left
   · refine ⟨_, rfl, _, _, rfl, rfl, ⟨by decide, by decide⟩, _, _, rfl, rfl, (by show (0 : Int) < 2; decide), rfl, _, rfl, ?_⟩
     exact ite2 (fun _ => key _ _ ⟨24, rfl, rfl, by decide, by decide⟩) (fun _ => key _ _ ⟨10, rfl, rfl, by decide, by decide⟩)
   rintro _ _ ⟨most, rfl, rfl, hm0, hm1⟩
   refine tSeq_cut (fun σ' H' => ∃ (cs : Addr) (ks : List Int), σ' = [some (.ref a), some (.int bits), some (.int many), some (.int most), some (.ref cs), none, none, none, none, none, none, none, none, none] ∧ Same H H' ∧ H' cs = some (.lst (ks.map V.int)) ∧ ks.length ≤ 63) ?_ fun key => ?_
   rotate_left
   · refine ⟨_, rfl, _, rfl, _, rfl, _, _, rfl, rfl, _, rfl, a, _, rfl, hS, fun C hC => ?_⟩
     have hcl := cutS_len ns (some 4) (some (4 + many))
     exact key _ _ ⟨C, cutS ns (some 4) (some (4 + many)), rfl, Same.new hC, by rw [← cutV_map]; exact upd_same, by omega⟩
   rintro _ H0 ⟨cs0, ks0, rfl, s0, hcs0, hks0⟩
   have hS0 := s0.seq hS
   refine tSeq_cut (fun σ' H' => ∃ (cs : Addr) (ks : List Int), σ' = [some (.ref a), some (.int bits), some (.int many), some (.int most), some (.ref cs), none, none, none, none, none, none, none, none, none] ∧ Same H0 H' ∧ H' cs = some (.lst (ks.map V.int)) ∧ ks.length ≤ 63) ?_ fun key => ?_
   rotate_left
   · refine ⟨_, rfl, _, _, rfl, rfl, ⟨by decide, by decide⟩, _, _, rfl, rfl, (by show (0 : Int) < 2; decide), rfl, _, rfl, ?_⟩
     refine ite2 (fun _ => ?_) (fun _ => ?_)
     rotate_left
     · exact key _ _ ⟨cs0, ks0, rfl, Same.refl _, hcs0, hks0⟩
     refine ⟨_, rfl, cs0, rfl, ⟨_, .of hcs0⟩, fun D hD => ?_⟩
     refine comp_list0 (K := K) (a := cs0) (xs := ks0.map V.int) (fun i ys τ G => Same H0 G ∧ G D = some (.lst ys) ∧ (∃ zs : List Int, ys = zs.map V.int ∧ zs.length = i) ∧ ∃ o, τ = [o])
       ⟨Same.new hD, upd_same, ⟨[], rfl, rfl⟩, none, rfl⟩ (fun i ys τ G _ ⟨g, _⟩ => .of (g _ _ hcs0)) ?_ ?_
     · rintro i y ys τ G hy ⟨g, hDG, ⟨zs, rfl, hzl⟩, o, rfl⟩
       have hi : i < ks0.length := by have := (List.getElem?_eq_some_iff.mp hy).1; simpa using this
       have hyv : y = .int ks0[i] := by
         rw [List.getElem?_map, List.getElem?_eq_getElem hi] at hy
         simpa using hy.symm
       subst hyv
       refine ⟨_, rfl, _, _, rfl, rfl, ⟨by decide, by decide⟩, _, _, rfl, rfl, mulokR (by decide) (by decide), _, rfl, _, _, rfl, rfl, (by show (0 : Int) < 3; decide), _, _, rfl, rfl, hDG, small (by rw [List.length_map]; omega), g.turn hD, upd_same, ⟨zs ++ [ks0[i] / 4 * 4 + ks0[i] % 3], by rw [List.map_append]; rfl, by rw [List.length_append, hzl]; rfl⟩, _, rfl⟩
     · rintro ys τ G ⟨g, hDG, ⟨zs, rfl, hzl⟩, _⟩
       rw [List.length_map] at hzl
       exact key _ _ ⟨D, zs, rfl, g, hDG, by omega⟩
   rintro _ H1 ⟨cs, ks, rfl, s1, hcs, hks⟩
   have hS1 := s1.seq hS0
   refine tSeq_cut (fun σ' H' => ∃ (p : Addr) (us : List V) (xs : List (List Int)), σ' = [some (.ref a), some (.int bits), some (.int many), some (.int most), some (.ref cs), some (.ref p), none, none, none, none, none, none, none, none] ∧ Same H1 H' ∧ H' p = some (.lst us) ∧ Reps K H' us (xs.map tI) ∧ IsShape xs ∧ xs.length ≤ 24) ?_ fun key => ?_
   rotate_left
   · exact ⟨_, rfl, a, ns, 0, rfl, hS1, by decide, hl, _, rfl, _, rfl, cs, ks, _, most, rfl, .of hcs, hks, hm0, by omega, fun p us H2 xs hp s2 hp2 r2 hsh hxl => key _ _ ⟨p, us, xs, rfl, s2, hp2, r2, hsh, by omega⟩⟩
   rintro _ H2 ⟨p1, us1, xs1, rfl, s2, hp1, r1, hsh1, hxl1⟩
   have hS2 := s2.seq hS1
   refine tSeq_cut (fun σ' H' => ∃ (p : Addr) (us : List V) (xs : List (List Int)), σ' = [some (.ref a), some (.int bits), some (.int many), some (.int most), some (.ref cs), some (.ref p), none, none, none, none, none, none, none, none] ∧ Same H2 H' ∧ H' p = some (.lst us) ∧ Reps K H' us (xs.map tI) ∧ Good xs ∧ xs.length ≤ 24) ?_ fun key => ?_
   rotate_left
   · refine ⟨_, rfl, _, rfl, _, rfl, _, rfl, a, _, rfl, hS2, fun C hC => ?_⟩
     have sC : Same H2 (upd H2 C (.lst (cutV (ns.map V.int) (some 4) (some 24)))) := Same.new hC
     have hcl := cutS_len ns (some 4) (some 24)
     refine ⟨p1, C, cutS ns (some 4) (some 24), xs1, rfl, ⟨p1, us1, rfl, .of (sC _ _ hp1), Reps.same sC r1⟩, ?_, by omega, by omega, shape_le4 hsh1, fun R p o us ys os H3 s3 hR hp ho hp3 ho3 r3 ht => ?_⟩
     · rw [← cutV_map]
       exact .of upd_same
     exact ⟨R, _, _, .ref p, rfl, rfl, .of hR, rfl, key _ _ ⟨p, us, ys, rfl, sC.trans s3, hp3, r3, Good.of (ht.shape hsh1), by rw [ht.len.1]; exact hxl1⟩⟩
   rintro _ H3 ⟨p2, us2, xs2, rfl, s3, hp2, r2, hgd2, hxl2⟩
   have hS3 := s3.seq hS2
   clear r1 hp1 hcs
   refine tSeq_cut (fun σ' H' => ∃ (p : Addr) (us : List V) (xs : List (List Int)), σ' = [some (.ref a), some (.int bits), some (.int many), some (.int most), some (.ref cs), some (.ref p), none, none, none, none, none, none, none, none] ∧ Same H3 H' ∧ H' p = some (.lst us) ∧ Reps K H' us (xs.map tI) ∧ Good xs ∧ xs.length ≤ 63) ?_ fun key => ?_
   rotate_left
   · refine ⟨_, rfl, a, ns, 3, rfl, hS3, by decide, hl, _, _, rfl, rfl, (by show (0 : Int) < 3; decide), rfl, _, rfl, ?_⟩
     refine ite2 (fun _ => ?_) (fun _ => ?_)
     rotate_left
     · exact key _ _ ⟨p2, us2, xs2, rfl, Same.refl _, hp2, r2, hgd2, by omega⟩
     have usl2 : us2.length = xs2.length := by have := r2.length; simpa using this
     refine ⟨_, rfl, _, rfl, a, ns, 3, rfl, hS3, by decide, hl, _, _, rfl, rfl, ⟨by decide, by decide⟩, _, _, rfl, rfl, (by show (0 : Int) < 2; decide), _, _, rfl, rfl, _, rfl, p2, us2, rfl, .inl (.of hp2), _, _, rfl, rfl, ?_⟩
     have q0 : 0 ≤ cellAt ns 3 / 3 % 2 := Int.emod_nonneg _ (by decide)
     have q1 : cellAt ns 3 / 3 % 2 < 2 := Int.emod_lt_of_pos _ (by decide)
     generalize cellAt ns 3 / 3 % 2 = q at q0 q1
     refine ⟨_, rfl, by omega, by omega, fun D hD => ?_⟩
     refine comp_range0 (fun i zs τ G => Same H3 G ∧ G D = some (.lst zs) ∧ Reps K G zs ((List.replicate i []).map tI) ∧ ∃ o, τ = [o])
       ⟨Same.new hD, upd_same, rfl, none, rfl⟩ ?_ ?_
     · rintro i zs τ G hi ⟨g, hDG, rG, o, rfl⟩
       refine ⟨Nat.zero_le _, fun T hT => ?_⟩
       have sT : Same G (upd G T (.tup [])) := Same.new hT
       have eT : (upd G T (.tup [])) T = some (.tup []) := upd_same
       generalize upd G T (.tup []) = G1 at sT eT
       refine ⟨sT _ _ hDG, small (by have := rG.length; rw [this, List.length_map, List.length_replicate]; omega), (g.trans sT).turn hD, upd_same, ?_, _, rfl⟩
       rw [List.replicate_succ']
       exact push_TI (sT _ _ hDG) (Reps.same sT rG) (TI.mk (.of eT))
     · rintro zs τ G ⟨g, hDG, rG, _⟩
       have zl := rG.length
       rw [List.length_map, List.length_replicate] at zl
       rw [← zl] at rG
       refine ⟨p2, D, us2, zs, rfl, rfl, .of (g _ _ hp2), .of hDG, smallE (by omega), fun C hC => ?_⟩
       refine key _ _ ⟨C, _, xs2 ++ List.replicate zs.length [], rfl, g.trans (Same.new hC), upd_same, ?_, hgd2.pts _, ?_⟩
       · rw [List.map_append]
         exact Reps.append (Reps.same (g.trans (Same.new hC)) r2) (Reps.same (Same.new hC) rG)
       · rw [List.length_append, List.length_replicate]
         omega
   rintro _ H4 ⟨p, us, xs, rfl, s4, hp4, r4, hgd, hxl⟩
   have hS4 := s4.seq hS3
   clear r2 hp2 hgd2 hxl2
   have usl : us.length = xs.length := by have := r4.length; simpa using this
   have hcn := hgd.cnt
   refine tSeq_cut (fun σ' H' => ∃ lv : Int, σ' = [some (.ref a), some (.int bits), some (.int many), some (.int most), some (.ref cs), some (.ref p), some (.int lv), none, none, none, none, none, none, none] ∧ H4 = H' ∧ 0 ≤ lv ∧ lv < 4) ?_ fun key => ?_
   rotate_left
   · refine ⟨_, rfl, a, ns, 2, rfl, hS4, by decide, hl, _, _, rfl, rfl, (by show (0 : Int) < 4; decide), ?_⟩
     exact key _ _ ⟨_, rfl, rfl, Int.emod_nonneg _ (by decide), Int.emod_lt_of_pos _ (by decide)⟩
   rintro _ _ ⟨lv, rfl, rfl, lv0, lv4⟩
   refine tSeq_cut (fun σ' H' => ∃ ps : Addr, σ' = [some (.ref a), some (.int bits), some (.int many), some (.int most), some (.ref cs), some (.ref p), some (.int lv), some (.ref ps), none, none, none, none, none, none] ∧ Same H4 H' ∧ H' ps = some (.lst ((spots xs lv).map V.int))) ?_ fun key => ?_
   rotate_left
   · exact ⟨_, rfl, _, rfl, p, xs, _, rfl, ⟨p, us, rfl, .of hp4, r4⟩, lv0, by omega, by omega, fun D H' hD s' hD' => key _ _ ⟨D, rfl, s', hD'⟩⟩
   rintro _ H5 ⟨ps, rfl, s5, hps⟩
   have spl : (spots xs lv).length ≤ 1000 := Nat.le_trans (spN_len _ _ _) (by omega)
   have hS5 := s5.seq hS4
   refine tSeq_cut (fun σ' H' => ∃ (e : Addr) (ms : Ms), σ' = [some (.ref a), some (.int bits), some (.int many), some (.int most), some (.ref cs), some (.ref p), some (.int lv), some (.ref ps), some (.ref e), none, none, none, none, none] ∧ Same H5 H' ∧ H' e = some (.dK (cK ms)) ∧ nd ms ∧ nz ms ∧ (∀ q ∈ ms, q.1 ∈ spots xs lv ∧ q.2.natAbs < 2 ^ 70) ∧ ms.length ≤ 63) ?_ fun key => ?_
   rotate_left
   · refine ⟨_, rfl, _, rfl, _, rfl, _, _, rfl, rfl, _, rfl, _, rfl, _, _, rfl, rfl, _, rfl, a, _, rfl, hS5, fun C hC => ?_⟩
     have sC : Same H5 (upd H5 C (.lst (cutV (ns.map V.int) (some (4 + many)) (some (15 + many))))) := Same.new hC
     have hcl := cutS_len ns (some (4 + many)) (some (15 + many))
     refine ⟨ps, C, spots xs lv, cutS ns (some (4 + many)) (some (15 + many)), rfl, .of (sC _ _ hps), ?_, spl, by omega, fun D H' ms hD s' hD' b1 b2 b3 b4 => ?_⟩
     · rw [← cutV_map]
       exact .of upd_same
     · exact key _ _ ⟨D, ms, rfl, sC.trans s', hD', b1, b2, b3, b4⟩
   rintro _ H6 ⟨e, ms, rfl, s6, he6, ndm, nzm, inm, lnm⟩
   have hS6 := s6.seq hS5
   have hp6 := (s5.trans s6) _ _ hp4
   have r6 := Reps.same (s5.trans s6) r4
   have hps6 := s6 _ _ hps
   have insp : ∀ q ∈ ms, q.1 ∈ spots xs lv := fun q hq => (inm q hq).1
   obtain ⟨hchain, hlev⟩ := chain_of_spotsC hcn lv0 nzm insp
   clear r4 hp4 hps
   refine tSeq_cut (fun σ' H' => ∃ (c0 c1 h : Addr), σ' = [some (.ref a), some (.int bits), some (.int many), some (.int most), some (.ref cs), some (.ref p), some (.int lv), some (.ref ps), some (.ref e), some (.ref h), none, none, none, none] ∧ Same H6 H' ∧ H' c0 = some (.lst us) ∧ H' c1 = some (.dK (cK ms)) ∧ H' h = some (.lst [.ref c0, .ref c1])) ?_ fun key => ?_
   rotate_left
   · refine ⟨_, rfl, p, us, rfl, .inl (.of hp6), fun c0 hc0 => ?_⟩
     have sG0 : Same H6 (upd H6 c0 (.lst us)) := Same.new hc0
     have eG0 : upd H6 c0 (.lst us) c0 = some (.lst us) := upd_same
     generalize upd H6 c0 (.lst us) = G0 at sG0 eG0
     refine ⟨_, rfl, e, _, rfl, .inl (sG0 _ _ he6), fun c1 hc1 => ⟨smallE (by simp), fun h hh => ?_⟩⟩
     have g1 : Same G0 (upd G0 c1 (.dK (cK ms))) := Same.new hc1
     have f1 : (upd G0 c1 (.dK (cK ms))) c1 = some (.dK (cK ms)) := upd_same
     generalize upd G0 c1 (.dK (cK ms)) = G1 at g1 f1 hh
     have g2 : Same G1 (upd G1 h (.lst [.ref c0, .ref c1])) := Same.new hh
     exact key _ _ ⟨c0, c1, h, rfl, (sG0.trans g1).trans g2, (g1.trans g2) _ _ eG0, g2 _ _ f1, upd_same⟩
   rintro _ H7 ⟨c0, c1, h, rfl, s7, hc0, hc1, hh⟩
   refine tSeq_cut (fun σ' H' => ∃ (d : Addr) (vs : List V), σ' = [some (.ref a), some (.int bits), some (.int many), some (.int most), some (.ref cs), some (.ref p), some (.int lv), some (.ref ps), some (.ref e), some (.ref h), some (.ref d), none, none, none] ∧ Same H7 H' ∧ H' d = some (.lst vs) ∧ Reps K H' vs ((cnX xs).map tI)) ?_ fun key => ?_
   rotate_left
   · exact ⟨_, rfl, p, xs, rfl, ⟨p, us, rfl, .of (s7 _ _ hp6), Reps.same s7 r6⟩, by omega, cnt_le4 hcn, fun d vs H8 hd s8 hd8 r8 => key _ _ ⟨d, vs, rfl, s8, hd8, r8⟩⟩
   rintro _ H8 ⟨d, vs, rfl, s8, hd8, r8⟩
   have vsl : vs.length = 2 * xs.length + 1 := by have := r8.length; rw [this, List.length_map, cnX_len]
   have s68 := s7.trans s8
   have hS8 := s68.seq hS6
   have hp8 := s68 _ _ hp6
   have he8 := s68 _ _ he6
   have hps8 := s68 _ _ hps6
   have ru8 := Reps.same s68 r6
   have hc08 := s8 _ _ hc0
   have hc18 := s8 _ _ hc1
   have hh8 := s8 _ _ hh
   have hLc : LT K H8 (.ref c0) xs := ⟨c0, us, rfl, .of hc08, ru8⟩
   have hLp : LT K H8 (.ref p) xs := ⟨p, us, rfl, .of hp8, ru8⟩
   have hLd : LT K H8 (.ref d) (cnX xs) := ⟨d, vs, rfl, .of hd8, r8⟩
   have e3 : spots xs 3 = plc xs 3 := spots_plcC hcn (by decide)
   clear r6 hc0 hc1 hh hps6 he6 hp6 s7 s8 s68
   refine tSeq_cut (fun σ' H' => ∃ (o1 o2 : Option V), σ' = [some (.ref a), some (.int bits), some (.int many), some (.int most), some (.ref cs), some (.ref p), some (.int lv), some (.ref ps), some (.ref e), some (.ref h), some (.ref d), o1, o2, none] ∧ Same H8 H') ?_ fun key => ?_
   rotate_left
   · refine ⟨_, rfl, p, xs, 3, rfl, hLp, by decide, by decide, by omega, fun D G hD g hDG => ?_⟩
     refine ⟨D, _, rfl, .inl (.of hDG), _, _, rfl, rfl, _, rfl, ?_⟩
     rw [e3]
     refine ite2 (fun h1 => ?_) (fun h1 => ?_)
     · have hq : (0 : Int) < (((plc xs 3).map V.int).length : Int) := of_decide_eq_true h1
       have hne : plc xs 3 ≠ [] := fun z => by rw [z] at hq; simp at hq
       refine ⟨_, rfl, h, _, _, .ref c0, rfl, rfl, .of ((g) _ _ hh8), rfl, c0, xs, rfl, Rep.same g hLc, hcn, hxl, fun _ T G2 g2 hT => ?_, fun z => absurd z hne, fun z => absurd z hne⟩
       refine ⟨smallE (by simp), fun M hM => ?_⟩
       have sM : Same G2 (upd G2 M (.tup [.bl true, .bl false])) := Same.new hM
       refine ⟨.tup [.bl true, .bl false], .tup [.bl true, .bl false], ⟨T, _, rfl, .of (sM _ _ hT), ⟨_, _, rfl, rfl, ⟨_, _, rfl, rfl, rfl⟩⟩⟩, ⟨M, _, rfl, .of upd_same, ⟨_, _, rfl, rfl, ⟨_, _, rfl, rfl, rfl⟩⟩⟩, by decide, _, rfl, ?_⟩
       rw [eqD_refl]
       refine ifN (by simp) ?_
       exact key _ _ ⟨_, _, rfl, (g.trans g2).trans sM⟩
     have he3 : plc xs 3 = [] := by
       have hq : ¬ (0 : Int) < (((plc xs 3).map V.int).length : Int) := fun q => h1 (decide_eq_true q)
       rw [List.length_map] at hq
       exact List.length_eq_zero_iff.mp (by omega)
     refine ⟨_, rfl, d, vs, rfl, .inl (.of (g _ _ hd8)), _, _, rfl, rfl, _, rfl, ?_⟩
     refine ite2 (fun h2 => ?_) (fun h2 => ?_)
     · have hq : (40 : Int) < (vs.length : Int) := of_decide_eq_true h2
       refine ⟨_, rfl, h, _, _, .ref c0, rfl, rfl, .of ((g) _ _ hh8), rfl, c0, xs, rfl, Rep.same g hLc, hcn, hxl, fun z => absurd he3 z, fun _ _ T G2 g2 hT => ?_, fun _ z => absurd z (by omega)⟩
       refine ⟨smallE (by simp), fun M hM => ?_⟩
       have sM : Same G2 (upd G2 M (.tup [.bl false, .bl true])) := Same.new hM
       refine ⟨.tup [.bl false, .bl true], .tup [.bl false, .bl true], ⟨T, _, rfl, .of (sM _ _ hT), ⟨_, _, rfl, rfl, ⟨_, _, rfl, rfl, rfl⟩⟩⟩, ⟨M, _, rfl, .of upd_same, ⟨_, _, rfl, rfl, ⟨_, _, rfl, rfl, rfl⟩⟩⟩, by decide, _, rfl, ?_⟩
       rw [eqD_refl]
       refine ifN (by simp) ?_
       exact key _ _ ⟨_, _, rfl, (g.trans g2).trans sM⟩
     have hq40 : ¬ (40 : Int) < (vs.length : Int) := fun q => h2 (decide_eq_true q)
     refine ⟨_, rfl, (by decide), (by decide), ?_⟩
     refine for_range (lo := 0) (n := 2) (fun j σ G2 => ∃ (o1 o2 : Option V), σ = [some (.ref a), some (.int bits), some (.int many), some (.int most), some (.ref cs), some (.ref p), some (.int lv), some (.ref ps), some (.ref e), some (.ref h), some (.ref d), o1, o2, none] ∧ Same H8 G2) ⟨_, _, rfl, g⟩ ?_ ?_
     · rintro j σ G1 hj ⟨o1, o2, rfl, g1⟩
       refine tSeq_cut (fun σ' H' => ∃ (f : Addr) (ws : List V), σ' = [some (.ref a), some (.int bits), some (.int many), some (.int most), some (.ref cs), some (.ref p), some (.int lv), some (.ref ps), some (.ref e), some (.ref h), some (.ref d), some (.int (0 + (j : Int))), some (.ref f), none] ∧ Same H8 H' ∧ G1 f = none ∧ Same G1 H' ∧ H' f = some (.lst ws) ∧ Reps K H' ws ((cnX xs).map tI)) ?_ fun key2 => ?_
       rotate_left
       · exact ⟨_, rfl, h, _, _, .ref c0, rfl, rfl, .of ((g1) _ _ hh8), rfl, c0, xs, rfl, Rep.same g1 hLc, hcn, hxl, fun z => absurd he3 z, fun _ z => absurd z (by omega), fun _ _ f ws G2 hf g2 hf2 r2 => key2 _ _ ⟨f, ws, rfl, g1.trans g2, hf, g2, hf2, r2⟩⟩
       rintro _ G2 ⟨f, ws, rfl, g2, hf, g12, hf2, rf⟩
       have wl : ws.length = 2 * xs.length + 1 := by have := rf.length; rw [this, List.length_map, cnX_len]
       refine tSeq_cut (fun σ' H' => σ' = [some (.ref a), some (.int bits), some (.int many), some (.int most), some (.ref cs), some (.ref p), some (.int lv), some (.ref ps), some (.ref e), some (.ref h), some (.ref d), some (.int (0 + (j : Int))), some (.ref f), none] ∧ G2 = H') ?_ fun key2 => ?_
       rotate_left
       · refine ⟨_, rfl, _, rfl, f, d, cnX xs, rfl, ⟨f, ws, rfl, .of hf2, rf⟩, Rep.same g2 hLd, _, rfl, ?_⟩
         refine ifN (by simp) ?_
         exact key2 _ _ ⟨rfl, rfl⟩
       rintro _ _ ⟨rfl, rfl⟩
       refine ⟨_, rfl, .inl ⟨rfl, _, .of hf2⟩, Nat.zero_le _, fun T hT => ?_⟩
       have sT : Same G2 (upd G2 T (.tup [])) := Same.new hT
       refine ⟨f, _, _, rfl, rfl, sT _ _ hf2, small (by omega), ?_⟩
       refine ⟨_, _, rfl, fun c o e => ?_⟩
       have e1 := g1 _ _ e
       rw [upd_ne (ne_of_none e1 hf)]
       exact sT _ _ (g12 _ _ e1)
     · rintro σ G2 ⟨o1, o2, rfl, g2⟩
       exact key _ _ ⟨o1, o2, rfl, g2⟩
   rintro _ H9 ⟨o1, o2, rfl, s9⟩
   refine tSeq_cut (fun σ' H' => ∃ (x : V), σ' = [some (.ref a), some (.int bits), some (.int many), some (.int most), some (.ref cs), some (.ref p), some (.int lv), some (.ref ps), some (.ref e), some (.ref h), some (.ref d), o1, o2, some x] ∧ Same H8 H' ∧ NoCh H' xs x) ?_ fun key => ?_
   rotate_left
   · refine ⟨_, rfl, _, rfl, _, rfl, _, rfl, a, ns, 3, rfl, (s9.seq hS8), by decide, hl, p, ps, e, xs, lv, _, ms, rfl, Rep.same s9 hLp, hcn, hxl, lv0, .of (s9 _ _ hps8), s9 _ _ he8, ndm, insp, lnm, fun x t H' s' hT hF => ?_⟩
     exact key _ _ ⟨x, rfl, s9.trans s', t, hT, hF⟩
   rintro _ H10 ⟨x, rfl, s10, hno⟩
   clear s9
   refine tSeq_cut (fun σ' H' => σ' = [some (.ref a), some (.int bits), some (.int many), some (.int most), some (.ref cs), some (.ref p), some (.int lv), some (.ref ps), some (.ref e), some (.ref h), some (.ref d), o1, o2, some x] ∧ Same H8 H') ?_ fun key => ?_
   rotate_left
   · obtain ⟨t, hT, hF⟩ := hno
     refine ⟨_, rfl, h, _, _, .ref c0, rfl, rfl, .of ((s10) _ _ hh8), rfl, _, rfl, c0, x, xs, rfl, Rep.same s10 hLc, by omega, .inr ⟨⟨t, hT, fun k _ => hF k⟩, fun T G2 g2 hT => ?_⟩⟩
     refine ⟨smallE (by simp), fun M hM => ?_⟩
     have sM : Same G2 (upd G2 M (.tup [.bl true, .bl false, .bl false])) := Same.new hM
     refine ⟨.tup [.bl true, .bl false, .bl false], .tup [.bl true, .bl false, .bl false], ⟨T, _, rfl, .of (sM _ _ hT), ⟨_, _, rfl, rfl, ⟨_, _, rfl, rfl, ⟨_, _, rfl, rfl, rfl⟩⟩⟩⟩, ⟨M, _, rfl, .of upd_same, ⟨_, _, rfl, rfl, ⟨_, _, rfl, rfl, ⟨_, _, rfl, rfl, rfl⟩⟩⟩⟩, by decide, _, rfl, ?_⟩
     rw [eqD_refl]
     refine ifN (by simp) ?_
     exact key _ _ ⟨rfl, (s10.trans g2).trans sM⟩
   rintro _ H11 ⟨rfl, s11⟩
   clear s10 hno
   by_cases hcase : lv = 3 ∧ ms.length ≠ 0
   · obtain ⟨hl3, hm0'⟩ := hcase
     refine tSeq_cut (fun σ' H' => ∃ T : Addr, σ' = [some (.ref a), some (.int bits), some (.int many), some (.int most), some (.ref cs), some (.ref p), some (.int lv), some (.ref ps), some (.ref e), some (.ref h), some (.ref d), o1, some (.ref T), some x] ∧ Same H8 H' ∧ H' T = some (.tup [.bl true, .bl false, .bl false])) ?_ fun key => ?_
     rotate_left
     · exact ⟨_, rfl, h, _, _, .ref c0, rfl, rfl, .of ((s11) _ _ hh8), rfl, _, rfl, h, _, _, .ref c1, rfl, rfl, .of ((s11) _ _ hh8), rfl, c0, .ref c1, xs, rfl, Rep.same s11 hLc, by omega, .inr ⟨⟨_, thing_cK (s11 _ _ hc18) (by omega), fun k hk => by rw [chainT_cK]; exact chain_other (k := lv) (by omega) hm0' hlev⟩, fun T G2 g2 hT => key _ _ ⟨T, rfl, s11.trans g2, hT⟩⟩⟩
     rintro _ H12 ⟨T, rfl, s12, hT12⟩
     refine tSeq_cut (fun σ' H' => False) ?_ fun key => ?_
     · exact fun _ _ z => z.elim
     refine ⟨_, rfl, rfl, _, rfl, ?_⟩
     refine ifP (by rw [hl3]; rfl) ?_
     refine ⟨_, rfl, e, _, rfl, s12 _ _ he8, _, _, rfl, rfl, _, rfl, ?_⟩
     refine ifP (by rw [cK_len]; simp; omega) ?_
     refine ⟨_, rfl, smallE (by simp), fun M hM => ?_⟩
     have sM : Same H12 (upd H12 M (.tup [.bl true, .bl false, .bl false])) := Same.new hM
     have eM : (upd H12 M (.tup [.bl true, .bl false, .bl false])) M = some (.tup [.bl true, .bl false, .bl false]) := upd_same
     generalize upd H12 M (.tup [.bl true, .bl false, .bl false]) = GG at sM eM
     refine ⟨.tup [.bl true, .bl false, .bl false], .tup [.bl true, .bl false, .bl false], ⟨T, _, rfl, .of (sM _ _ hT12), ⟨_, _, rfl, rfl, ⟨_, _, rfl, rfl, ⟨_, _, rfl, rfl, rfl⟩⟩⟩⟩, ⟨M, _, rfl, .of eM, ⟨_, _, rfl, rfl, ⟨_, _, rfl, rfl, ⟨_, _, rfl, rfl, rfl⟩⟩⟩⟩, by decide, _, rfl, ?_⟩
     rw [eqD_refl]
     refine ifP rfl ?_
     have tt := s12.trans sM
     refine ⟨_, rfl, _, rfl, _, rfl, smallE (by simp), fun L hL => ?_⟩
     have g3 : Same GG (upd GG L (.lst [.ref p, .ref e])) := Same.new hL
     have t4 := tt.trans g3
     have dx : dep (.lst (xs.map tI)) ≤ 6 := by
       have := deps_tIs xs
       show deps (xs.map tI) + 1 ≤ 6
       omega
     refine ⟨h, L, [.ref c0, .ref c1], [.ref p, .ref e], rfl, rfl, .of (t4 _ _ hh8), .of upd_same, ⟨rfl, fun i v w hv hw => ?_⟩, k _⟩
     match i, hv, hw with
     | 0, hv, hw =>
       cases hv; cases hw
       exact ⟨.d (.lst (xs.map tI)), .d (.lst (xs.map tI)), ⟨⟨c0, us, rfl, .of (t4 _ _ hc08), Reps.same t4 ru8⟩, dx⟩, ⟨⟨p, us, rfl, .of (t4 _ _ hp8), Reps.same t4 ru8⟩, dx⟩, eqD_refl _⟩
     | 1, hv, hw =>
       cases hv; cases hw
       exact ⟨.c ms, .c ms, ⟨c1, rfl, .inl (t4 _ _ hc18)⟩, ⟨e, rfl, .inl (t4 _ _ he8)⟩, sameC_refl ndm⟩
     | i + 2, hv, hw => simp at hv
   · have hk3 : ∃ k : Nat, k < 3 ∧ chainB xs (k : Int) ms = true := by
       by_cases h3 : lv = 3
       · have hz : ms.length = 0 := by
           rcases Nat.eq_zero_or_pos ms.length with z | z
           · exact z
           · exact absurd ⟨h3, by omega⟩ hcase
         have : ms = [] := List.length_eq_zero_iff.mp hz
         subst this
         exact ⟨0, by decide, rfl⟩
       · obtain ⟨kl, hkl⟩ := Int.eq_ofNat_of_zero_le lv0
         exact ⟨kl, by omega, by rw [← hkl]; exact hchain⟩
     refine tSeq_cut (fun σ' H' => ∃ E : Addr, σ' = [some (.ref a), some (.int bits), some (.int many), some (.int most), some (.ref cs), some (.ref p), some (.int lv), some (.ref ps), some (.ref e), some (.ref h), some (.ref d), o1, some (.ref E), some x] ∧ Same H8 H' ∧ H11 E = none ∧ H' E = some (.dK (cK (shI xs.length ms)))) ?_ fun key => ?_
     rotate_left
     · exact ⟨_, rfl, h, _, _, .ref c0, rfl, rfl, .of ((s11) _ _ hh8), rfl, _, rfl, h, _, _, .ref c1, rfl, rfl, .of ((s11) _ _ hh8), rfl, c0, .ref c1, xs, rfl, Rep.same s11 hLc, by omega, .inl ⟨c1, ms, rfl, s11 _ _ hc18, ndm, lnm, hk3, fun E G2 hE g2 hE2 => key _ _ ⟨E, rfl, s11.trans g2, hE, hE2⟩⟩⟩
     rintro _ H12 ⟨E, rfl, s12, hE, hE12⟩
     refine tSeq_cut (fun σ' H' => σ' = [some (.ref a), some (.int bits), some (.int many), some (.int most), some (.ref cs), some (.ref p), some (.int lv), some (.ref ps), some (.ref e), some (.ref h), some (.ref d), o1, some (.ref E), some x] ∧ H12 = H') ?_ fun key => ?_
     rotate_left
     · refine ⟨_, rfl, rfl, _, rfl, ?_⟩
       refine ite2 (fun h1 => ?_) (fun h1 => ?_)
       · have hl3 : lv = 3 := V.int.inj (of_decide_eq_true h1)
         refine ⟨_, rfl, e, _, rfl, s12 _ _ he8, _, _, rfl, rfl, _, rfl, ?_⟩
         have hz : ms.length = 0 := by
           rcases Nat.eq_zero_or_pos ms.length with z | z
           · exact z
           · exact absurd ⟨hl3, by omega⟩ hcase
         refine ifN (by rw [cK_len, hz]; decide) ?_
         exact key _ _ ⟨rfl, rfl⟩
       · refine ifN (by decide) ?_
         exact key _ _ ⟨rfl, rfl⟩
     rintro _ _ ⟨rfl, rfl⟩
     refine tSeq_cut (fun σ' H' => σ' = [some (.ref a), some (.int bits), some (.int many), some (.int most), some (.ref cs), some (.ref p), some (.int lv), some (.ref ps), some (.ref e), some (.ref h), some (.ref d), o1, some (.ref E), some x] ∧ Same H12 H') ?_ fun key => ?_
     rotate_left
     · refine ⟨_, rfl, _, rfl, _, rfl, p, e, xs, ms, rfl, Rep.same s12 hLp, s12 _ _ he8, ndm, by omega, fun F G hF g hFG => ?_⟩
       refine ⟨E, F, _, _, rfl, g _ _ hE12, .inl hFG, ne_of_none hE12 hF, sameC_refl (nd_sh ndm), fun G2 g2 => ⟨_, rfl, ?_⟩⟩
       refine ifN (by simp) ?_
       exact key _ _ ⟨rfl, g.trans g2⟩
     rintro _ H13 ⟨rfl, s13⟩
     have s813 := s12.trans s13
     have bd : ∀ q ∈ ms, q.2.natAbs < 2 ^ 100 := fun q hq => bd_mono (inm q hq).2 (by decide)
     have rng : ∀ q ∈ ms, 0 ≤ q.1 ∧ q.1 < (xs.length : Int) := fun q hq => ⟨(hlev q hq).1, (hlev q hq).2.1⟩
     refine ⟨_, rfl, _, rfl, d, E, cnX xs, shI xs.length ms, rfl, Rep.same s813 hLd, s13 _ _ hE12, nd_sh ndm, by rw [sh_len]; omega, cn_le5 hcn, fun q hq => ?_, fun q hq => ?_, fun B1 G1 hB1 g1 hB11 => ?_⟩
     · unfold shI at hq
       obtain ⟨q', hq', rfl⟩ := List.mem_map.mp hq
       have := rng q' hq'
       rw [cnX_len]
       show 0 ≤ (xs.length : Int) + 1 + q'.1 ∧ (xs.length : Int) + 1 + q'.1 < _
       omega
     · unfold shI at hq
       obtain ⟨q', hq', rfl⟩ := List.mem_map.mp hq
       exact bd q' hq'
     refine ⟨_, rfl, _, rfl, _, rfl, p, e, xs, ms, lv, rfl, Rep.same (s813.trans g1) hLp, (s813.trans g1) _ _ he8, ndm, lnm, fun z hz => Nat.le_trans (cnt_le4 hcn z hz) (by decide), rng, bd, fun B2 GG hB2 g2 hB22 => ?_⟩
     refine ⟨B1, B2, _, _, rfl, rfl, .inl (g2 _ _ hB11), .inl hB22, _, rfl, ?_⟩
     rw [cone_edge hgd ndm nzm lv0 hlev]
     refine ifP rfl ?_
     have tt := (s813.trans g1).trans g2
     refine ⟨_, rfl, _, rfl, _, rfl, smallE (by simp), fun L hL => ?_⟩
     have g3 : Same GG (upd GG L (.lst [.ref p, .ref e])) := Same.new hL
     have t4 := tt.trans g3
     have dx : dep (.lst (xs.map tI)) ≤ 6 := by
       have := deps_tIs xs
       show deps (xs.map tI) + 1 ≤ 6
       omega
     refine ⟨h, L, [.ref c0, .ref c1], [.ref p, .ref e], rfl, rfl, .of (t4 _ _ hh8), .of upd_same, ⟨rfl, fun i v w hv hw => ?_⟩, k _⟩
     match i, hv, hw with
     | 0, hv, hw =>
       cases hv; cases hw
       exact ⟨.d (.lst (xs.map tI)), .d (.lst (xs.map tI)), ⟨⟨c0, us, rfl, .of (t4 _ _ hc08), Reps.same t4 ru8⟩, dx⟩, ⟨⟨p, us, rfl, .of (t4 _ _ hp8), Reps.same t4 ru8⟩, dx⟩, eqD_refl _⟩
     | 1, hv, hw =>
       cases hv; cases hw
       exact ⟨.c ms, .c ms, ⟨c1, rfl, .inl (t4 _ _ hc18)⟩, ⟨e, rfl, .inl (t4 _ _ he8)⟩, sameC_refl ndm⟩
     | i + 2, hv, hw => simp at hv
end
end Hb
namespace Hb
open PySem L2
theorem elim1 {α : Type} {P : List α → Prop} (h : ∀ a0, P [a0]) (us : List α) (hl : us.length = 1) : P us := by
 cases us with
 | nil => exact nomatch hl
 | cons a0 u0 =>
   cases u0 with
   | nil => exact h a0
   | cons _ _ => simp at hl
theorem elim2 {α : Type} {P : List α → Prop} (h : ∀ a0 a1, P [a0, a1]) (us : List α) (hl : us.length = 2) : P us := by
 cases us with
 | nil => exact nomatch hl
 | cons a0 u0 =>
   cases u0 with
   | nil => exact nomatch hl
   | cons a1 u1 =>
     cases u1 with
     | nil => exact h a0 a1
     | cons _ _ => simp at hl
theorem elim3 {α : Type} {P : List α → Prop} (h : ∀ a0 a1 a2, P [a0, a1, a2]) (us : List α) (hl : us.length = 3) : P us := by
 cases us with
 | nil => exact nomatch hl
 | cons a0 u0 =>
   cases u0 with
   | nil => exact nomatch hl
   | cons a1 u1 =>
     cases u1 with
     | nil => exact nomatch hl
     | cons a2 u2 =>
       cases u2 with
       | nil => exact h a0 a1 a2
       | cons _ _ => simp at hl
theorem elim4 {α : Type} {P : List α → Prop} (h : ∀ a0 a1 a2 a3, P [a0, a1, a2, a3]) (us : List α) (hl : us.length = 4) : P us := by
 cases us with
 | nil => exact nomatch hl
 | cons a0 u0 =>
   cases u0 with
   | nil => exact nomatch hl
   | cons a1 u1 =>
     cases u1 with
     | nil => exact nomatch hl
     | cons a2 u2 =>
       cases u2 with
       | nil => exact nomatch hl
       | cons a3 u3 =>
         cases u3 with
         | nil => exact h a0 a1 a2 a3
         | cons _ _ => simp at hl
set_option maxHeartbeats 4000000 in
theorem all_mk {l : PySem.W.OpenLaw} {w : World} {K : PySem.W.Frag} {h : Heap} {mg : Str → Option Value} {fa : Addr} {C_HoleError : Addr}
   {C_NoShape : Addr}
   {C_NoChain : Addr}
   {C_NoGlue : Addr}
   {f_is_whole : Addr} {od_is_whole an_is_whole : Option Addr} {sl_is_whole : Array (Option Value)} {oc_is_whole kV_is_whole dc_is_whole pm_is_whole cd_is_whole ct_is_whole : Value}
   {f_level_of : Addr} {od_level_of an_level_of : Option Addr} {sl_level_of : Array (Option Value)} {oc_level_of kV_level_of dc_level_of pm_level_of cd_level_of ct_level_of : Value}
   {f_moved : Addr} {od_moved an_moved : Option Addr} {sl_moved : Array (Option Value)} {oc_moved kV_moved dc_moved pm_moved cd_moved ct_moved : Value}
   {f_check_size : Addr} {od_check_size an_check_size : Option Addr} {sl_check_size : Array (Option Value)} {oc_check_size kV_check_size dc_check_size pm_check_size cd_check_size ct_check_size : Value}
   {f_L_cell_at : Addr} {od_L_cell_at an_L_cell_at : Option Addr} {sl_L_cell_at : Array (Option Value)} {oc_L_cell_at kV_L_cell_at dc_L_cell_at pm_L_cell_at cd_L_cell_at ct_L_cell_at : Value}
   {f_L_faces_by : Addr} {od_L_faces_by an_L_faces_by : Option Addr} {sl_L_faces_by : Array (Option Value)} {oc_L_faces_by kV_L_faces_by dc_L_faces_by pm_L_faces_by cd_L_faces_by ct_L_faces_by : Value}
   {f_L_word_by : Addr} {od_L_word_by an_L_word_by : Option Addr} {sl_L_word_by : Array (Option Value)} {oc_L_word_by kV_L_word_by dc_L_word_by pm_L_word_by cd_L_word_by ct_L_word_by : Value}
   {f_L_turned_order : Addr} {od_L_turned_order an_L_turned_order : Option Addr} {sl_L_turned_order : Array (Option Value)} {oc_L_turned_order kV_L_turned_order dc_L_turned_order pm_L_turned_order cd_L_turned_order ct_L_turned_order : Value}
   {f_L_whole : Addr} {od_L_whole an_L_whole : Option Addr} {sl_L_whole : Array (Option Value)} {oc_L_whole kV_L_whole dc_L_whole pm_L_whole cd_L_whole ct_L_whole : Value}
   {f_L_number_by : Addr} {od_L_number_by an_L_number_by : Option Addr} {sl_L_number_by : Array (Option Value)} {oc_L_number_by kV_L_number_by dc_L_number_by pm_L_number_by cd_L_number_by ct_L_number_by : Value}
   {f_L_without_noughts : Addr} {od_L_without_noughts an_L_without_noughts : Option Addr} {sl_L_without_noughts : Array (Option Value)} {oc_L_without_noughts kV_L_without_noughts dc_L_without_noughts pm_L_without_noughts cd_L_without_noughts ct_L_without_noughts : Value}
   {f_L_spots_of : Addr} {od_L_spots_of an_L_spots_of : Option Addr} {sl_L_spots_of : Array (Option Value)} {oc_L_spots_of kV_L_spots_of dc_L_spots_of pm_L_spots_of cd_L_spots_of ct_L_spots_of : Value}
   {f_L_spoilt : Addr} {od_L_spoilt an_L_spoilt : Option Addr} {sl_L_spoilt : Array (Option Value)} {oc_L_spoilt kV_L_spoilt dc_L_spoilt pm_L_spoilt cd_L_spoilt ct_L_spoilt : Value}
   {f_L_cone_by : Addr} {od_L_cone_by an_L_cone_by : Option Addr} {sl_L_cone_by : Array (Option Value)} {oc_L_cone_by kV_L_cone_by dc_L_cone_by pm_L_cone_by cd_L_cone_by ct_L_cone_by : Value}
   {f_L_coned_by : Addr} {od_L_coned_by an_L_coned_by : Option Addr} {sl_L_coned_by : Array (Option Value)} {oc_L_coned_by kV_L_coned_by dc_L_coned_by pm_L_coned_by cd_L_coned_by ct_L_coned_by : Value}
   {f_is_whole_below : Addr} {od_is_whole_below an_is_whole_below : Option Addr} {sl_is_whole_below : Array (Option Value)} {oc_is_whole_below kV_is_whole_below dc_is_whole_below pm_is_whole_below cd_is_whole_below ct_is_whole_below : Value}
   {f_places_of_level : Addr} {od_places_of_level an_places_of_level : Option Addr} {sl_places_of_level : Array (Option Value)} {oc_places_of_level kV_places_of_level dc_places_of_level pm_places_of_level cd_places_of_level ct_places_of_level : Value}
   {f_piece_over : Addr} {od_piece_over an_piece_over : Option Addr} {sl_piece_over : Array (Option Value)} {oc_piece_over kV_piece_over dc_piece_over pm_piece_over cd_piece_over ct_piece_over : Value}
   {f_L_words_with : Addr} {od_L_words_with an_L_words_with : Option Addr} {sl_L_words_with : Array (Option Value)} {oc_L_words_with kV_L_words_with dc_L_words_with pm_L_words_with cd_L_words_with ct_L_words_with : Value}
   {f_L_chain_like : Addr} {od_L_chain_like an_L_chain_like : Option Addr} {sl_L_chain_like : Array (Option Value)} {oc_L_chain_like kV_L_chain_like dc_L_chain_like pm_L_chain_like cd_L_chain_like ct_L_chain_like : Value}
   {f_L_chain_by : Addr} {od_L_chain_by an_L_chain_by : Option Addr} {sl_L_chain_by : Array (Option Value)} {oc_L_chain_by kV_L_chain_by dc_L_chain_by pm_L_chain_by cd_L_chain_by ct_L_chain_by : Value}
   {f_L_border_by : Addr} {od_L_border_by an_L_border_by : Option Addr} {sl_L_border_by : Array (Option Value)} {oc_L_border_by kV_L_border_by dc_L_border_by pm_L_border_by cd_L_border_by ct_L_border_by : Value}
   {f_L_shape_like : Addr} {od_L_shape_like an_L_shape_like : Option Addr} {sl_L_shape_like : Array (Option Value)} {oc_L_shape_like kV_L_shape_like dc_L_shape_like pm_L_shape_like cd_L_shape_like ct_L_shape_like : Value}
   {f_is_place_of_level : Addr} {od_is_place_of_level an_is_place_of_level : Option Addr} {sl_is_place_of_level : Array (Option Value)} {oc_is_place_of_level kV_is_place_of_level dc_is_place_of_level pm_is_place_of_level cd_is_place_of_level ct_is_place_of_level : Value}
   {f_cone : Addr} {od_cone an_cone : Option Addr} {sl_cone : Array (Option Value)} {oc_cone kV_cone dc_cone pm_cone cd_cone ct_cone : Value}
   {f_L_shape_by : Addr} {od_L_shape_by an_L_shape_by : Option Addr} {sl_L_shape_by : Array (Option Value)} {oc_L_shape_by kV_L_shape_by dc_L_shape_by pm_L_shape_by cd_L_shape_by ct_L_shape_by : Value}
   {f_L_edge_by : Addr} {od_L_edge_by an_L_edge_by : Option Addr} {sl_L_edge_by : Array (Option Value)} {oc_L_edge_by kV_L_edge_by dc_L_edge_by pm_L_edge_by cd_L_edge_by ct_L_edge_by : Value}
   {f_is_part : Addr} {od_is_part an_is_part : Option Addr} {sl_is_part : Array (Option Value)} {oc_is_part kV_is_part dc_is_part pm_is_part cd_is_part ct_is_part : Value}
   {f_L_cone_told : Addr} {od_L_cone_told an_L_cone_told : Option Addr} {sl_L_cone_told : Array (Option Value)} {oc_L_cone_told kV_L_cone_told dc_L_cone_told pm_L_cone_told cd_L_cone_told ct_L_cone_told : Value}
   {f_is_chain : Addr} {od_is_chain an_is_chain : Option Addr} {sl_is_chain : Array (Option Value)} {oc_is_chain kV_is_chain dc_is_chain pm_is_chain cd_is_chain ct_is_chain : Value}
   {f_is_chain_of_some_level : Addr} {od_is_chain_of_some_level an_is_chain_of_some_level : Option Addr} {sl_is_chain_of_some_level : Array (Option Value)} {oc_is_chain_of_some_level kV_is_chain_of_some_level dc_is_chain_of_some_level pm_is_chain_of_some_level cd_is_chain_of_some_level ct_is_chain_of_some_level : Value}
   {f_coned : Addr} {od_coned an_coned : Option Addr} {sl_coned : Array (Option Value)} {oc_coned kV_coned dc_coned pm_coned cd_coned ct_coned : Value}
   {f_L_coned_told : Addr} {od_L_coned_told an_L_coned_told : Option Addr} {sl_L_coned_told : Array (Option Value)} {oc_L_coned_told kV_L_coned_told dc_L_coned_told pm_L_coned_told cd_L_coned_told ct_L_coned_told : Value}
   {f_law : Addr} {od_law an_law : Option Addr} {sl_law : Array (Option Value)} {oc_law kV_law dc_law pm_law cd_law ct_law : Value}
   {t_LEVELS : Tok}
   {t_MOST_PIECES : Tok}
   (X : K.In h) (G : h.Ns mainGlobals mg) (hfa : mg "law" = some (.ref fa))
   (ac_HoleError : PySem.W.nsIn K mainGlobals "HoleError" = some (some (.ref C_HoleError)))
   (ac_NoShape : PySem.W.nsIn K mainGlobals "NoShape" = some (some (.ref C_NoShape)))
   (ac_NoChain : PySem.W.nsIn K mainGlobals "NoChain" = some (some (.ref C_NoChain)))
   (ac_NoGlue : PySem.W.nsIn K mainGlobals "NoGlue" = some (some (.ref C_NoGlue)))
   (a_is_whole : PySem.W.nsIn K mainGlobals "is_whole" = some (some (.ref f_is_whole)))
   (l_is_whole : K.lookup f_is_whole = some ⟨oc_is_whole, od_is_whole, .func (PySem.W.fnOf "is_whole" "is_whole" (defArgs s_is_whole) (defBody s_is_whole) (defScope s_is_whole) .none kV_is_whole dc_is_whole pm_is_whole an_is_whole cd_is_whole ct_is_whole), sl_is_whole⟩)
   (c_is_whole : PySem.W.codeIn K cd_is_whole "is_whole" = true)
   (k_is_whole : PySem.W.keepIn K (.ref f_is_whole) = true)
   (a_level_of : PySem.W.nsIn K mainGlobals "level_of" = some (some (.ref f_level_of)))
   (l_level_of : K.lookup f_level_of = some ⟨oc_level_of, od_level_of, .func (PySem.W.fnOf "level_of" "level_of" (defArgs s_level_of) (defBody s_level_of) (defScope s_level_of) .none kV_level_of dc_level_of pm_level_of an_level_of cd_level_of ct_level_of), sl_level_of⟩)
   (c_level_of : PySem.W.codeIn K cd_level_of "level_of" = true)
   (k_level_of : PySem.W.keepIn K (.ref f_level_of) = true)
   (a_moved : PySem.W.nsIn K mainGlobals "moved" = some (some (.ref f_moved)))
   (l_moved : K.lookup f_moved = some ⟨oc_moved, od_moved, .func (PySem.W.fnOf "moved" "moved" (defArgs s_moved) (defBody s_moved) (defScope s_moved) .none kV_moved dc_moved pm_moved an_moved cd_moved ct_moved), sl_moved⟩)
   (c_moved : PySem.W.codeIn K cd_moved "moved" = true)
   (k_moved : PySem.W.keepIn K (.ref f_moved) = true)
   (a_check_size : PySem.W.nsIn K mainGlobals "check_size" = some (some (.ref f_check_size)))
   (l_check_size : K.lookup f_check_size = some ⟨oc_check_size, od_check_size, .func (PySem.W.fnOf "check_size" "check_size" (defArgs s_check_size) (defBody s_check_size) (defScope s_check_size) .none kV_check_size dc_check_size pm_check_size an_check_size cd_check_size ct_check_size), sl_check_size⟩)
   (c_check_size : PySem.W.codeIn K cd_check_size "check_size" = true)
   (k_check_size : PySem.W.keepIn K (.ref f_check_size) = true)
   (a_L_cell_at : PySem.W.nsIn K mainGlobals "_law_cell_at" = some (some (.ref f_L_cell_at)))
   (l_L_cell_at : K.lookup f_L_cell_at = some ⟨oc_L_cell_at, od_L_cell_at, .func (PySem.W.fnOf "_law_cell_at" "_law_cell_at" (defArgs s_L_cell_at) (defBody s_L_cell_at) (defScope s_L_cell_at) .none kV_L_cell_at dc_L_cell_at pm_L_cell_at an_L_cell_at cd_L_cell_at ct_L_cell_at), sl_L_cell_at⟩)
   (c_L_cell_at : PySem.W.codeIn K cd_L_cell_at "_law_cell_at" = true)
   (k_L_cell_at : PySem.W.keepIn K (.ref f_L_cell_at) = true)
   (a_L_faces_by : PySem.W.nsIn K mainGlobals "_law_faces_by" = some (some (.ref f_L_faces_by)))
   (l_L_faces_by : K.lookup f_L_faces_by = some ⟨oc_L_faces_by, od_L_faces_by, .func (PySem.W.fnOf "_law_faces_by" "_law_faces_by" (defArgs s_L_faces_by) (defBody s_L_faces_by) (defScope s_L_faces_by) .none kV_L_faces_by dc_L_faces_by pm_L_faces_by an_L_faces_by cd_L_faces_by ct_L_faces_by), sl_L_faces_by⟩)
   (c_L_faces_by : PySem.W.codeIn K cd_L_faces_by "_law_faces_by" = true)
   (k_L_faces_by : PySem.W.keepIn K (.ref f_L_faces_by) = true)
   (a_L_word_by : PySem.W.nsIn K mainGlobals "_law_word_by" = some (some (.ref f_L_word_by)))
   (l_L_word_by : K.lookup f_L_word_by = some ⟨oc_L_word_by, od_L_word_by, .func (PySem.W.fnOf "_law_word_by" "_law_word_by" (defArgs s_L_word_by) (defBody s_L_word_by) (defScope s_L_word_by) .none kV_L_word_by dc_L_word_by pm_L_word_by an_L_word_by cd_L_word_by ct_L_word_by), sl_L_word_by⟩)
   (c_L_word_by : PySem.W.codeIn K cd_L_word_by "_law_word_by" = true)
   (k_L_word_by : PySem.W.keepIn K (.ref f_L_word_by) = true)
   (a_L_turned_order : PySem.W.nsIn K mainGlobals "_law_turned_order" = some (some (.ref f_L_turned_order)))
   (l_L_turned_order : K.lookup f_L_turned_order = some ⟨oc_L_turned_order, od_L_turned_order, .func (PySem.W.fnOf "_law_turned_order" "_law_turned_order" (defArgs s_L_turned_order) (defBody s_L_turned_order) (defScope s_L_turned_order) .none kV_L_turned_order dc_L_turned_order pm_L_turned_order an_L_turned_order cd_L_turned_order ct_L_turned_order), sl_L_turned_order⟩)
   (c_L_turned_order : PySem.W.codeIn K cd_L_turned_order "_law_turned_order" = true)
   (k_L_turned_order : PySem.W.keepIn K (.ref f_L_turned_order) = true)
   (a_L_whole : PySem.W.nsIn K mainGlobals "_law_whole" = some (some (.ref f_L_whole)))
   (l_L_whole : K.lookup f_L_whole = some ⟨oc_L_whole, od_L_whole, .func (PySem.W.fnOf "_law_whole" "_law_whole" (defArgs s_L_whole) (defBody s_L_whole) (defScope s_L_whole) .none kV_L_whole dc_L_whole pm_L_whole an_L_whole cd_L_whole ct_L_whole), sl_L_whole⟩)
   (c_L_whole : PySem.W.codeIn K cd_L_whole "_law_whole" = true)
   (k_L_whole : PySem.W.keepIn K (.ref f_L_whole) = true)
   (a_L_number_by : PySem.W.nsIn K mainGlobals "_law_number_by" = some (some (.ref f_L_number_by)))
   (l_L_number_by : K.lookup f_L_number_by = some ⟨oc_L_number_by, od_L_number_by, .func (PySem.W.fnOf "_law_number_by" "_law_number_by" (defArgs s_L_number_by) (defBody s_L_number_by) (defScope s_L_number_by) .none kV_L_number_by dc_L_number_by pm_L_number_by an_L_number_by cd_L_number_by ct_L_number_by), sl_L_number_by⟩)
   (c_L_number_by : PySem.W.codeIn K cd_L_number_by "_law_number_by" = true)
   (k_L_number_by : PySem.W.keepIn K (.ref f_L_number_by) = true)
   (a_L_without_noughts : PySem.W.nsIn K mainGlobals "_law_without_noughts" = some (some (.ref f_L_without_noughts)))
   (l_L_without_noughts : K.lookup f_L_without_noughts = some ⟨oc_L_without_noughts, od_L_without_noughts, .func (PySem.W.fnOf "_law_without_noughts" "_law_without_noughts" (defArgs s_L_without_noughts) (defBody s_L_without_noughts) (defScope s_L_without_noughts) .none kV_L_without_noughts dc_L_without_noughts pm_L_without_noughts an_L_without_noughts cd_L_without_noughts ct_L_without_noughts), sl_L_without_noughts⟩)
   (c_L_without_noughts : PySem.W.codeIn K cd_L_without_noughts "_law_without_noughts" = true)
   (k_L_without_noughts : PySem.W.keepIn K (.ref f_L_without_noughts) = true)
   (a_L_spots_of : PySem.W.nsIn K mainGlobals "_law_spots_of" = some (some (.ref f_L_spots_of)))
   (l_L_spots_of : K.lookup f_L_spots_of = some ⟨oc_L_spots_of, od_L_spots_of, .func (PySem.W.fnOf "_law_spots_of" "_law_spots_of" (defArgs s_L_spots_of) (defBody s_L_spots_of) (defScope s_L_spots_of) .none kV_L_spots_of dc_L_spots_of pm_L_spots_of an_L_spots_of cd_L_spots_of ct_L_spots_of), sl_L_spots_of⟩)
   (c_L_spots_of : PySem.W.codeIn K cd_L_spots_of "_law_spots_of" = true)
   (k_L_spots_of : PySem.W.keepIn K (.ref f_L_spots_of) = true)
   (a_L_spoilt : PySem.W.nsIn K mainGlobals "_law_spoilt" = some (some (.ref f_L_spoilt)))
   (l_L_spoilt : K.lookup f_L_spoilt = some ⟨oc_L_spoilt, od_L_spoilt, .func (PySem.W.fnOf "_law_spoilt" "_law_spoilt" (defArgs s_L_spoilt) (defBody s_L_spoilt) (defScope s_L_spoilt) .none kV_L_spoilt dc_L_spoilt pm_L_spoilt an_L_spoilt cd_L_spoilt ct_L_spoilt), sl_L_spoilt⟩)
   (c_L_spoilt : PySem.W.codeIn K cd_L_spoilt "_law_spoilt" = true)
   (k_L_spoilt : PySem.W.keepIn K (.ref f_L_spoilt) = true)
   (a_L_cone_by : PySem.W.nsIn K mainGlobals "_law_cone_by" = some (some (.ref f_L_cone_by)))
   (l_L_cone_by : K.lookup f_L_cone_by = some ⟨oc_L_cone_by, od_L_cone_by, .func (PySem.W.fnOf "_law_cone_by" "_law_cone_by" (defArgs s_L_cone_by) (defBody s_L_cone_by) (defScope s_L_cone_by) .none kV_L_cone_by dc_L_cone_by pm_L_cone_by an_L_cone_by cd_L_cone_by ct_L_cone_by), sl_L_cone_by⟩)
   (c_L_cone_by : PySem.W.codeIn K cd_L_cone_by "_law_cone_by" = true)
   (k_L_cone_by : PySem.W.keepIn K (.ref f_L_cone_by) = true)
   (a_L_coned_by : PySem.W.nsIn K mainGlobals "_law_coned_by" = some (some (.ref f_L_coned_by)))
   (l_L_coned_by : K.lookup f_L_coned_by = some ⟨oc_L_coned_by, od_L_coned_by, .func (PySem.W.fnOf "_law_coned_by" "_law_coned_by" (defArgs s_L_coned_by) (defBody s_L_coned_by) (defScope s_L_coned_by) .none kV_L_coned_by dc_L_coned_by pm_L_coned_by an_L_coned_by cd_L_coned_by ct_L_coned_by), sl_L_coned_by⟩)
   (c_L_coned_by : PySem.W.codeIn K cd_L_coned_by "_law_coned_by" = true)
   (k_L_coned_by : PySem.W.keepIn K (.ref f_L_coned_by) = true)
   (a_is_whole_below : PySem.W.nsIn K mainGlobals "is_whole_below" = some (some (.ref f_is_whole_below)))
   (l_is_whole_below : K.lookup f_is_whole_below = some ⟨oc_is_whole_below, od_is_whole_below, .func (PySem.W.fnOf "is_whole_below" "is_whole_below" (defArgs s_is_whole_below) (defBody s_is_whole_below) (defScope s_is_whole_below) .none kV_is_whole_below dc_is_whole_below pm_is_whole_below an_is_whole_below cd_is_whole_below ct_is_whole_below), sl_is_whole_below⟩)
   (c_is_whole_below : PySem.W.codeIn K cd_is_whole_below "is_whole_below" = true)
   (k_is_whole_below : PySem.W.keepIn K (.ref f_is_whole_below) = true)
   (a_places_of_level : PySem.W.nsIn K mainGlobals "places_of_level" = some (some (.ref f_places_of_level)))
   (l_places_of_level : K.lookup f_places_of_level = some ⟨oc_places_of_level, od_places_of_level, .func (PySem.W.fnOf "places_of_level" "places_of_level" (defArgs s_places_of_level) (defBody s_places_of_level) (defScope s_places_of_level) .none kV_places_of_level dc_places_of_level pm_places_of_level an_places_of_level cd_places_of_level ct_places_of_level), sl_places_of_level⟩)
   (c_places_of_level : PySem.W.codeIn K cd_places_of_level "places_of_level" = true)
   (k_places_of_level : PySem.W.keepIn K (.ref f_places_of_level) = true)
   (a_piece_over : PySem.W.nsIn K mainGlobals "piece_over" = some (some (.ref f_piece_over)))
   (l_piece_over : K.lookup f_piece_over = some ⟨oc_piece_over, od_piece_over, .func (PySem.W.fnOf "piece_over" "piece_over" (defArgs s_piece_over) (defBody s_piece_over) (defScope s_piece_over) .none kV_piece_over dc_piece_over pm_piece_over an_piece_over cd_piece_over ct_piece_over), sl_piece_over⟩)
   (c_piece_over : PySem.W.codeIn K cd_piece_over "piece_over" = true)
   (k_piece_over : PySem.W.keepIn K (.ref f_piece_over) = true)
   (a_L_words_with : PySem.W.nsIn K mainGlobals "_law_words_with" = some (some (.ref f_L_words_with)))
   (l_L_words_with : K.lookup f_L_words_with = some ⟨oc_L_words_with, od_L_words_with, .func (PySem.W.fnOf "_law_words_with" "_law_words_with" (defArgs s_L_words_with) (defBody s_L_words_with) (defScope s_L_words_with) .none kV_L_words_with dc_L_words_with pm_L_words_with an_L_words_with cd_L_words_with ct_L_words_with), sl_L_words_with⟩)
   (c_L_words_with : PySem.W.codeIn K cd_L_words_with "_law_words_with" = true)
   (k_L_words_with : PySem.W.keepIn K (.ref f_L_words_with) = true)
   (a_L_chain_like : PySem.W.nsIn K mainGlobals "_law_chain_like" = some (some (.ref f_L_chain_like)))
   (l_L_chain_like : K.lookup f_L_chain_like = some ⟨oc_L_chain_like, od_L_chain_like, .func (PySem.W.fnOf "_law_chain_like" "_law_chain_like" (defArgs s_L_chain_like) (defBody s_L_chain_like) (defScope s_L_chain_like) .none kV_L_chain_like dc_L_chain_like pm_L_chain_like an_L_chain_like cd_L_chain_like ct_L_chain_like), sl_L_chain_like⟩)
   (c_L_chain_like : PySem.W.codeIn K cd_L_chain_like "_law_chain_like" = true)
   (k_L_chain_like : PySem.W.keepIn K (.ref f_L_chain_like) = true)
   (a_L_chain_by : PySem.W.nsIn K mainGlobals "_law_chain_by" = some (some (.ref f_L_chain_by)))
   (l_L_chain_by : K.lookup f_L_chain_by = some ⟨oc_L_chain_by, od_L_chain_by, .func (PySem.W.fnOf "_law_chain_by" "_law_chain_by" (defArgs s_L_chain_by) (defBody s_L_chain_by) (defScope s_L_chain_by) .none kV_L_chain_by dc_L_chain_by pm_L_chain_by an_L_chain_by cd_L_chain_by ct_L_chain_by), sl_L_chain_by⟩)
   (c_L_chain_by : PySem.W.codeIn K cd_L_chain_by "_law_chain_by" = true)
   (k_L_chain_by : PySem.W.keepIn K (.ref f_L_chain_by) = true)
   (a_L_border_by : PySem.W.nsIn K mainGlobals "_law_border_by" = some (some (.ref f_L_border_by)))
   (l_L_border_by : K.lookup f_L_border_by = some ⟨oc_L_border_by, od_L_border_by, .func (PySem.W.fnOf "_law_border_by" "_law_border_by" (defArgs s_L_border_by) (defBody s_L_border_by) (defScope s_L_border_by) .none kV_L_border_by dc_L_border_by pm_L_border_by an_L_border_by cd_L_border_by ct_L_border_by), sl_L_border_by⟩)
   (c_L_border_by : PySem.W.codeIn K cd_L_border_by "_law_border_by" = true)
   (k_L_border_by : PySem.W.keepIn K (.ref f_L_border_by) = true)
   (a_L_shape_like : PySem.W.nsIn K mainGlobals "_law_shape_like" = some (some (.ref f_L_shape_like)))
   (l_L_shape_like : K.lookup f_L_shape_like = some ⟨oc_L_shape_like, od_L_shape_like, .func (PySem.W.fnOf "_law_shape_like" "_law_shape_like" (defArgs s_L_shape_like) (defBody s_L_shape_like) (defScope s_L_shape_like) .none kV_L_shape_like dc_L_shape_like pm_L_shape_like an_L_shape_like cd_L_shape_like ct_L_shape_like), sl_L_shape_like⟩)
   (c_L_shape_like : PySem.W.codeIn K cd_L_shape_like "_law_shape_like" = true)
   (k_L_shape_like : PySem.W.keepIn K (.ref f_L_shape_like) = true)
   (a_is_place_of_level : PySem.W.nsIn K mainGlobals "is_place_of_level" = some (some (.ref f_is_place_of_level)))
   (l_is_place_of_level : K.lookup f_is_place_of_level = some ⟨oc_is_place_of_level, od_is_place_of_level, .func (PySem.W.fnOf "is_place_of_level" "is_place_of_level" (defArgs s_is_place_of_level) (defBody s_is_place_of_level) (defScope s_is_place_of_level) .none kV_is_place_of_level dc_is_place_of_level pm_is_place_of_level an_is_place_of_level cd_is_place_of_level ct_is_place_of_level), sl_is_place_of_level⟩)
   (c_is_place_of_level : PySem.W.codeIn K cd_is_place_of_level "is_place_of_level" = true)
   (k_is_place_of_level : PySem.W.keepIn K (.ref f_is_place_of_level) = true)
   (a_cone : PySem.W.nsIn K mainGlobals "cone" = some (some (.ref f_cone)))
   (l_cone : K.lookup f_cone = some ⟨oc_cone, od_cone, .func (PySem.W.fnOf "cone" "cone" (defArgs s_cone) (defBody s_cone) (defScope s_cone) .none kV_cone dc_cone pm_cone an_cone cd_cone ct_cone), sl_cone⟩)
   (c_cone : PySem.W.codeIn K cd_cone "cone" = true)
   (k_cone : PySem.W.keepIn K (.ref f_cone) = true)
   (a_L_shape_by : PySem.W.nsIn K mainGlobals "_law_shape_by" = some (some (.ref f_L_shape_by)))
   (l_L_shape_by : K.lookup f_L_shape_by = some ⟨oc_L_shape_by, od_L_shape_by, .func (PySem.W.fnOf "_law_shape_by" "_law_shape_by" (defArgs s_L_shape_by) (defBody s_L_shape_by) (defScope s_L_shape_by) .none kV_L_shape_by dc_L_shape_by pm_L_shape_by an_L_shape_by cd_L_shape_by ct_L_shape_by), sl_L_shape_by⟩)
   (c_L_shape_by : PySem.W.codeIn K cd_L_shape_by "_law_shape_by" = true)
   (k_L_shape_by : PySem.W.keepIn K (.ref f_L_shape_by) = true)
   (a_L_edge_by : PySem.W.nsIn K mainGlobals "_law_edge_by" = some (some (.ref f_L_edge_by)))
   (l_L_edge_by : K.lookup f_L_edge_by = some ⟨oc_L_edge_by, od_L_edge_by, .func (PySem.W.fnOf "_law_edge_by" "_law_edge_by" (defArgs s_L_edge_by) (defBody s_L_edge_by) (defScope s_L_edge_by) .none kV_L_edge_by dc_L_edge_by pm_L_edge_by an_L_edge_by cd_L_edge_by ct_L_edge_by), sl_L_edge_by⟩)
   (c_L_edge_by : PySem.W.codeIn K cd_L_edge_by "_law_edge_by" = true)
   (k_L_edge_by : PySem.W.keepIn K (.ref f_L_edge_by) = true)
   (a_is_part : PySem.W.nsIn K mainGlobals "is_part" = some (some (.ref f_is_part)))
   (l_is_part : K.lookup f_is_part = some ⟨oc_is_part, od_is_part, .func (PySem.W.fnOf "is_part" "is_part" (defArgs s_is_part) (defBody s_is_part) (defScope s_is_part) .none kV_is_part dc_is_part pm_is_part an_is_part cd_is_part ct_is_part), sl_is_part⟩)
   (c_is_part : PySem.W.codeIn K cd_is_part "is_part" = true)
   (k_is_part : PySem.W.keepIn K (.ref f_is_part) = true)
   (a_L_cone_told : PySem.W.nsIn K mainGlobals "_law_cone_told" = some (some (.ref f_L_cone_told)))
   (l_L_cone_told : K.lookup f_L_cone_told = some ⟨oc_L_cone_told, od_L_cone_told, .func (PySem.W.fnOf "_law_cone_told" "_law_cone_told" (defArgs s_L_cone_told) (defBody s_L_cone_told) (defScope s_L_cone_told) .none kV_L_cone_told dc_L_cone_told pm_L_cone_told an_L_cone_told cd_L_cone_told ct_L_cone_told), sl_L_cone_told⟩)
   (c_L_cone_told : PySem.W.codeIn K cd_L_cone_told "_law_cone_told" = true)
   (k_L_cone_told : PySem.W.keepIn K (.ref f_L_cone_told) = true)
   (a_is_chain : PySem.W.nsIn K mainGlobals "is_chain" = some (some (.ref f_is_chain)))
   (l_is_chain : K.lookup f_is_chain = some ⟨oc_is_chain, od_is_chain, .func (PySem.W.fnOf "is_chain" "is_chain" (defArgs s_is_chain) (defBody s_is_chain) (defScope s_is_chain) .none kV_is_chain dc_is_chain pm_is_chain an_is_chain cd_is_chain ct_is_chain), sl_is_chain⟩)
   (c_is_chain : PySem.W.codeIn K cd_is_chain "is_chain" = true)
   (k_is_chain : PySem.W.keepIn K (.ref f_is_chain) = true)
   (a_is_chain_of_some_level : PySem.W.nsIn K mainGlobals "is_chain_of_some_level" = some (some (.ref f_is_chain_of_some_level)))
   (l_is_chain_of_some_level : K.lookup f_is_chain_of_some_level = some ⟨oc_is_chain_of_some_level, od_is_chain_of_some_level, .func (PySem.W.fnOf "is_chain_of_some_level" "is_chain_of_some_level" (defArgs s_is_chain_of_some_level) (defBody s_is_chain_of_some_level) (defScope s_is_chain_of_some_level) .none kV_is_chain_of_some_level dc_is_chain_of_some_level pm_is_chain_of_some_level an_is_chain_of_some_level cd_is_chain_of_some_level ct_is_chain_of_some_level), sl_is_chain_of_some_level⟩)
   (c_is_chain_of_some_level : PySem.W.codeIn K cd_is_chain_of_some_level "is_chain_of_some_level" = true)
   (k_is_chain_of_some_level : PySem.W.keepIn K (.ref f_is_chain_of_some_level) = true)
   (a_coned : PySem.W.nsIn K mainGlobals "coned" = some (some (.ref f_coned)))
   (l_coned : K.lookup f_coned = some ⟨oc_coned, od_coned, .func (PySem.W.fnOf "coned" "coned" (defArgs s_coned) (defBody s_coned) (defScope s_coned) .none kV_coned dc_coned pm_coned an_coned cd_coned ct_coned), sl_coned⟩)
   (c_coned : PySem.W.codeIn K cd_coned "coned" = true)
   (k_coned : PySem.W.keepIn K (.ref f_coned) = true)
   (a_L_coned_told : PySem.W.nsIn K mainGlobals "_law_coned_told" = some (some (.ref f_L_coned_told)))
   (l_L_coned_told : K.lookup f_L_coned_told = some ⟨oc_L_coned_told, od_L_coned_told, .func (PySem.W.fnOf "_law_coned_told" "_law_coned_told" (defArgs s_L_coned_told) (defBody s_L_coned_told) (defScope s_L_coned_told) .none kV_L_coned_told dc_L_coned_told pm_L_coned_told an_L_coned_told cd_L_coned_told ct_L_coned_told), sl_L_coned_told⟩)
   (c_L_coned_told : PySem.W.codeIn K cd_L_coned_told "_law_coned_told" = true)
   (k_L_coned_told : PySem.W.keepIn K (.ref f_L_coned_told) = true)
   (a_law : PySem.W.nsIn K mainGlobals "law" = some (some (.ref f_law)))
   (l_law : K.lookup f_law = some ⟨oc_law, od_law, .func (PySem.W.fnOf "law" "law" (defArgs s_law) (defBody s_law) (defScope s_law) .none kV_law dc_law pm_law an_law cd_law ct_law), sl_law⟩)
   (c_law : PySem.W.codeIn K cd_law "law" = true)
   (k_law : PySem.W.keepIn K (.ref f_law) = true)
   (ak_HoleError : PySem.W.ktsIn K C_HoleError "BaseException" = true)
   (ae_NoShape : PySem.W.excIn K C_NoShape bmV "ValueError.__new__" = true)
   (ak_NoShape : PySem.W.ktsIn K C_NoShape "BaseException" = true)
   (a1_NoShape : PySem.W.findIn K (.ref C_NoShape) "__getattribute__" = some (some (.builtin "BaseException.__getattribute__")))
   (a2_NoShape : PySem.W.findIn K (.ref C_NoShape) "__getattr__" = some none)
   (a3_NoShape : PySem.W.findIn K (.ref C_NoShape) "__class__" = some (some (.builtin "object.__class__")))
   (a4_NoShape : PySem.W.subIn K (.ref C_NoShape) (.type "object") = some true)
   (a5_NoShape : PySem.W.subIn K (.ref C_NoShape) (.type "BaseException") = some true)
   (ae_NoChain : PySem.W.excIn K C_NoChain bmV "ValueError.__new__" = true)
   (ak_NoChain : PySem.W.ktsIn K C_NoChain "BaseException" = true)
   (a1_NoChain : PySem.W.findIn K (.ref C_NoChain) "__getattribute__" = some (some (.builtin "BaseException.__getattribute__")))
   (a2_NoChain : PySem.W.findIn K (.ref C_NoChain) "__getattr__" = some none)
   (a3_NoChain : PySem.W.findIn K (.ref C_NoChain) "__class__" = some (some (.builtin "object.__class__")))
   (a4_NoChain : PySem.W.subIn K (.ref C_NoChain) (.type "object") = some true)
   (a5_NoChain : PySem.W.subIn K (.ref C_NoChain) (.type "BaseException") = some true)
   (ae_NoGlue : PySem.W.excIn K C_NoGlue bmV "ValueError.__new__" = true)
   (ak_NoGlue : PySem.W.ktsIn K C_NoGlue "BaseException" = true)
   (a1_NoGlue : PySem.W.findIn K (.ref C_NoGlue) "__getattribute__" = some (some (.builtin "BaseException.__getattribute__")))
   (a2_NoGlue : PySem.W.findIn K (.ref C_NoGlue) "__getattr__" = some none)
   (a3_NoGlue : PySem.W.findIn K (.ref C_NoGlue) "__class__" = some (some (.builtin "object.__class__")))
   (a4_NoGlue : PySem.W.subIn K (.ref C_NoGlue) (.type "object") = some true)
   (a5_NoGlue : PySem.W.subIn K (.ref C_NoGlue) (.type "BaseException") = some true)
   (as_NoShape_HoleError : PySem.W.subIn K (.ref C_NoShape) (.ref C_HoleError) = some true)
   (ai_NoShape_NoShape : PySem.W.kitOne K (.ref C_NoShape) (.ref C_NoShape) = some true)
   (ai_NoShape_NoGlue : PySem.W.kitOne K (.ref C_NoShape) (.ref C_NoGlue) = some false)
   (ai_NoChain_HoleError : PySem.W.kitOne K (.ref C_NoChain) (.ref C_HoleError) = some true)
   (ai_NoChain_NoShape : PySem.W.kitOne K (.ref C_NoChain) (.ref C_NoShape) = some false)
   (as_NoChain_NoChain : PySem.W.subIn K (.ref C_NoChain) (.ref C_NoChain) = some true)
   (ai_NoChain_NoGlue : PySem.W.kitOne K (.ref C_NoChain) (.ref C_NoGlue) = some false)
   (as_NoGlue_HoleError : PySem.W.subIn K (.ref C_NoGlue) (.ref C_HoleError) = some true)
   (ai_NoGlue_NoShape : PySem.W.kitOne K (.ref C_NoGlue) (.ref C_NoShape) = some false)
   (ai_NoGlue_NoGlue : PySem.W.kitOne K (.ref C_NoGlue) (.ref C_NoGlue) = some true)
   (aq_LEVELS : PySem.W.nsIn K mainGlobals "LEVELS" = some (some (.int 4 t_LEVELS)))
   (aq_MOST_PIECES : PySem.W.nsIn K mainGlobals "MOST_PIECES" = some (some (.int 40 t_MOST_PIECES)))
   (z_isinstance : PySem.W.nsIn K mainGlobals "isinstance" = some none)
   (z_int : PySem.W.nsIn K mainGlobals "int" = some none)
   (z_bool : PySem.W.nsIn K mainGlobals "bool" = some none)
   (z_max : PySem.W.nsIn K mainGlobals "max" = some none)
   (z_len : PySem.W.nsIn K mainGlobals "len" = some none)
   (z_tuple : PySem.W.nsIn K mainGlobals "tuple" = some none)
   (z_all : PySem.W.nsIn K mainGlobals "all" = some none)
   (z_dict : PySem.W.nsIn K mainGlobals "dict" = some none)
   (z_any : PySem.W.nsIn K mainGlobals "any" = some none)
   (z_range : PySem.W.nsIn K mainGlobals "range" = some none)
   (z_enumerate : PySem.W.nsIn K mainGlobals "enumerate" = some none)
   (z_list : PySem.W.nsIn K mainGlobals "list" = some none)
   (z_sum : PySem.W.nsIn K mainGlobals "sum" = some none) :
   ∃ fd : FuncData, (∀ (s : Shared) (v : Value), BindsTo s fd ⟨[v], []⟩ [("_law_script", v)]) ∧ ∀ base : Heap, K.In base → base.Ns mainGlobals mg → FnOk l.prog w K mg base CX0 9 fa fd ["_law_script"] (sp_law K) := by
 have e := hfa.symm.trans (PySem.W.mg_of X G a_law)
 cases e
 have T : Txt K mg C_HoleError C_NoShape C_NoChain C_NoGlue := ⟨PySem.W.mg_of X G ac_HoleError, ak_HoleError, PySem.W.mg_of X G ac_NoShape, ae_NoShape, ⟨ak_NoShape, a1_NoShape, a2_NoShape, a3_NoShape, a4_NoShape, a5_NoShape⟩, PySem.W.mg_of X G ac_NoChain, ae_NoChain, ⟨ak_NoChain, a1_NoChain, a2_NoChain, a3_NoChain, a4_NoChain, a5_NoChain⟩, ak_NoChain, PySem.W.mg_of X G ac_NoGlue, ae_NoGlue, ⟨ak_NoGlue, a1_NoGlue, a2_NoGlue, a3_NoGlue, a4_NoGlue, a5_NoGlue⟩, as_NoShape_HoleError, ai_NoShape_NoShape, ai_NoShape_NoGlue, ai_NoChain_HoleError, ai_NoChain_NoShape, as_NoChain_NoChain, ai_NoChain_NoGlue, as_NoGlue_HoleError, ai_NoGlue_NoShape, ai_NoGlue_NoGlue, ⟨_, PySem.W.mg_of X G aq_LEVELS⟩, ⟨_, PySem.W.mg_of X G aq_MOST_PIECES⟩, PySem.W.mg_none_of X G z_isinstance, PySem.W.mg_none_of X G z_int, PySem.W.mg_none_of X G z_bool, PySem.W.mg_none_of X G z_max, PySem.W.mg_none_of X G z_len, PySem.W.mg_none_of X G z_tuple, PySem.W.mg_none_of X G z_all, PySem.W.mg_none_of X G z_dict, PySem.W.mg_none_of X G z_any, PySem.W.mg_none_of X G z_range, PySem.W.mg_none_of X G z_enumerate, PySem.W.mg_none_of X G z_list, PySem.W.mg_none_of X G z_sum⟩
 have F_is_whole := fun_mk (st := s_is_whole) l_is_whole c_is_whole k_is_whole
 have F_level_of := fun_mk (st := s_level_of) l_level_of c_level_of k_level_of
 have F_moved := fun_mk (st := s_moved) l_moved c_moved k_moved
 have F_check_size := fun_mk (st := s_check_size) l_check_size c_check_size k_check_size
 have F_L_cell_at := fun_mk (st := s_L_cell_at) l_L_cell_at c_L_cell_at k_L_cell_at
 have F_L_faces_by := fun_mk (st := s_L_faces_by) l_L_faces_by c_L_faces_by k_L_faces_by
 have F_L_word_by := fun_mk (st := s_L_word_by) l_L_word_by c_L_word_by k_L_word_by
 have F_L_turned_order := fun_mk (st := s_L_turned_order) l_L_turned_order c_L_turned_order k_L_turned_order
 have F_L_whole := fun_mk (st := s_L_whole) l_L_whole c_L_whole k_L_whole
 have F_L_number_by := fun_mk (st := s_L_number_by) l_L_number_by c_L_number_by k_L_number_by
 have F_L_without_noughts := fun_mk (st := s_L_without_noughts) l_L_without_noughts c_L_without_noughts k_L_without_noughts
 have F_L_spots_of := fun_mk (st := s_L_spots_of) l_L_spots_of c_L_spots_of k_L_spots_of
 have F_L_spoilt := fun_mk (st := s_L_spoilt) l_L_spoilt c_L_spoilt k_L_spoilt
 have F_L_cone_by := fun_mk (st := s_L_cone_by) l_L_cone_by c_L_cone_by k_L_cone_by
 have F_L_coned_by := fun_mk (st := s_L_coned_by) l_L_coned_by c_L_coned_by k_L_coned_by
 have F_is_whole_below := fun_mk (st := s_is_whole_below) l_is_whole_below c_is_whole_below k_is_whole_below
 have F_places_of_level := fun_mk (st := s_places_of_level) l_places_of_level c_places_of_level k_places_of_level
 have F_piece_over := fun_mk (st := s_piece_over) l_piece_over c_piece_over k_piece_over
 have F_L_words_with := fun_mk (st := s_L_words_with) l_L_words_with c_L_words_with k_L_words_with
 have F_L_chain_like := fun_mk (st := s_L_chain_like) l_L_chain_like c_L_chain_like k_L_chain_like
 have F_L_chain_by := fun_mk (st := s_L_chain_by) l_L_chain_by c_L_chain_by k_L_chain_by
 have F_L_border_by := fun_mk (st := s_L_border_by) l_L_border_by c_L_border_by k_L_border_by
 have F_L_shape_like := fun_mk (st := s_L_shape_like) l_L_shape_like c_L_shape_like k_L_shape_like
 have F_is_place_of_level := fun_mk (st := s_is_place_of_level) l_is_place_of_level c_is_place_of_level k_is_place_of_level
 have F_cone := fun_mk (st := s_cone) l_cone c_cone k_cone
 have F_L_shape_by := fun_mk (st := s_L_shape_by) l_L_shape_by c_L_shape_by k_L_shape_by
 have F_L_edge_by := fun_mk (st := s_L_edge_by) l_L_edge_by c_L_edge_by k_L_edge_by
 have F_is_part := fun_mk (st := s_is_part) l_is_part c_is_part k_is_part
 have F_L_cone_told := fun_mk (st := s_L_cone_told) l_L_cone_told c_L_cone_told k_L_cone_told
 have F_is_chain := fun_mk (st := s_is_chain) l_is_chain c_is_chain k_is_chain
 have F_is_chain_of_some_level := fun_mk (st := s_is_chain_of_some_level) l_is_chain_of_some_level c_is_chain_of_some_level k_is_chain_of_some_level
 have F_coned := fun_mk (st := s_coned) l_coned c_coned k_coned
 have F_L_coned_told := fun_mk (st := s_L_coned_told) l_L_coned_told c_L_coned_told k_L_coned_told
 have F_law := fun_mk (st := s_law) l_law c_law k_law
 refine ⟨PySem.W.fnOf "law" "law" (defArgs s_law) (defBody s_law) (defScope s_law) .none kV_law dc_law pm_law an_law cd_law ct_law, fun s v => .of_eq rfl, fun base _ _ => ?_⟩
 have h_is_whole : Has l.prog w K mg base "is_whole" ["thing"] 1 (sp_is_whole K) := ⟨_, _, PySem.W.mg_of X G a_is_whole, k_is_whole, F_is_whole.binds (ps := ["thing"]) (fun _ _ _ _ _ _ => elim1 (fun _ => rfl)), ok_is_whole F_is_whole T ⟩
 have h_level_of : Has l.prog w K mg base "level_of" ["piece"] 1 (sp_level_of K) := ⟨_, _, PySem.W.mg_of X G a_level_of, k_level_of, F_level_of.binds (ps := ["piece"]) (fun _ _ _ _ _ _ => elim1 (fun _ => rfl)), ok_level_of F_level_of T ⟩
 have h_moved : Has l.prog w K mg base "moved" ["piece", "many"] 1 (sp_moved K) := ⟨_, _, PySem.W.mg_of X G a_moved, k_moved, F_moved.binds (ps := ["piece", "many"]) (fun _ _ _ _ _ _ => elim2 (fun _ _ => rfl)), ok_moved F_moved T ⟩
 have hx_check_size : HasX l.prog w K mg base "check_size" ["pieces"] 1 (sp_check_size K C_NoShape) := ⟨_, _, PySem.W.mg_of X G a_check_size, k_check_size, F_check_size.binds (ps := ["pieces"]) (fun _ _ _ _ _ _ => elim1 (fun _ => rfl)), ok_check_size F_check_size T ⟩
 have h_L_cell_at : Has l.prog w K mg base "_law_cell_at" ["_law_script", "_law_k"] 1 (sp_L_cell_at K) := ⟨_, _, PySem.W.mg_of X G a_L_cell_at, k_L_cell_at, F_L_cell_at.binds (ps := ["_law_script", "_law_k"]) (fun _ _ _ _ _ _ => elim2 (fun _ _ => rfl)), ok_L_cell_at F_L_cell_at T ⟩
 have h_L_faces_by : Has l.prog w K mg base "_law_faces_by" ["_law_word", "_law_family"] 1 (sp_L_faces_by K) := ⟨_, _, PySem.W.mg_of X G a_L_faces_by, k_L_faces_by, F_L_faces_by.binds (ps := ["_law_word", "_law_family"]) (fun _ _ _ _ _ _ => elim2 (fun _ _ => rfl)), ok_L_faces_by F_L_faces_by T ⟩
 have h_L_word_by : Has l.prog w K mg base "_law_word_by" ["_law_cell", "_law_family", "_law_letters"] 1 (sp_L_word_by K) := ⟨_, _, PySem.W.mg_of X G a_L_word_by, k_L_word_by, F_L_word_by.binds (ps := ["_law_cell", "_law_family", "_law_letters"]) (fun _ _ _ _ _ _ => elim3 (fun _ _ _ => rfl)), ok_L_word_by F_L_word_by T ⟩
 have h_L_turned_order : Has l.prog w K mg base "_law_turned_order" ["_law_shape", "_law_cells"] 1 (sp_L_turned_order K) := ⟨_, _, PySem.W.mg_of X G a_L_turned_order, k_L_turned_order, F_L_turned_order.binds (ps := ["_law_shape", "_law_cells"]) (fun _ _ _ _ _ _ => elim2 (fun _ _ => rfl)), ok_L_turned_order F_L_turned_order T ⟩
 have h_L_whole : Has l.prog w K mg base "_law_whole" ["_law_found"] 1 (sp_L_whole K) := ⟨_, _, PySem.W.mg_of X G a_L_whole, k_L_whole, F_L_whole.binds (ps := ["_law_found"]) (fun _ _ _ _ _ _ => elim1 (fun _ => rfl)), ok_L_whole F_L_whole T ⟩
 have h_L_number_by : Has l.prog w K mg base "_law_number_by" ["_law_cell"] 1 (sp_L_number_by K) := ⟨_, _, PySem.W.mg_of X G a_L_number_by, k_L_number_by, F_L_number_by.binds (ps := ["_law_cell"]) (fun _ _ _ _ _ _ => elim1 (fun _ => rfl)), ok_L_number_by F_L_number_by T ⟩
 have h_L_without_noughts : Has l.prog w K mg base "_law_without_noughts" ["_law_numbers"] 1 (sp_L_without_noughts K) := ⟨_, _, PySem.W.mg_of X G a_L_without_noughts, k_L_without_noughts, F_L_without_noughts.binds (ps := ["_law_numbers"]) (fun _ _ _ _ _ _ => elim1 (fun _ => rfl)), ok_L_without_noughts F_L_without_noughts T ⟩
 have h_L_spots_of : Has l.prog w K mg base "_law_spots_of" ["_law_shape", "_law_k"] 1 (sp_L_spots_of K) := ⟨_, _, PySem.W.mg_of X G a_L_spots_of, k_L_spots_of, F_L_spots_of.binds (ps := ["_law_shape", "_law_k"]) (fun _ _ _ _ _ _ => elim2 (fun _ _ => rfl)), ok_L_spots_of F_L_spots_of T ⟩
 have h_L_spoilt : Has l.prog w K mg base "_law_spoilt" ["_law_shape", "_law_spots", "_law_chain", "_law_cell"] 1 (sp_L_spoilt K) := ⟨_, _, PySem.W.mg_of X G a_L_spoilt, k_L_spoilt, F_L_spoilt.binds (ps := ["_law_shape", "_law_spots", "_law_chain", "_law_cell"]) (fun _ _ _ _ _ _ => elim4 (fun _ _ _ _ => rfl)), ok_L_spoilt F_L_spoilt T ⟩
 have h_L_cone_by : Has l.prog w K mg base "_law_cone_by" ["_law_shape"] 1 (sp_L_cone_by K) := ⟨_, _, PySem.W.mg_of X G a_L_cone_by, k_L_cone_by, F_L_cone_by.binds (ps := ["_law_shape"]) (fun _ _ _ _ _ _ => elim1 (fun _ => rfl)), ok_L_cone_by F_L_cone_by T ⟩
 have h_L_coned_by : Has l.prog w K mg base "_law_coned_by" ["_law_shape", "_law_chain"] 1 (sp_L_coned_by K) := ⟨_, _, PySem.W.mg_of X G a_L_coned_by, k_L_coned_by, F_L_coned_by.binds (ps := ["_law_shape", "_law_chain"]) (fun _ _ _ _ _ _ => elim2 (fun _ _ => rfl)), ok_L_coned_by F_L_coned_by T ⟩
 have h_is_whole_below : Has l.prog w K mg base "is_whole_below" ["thing", "bound"] 2 (sp_is_whole_below K) := ⟨_, _, PySem.W.mg_of X G a_is_whole_below, k_is_whole_below, F_is_whole_below.binds (ps := ["thing", "bound"]) (fun _ _ _ _ _ _ => elim2 (fun _ _ => rfl)), ok_is_whole_below F_is_whole_below T h_is_whole⟩
 have h_places_of_level : Has l.prog w K mg base "places_of_level" ["shape", "k"] 2 (sp_places_of_level K) := ⟨_, _, PySem.W.mg_of X G a_places_of_level, k_places_of_level, F_places_of_level.binds (ps := ["shape", "k"]) (fun _ _ _ _ _ _ => elim2 (fun _ _ => rfl)), ok_places_of_level F_places_of_level T h_level_of⟩
 have h_piece_over : Has l.prog w K mg base "piece_over" ["place", "piece", "tip"] 2 (sp_piece_over K) := ⟨_, _, PySem.W.mg_of X G a_piece_over, k_piece_over, F_piece_over.binds (ps := ["place", "piece", "tip"]) (fun _ _ _ _ _ _ => elim3 (fun _ _ _ => rfl)), ok_piece_over F_piece_over T h_level_of h_moved⟩
 have h_L_words_with : Has l.prog w K mg base "_law_words_with" ["_law_words", "_law_word", "_law_family"] 2 (sp_L_words_with K) := ⟨_, _, PySem.W.mg_of X G a_L_words_with, k_L_words_with, F_L_words_with.binds (ps := ["_law_words", "_law_word", "_law_family"]) (fun _ _ _ _ _ _ => elim3 (fun _ _ _ => rfl)), ok_L_words_with F_L_words_with T h_L_faces_by⟩
 have h_L_chain_like : Has l.prog w K mg base "_law_chain_like" ["_law_found", "_law_due"] 2 (sp_L_chain_like K) := ⟨_, _, PySem.W.mg_of X G a_L_chain_like, k_L_chain_like, F_L_chain_like.binds (ps := ["_law_found", "_law_due"]) (fun _ _ _ _ _ _ => elim2 (fun _ _ => rfl)), ok_L_chain_like F_L_chain_like T h_L_whole⟩
 have h_L_chain_by : Has l.prog w K mg base "_law_chain_by" ["_law_spots", "_law_cells"] 2 (sp_L_chain_by K) := ⟨_, _, PySem.W.mg_of X G a_L_chain_by, k_L_chain_by, F_L_chain_by.binds (ps := ["_law_spots", "_law_cells"]) (fun _ _ _ _ _ _ => elim2 (fun _ _ => rfl)), ok_L_chain_by F_L_chain_by T h_L_number_by⟩
 have h_L_border_by : Has l.prog w K mg base "_law_border_by" ["_law_shape", "_law_chain"] 2 (sp_L_border_by5 K) := ⟨_, _, PySem.W.mg_of X G a_L_border_by, k_L_border_by, F_L_border_by.binds (ps := ["_law_shape", "_law_chain"]) (fun _ _ _ _ _ _ => elim2 (fun _ _ => rfl)), ok_L_border_by F_L_border_by T h_L_without_noughts⟩
 have h_L_shape_like : Has l.prog w K mg base "_law_shape_like" ["_law_found", "_law_due"] 2 (sp_L_shape_like K) := ⟨_, _, PySem.W.mg_of X G a_L_shape_like, k_L_shape_like, F_L_shape_like.binds (ps := ["_law_found", "_law_due"]) (fun _ _ _ _ _ _ => elim2 (fun _ _ => rfl)), ok_L_shape_like F_L_shape_like T h_L_whole⟩
 have h_is_place_of_level : Has l.prog w K mg base "is_place_of_level" ["shape", "thing", "level"] 3 (sp_is_place_of_level K) := ⟨_, _, PySem.W.mg_of X G a_is_place_of_level, k_is_place_of_level, F_is_place_of_level.binds (ps := ["shape", "thing", "level"]) (fun _ _ _ _ _ _ => elim3 (fun _ _ _ => rfl)), ok_is_place_of_level F_is_place_of_level T h_is_whole_below h_level_of⟩
 have hx_cone : HasX l.prog w K mg base "cone" ["shape"] 3 (sp_cone K C_NoGlue C_NoShape) := ⟨_, _, PySem.W.mg_of X G a_cone, k_cone, F_cone.binds (ps := ["shape"]) (fun _ _ _ _ _ _ => elim1 (fun _ => rfl)), ok_cone F_cone T hx_check_size h_places_of_level h_piece_over⟩
 have h_L_shape_by : Has l.prog w K mg base "_law_shape_by" ["_law_kind", "_law_cells", "_law_most"] 3 (sp_L_shape_by K) := ⟨_, _, PySem.W.mg_of X G a_L_shape_by, k_L_shape_by, F_L_shape_by.binds (ps := ["_law_kind", "_law_cells", "_law_most"]) (fun _ _ _ _ _ _ => elim3 (fun _ _ _ => rfl)), ok_L_shape_by F_L_shape_by T h_L_words_with h_L_word_by h_L_faces_by⟩
 have h_L_edge_by : Has l.prog w K mg base "_law_edge_by" ["_law_shape", "_law_chain", "_law_level"] 3 (sp_L_edge_by K) := ⟨_, _, PySem.W.mg_of X G a_L_edge_by, k_L_edge_by, F_L_edge_by.binds (ps := ["_law_shape", "_law_chain", "_law_level"]) (fun _ _ _ _ _ _ => elim3 (fun _ _ _ => rfl)), ok_L_edge_by F_L_edge_by T h_L_border_by h_L_without_noughts⟩
 have h_is_part : Has l.prog w K mg base "is_part" ["shape", "k", "place", "number"] 4 (sp_is_partX K) := ⟨_, _, PySem.W.mg_of X G a_is_part, k_is_part, F_is_part.binds (ps := ["shape", "k", "place", "number"]) (fun _ _ _ _ _ _ => elim4 (fun _ _ _ _ => rfl)), ok_is_part F_is_part T h_is_place_of_level h_is_whole⟩
 have h_L_cone_told : Has l.prog w K mg base "_law_cone_told" ["_law_shape"] 4 (sp_L_cone_told K) := ⟨_, _, PySem.W.mg_of X G a_L_cone_told, k_L_cone_told, F_L_cone_told.binds (ps := ["_law_shape"]) (fun _ _ _ _ _ _ => elim1 (fun _ => rfl)), ok_L_cone_told F_L_cone_told T hx_cone⟩
 have h_is_chain : Has l.prog w K mg base "is_chain" ["shape", "k", "thing"] 5 (sp_is_chainX K) := ⟨_, _, PySem.W.mg_of X G a_is_chain, k_is_chain, F_is_chain.binds (ps := ["shape", "k", "thing"]) (fun _ _ _ _ _ _ => elim3 (fun _ _ _ => rfl)), ok_is_chain F_is_chain T h_is_part⟩
 have h_is_chain_of_some_level : Has l.prog w K mg base "is_chain_of_some_level" ["shape", "thing", "bound"] 6 (sp_some_levelX K) := ⟨_, _, PySem.W.mg_of X G a_is_chain_of_some_level, k_is_chain_of_some_level, F_is_chain_of_some_level.binds (ps := ["shape", "thing", "bound"]) (fun _ _ _ _ _ _ => elim3 (fun _ _ _ => rfl)), ok_is_chain_of_some_level F_is_chain_of_some_level T h_is_chain⟩
 have hx_coned : HasX l.prog w K mg base "coned" ["shape", "chain"] 7 (sp_coned K C_NoChain) := ⟨_, _, PySem.W.mg_of X G a_coned, k_coned, F_coned.binds (ps := ["shape", "chain"]) (fun _ _ _ _ _ _ => elim2 (fun _ _ => rfl)), ok_coned F_coned T h_is_chain_of_some_level⟩
 have h_L_coned_told : Has l.prog w K mg base "_law_coned_told" ["_law_shape", "_law_thing"] 8 (sp_L_coned_told K) := ⟨_, _, PySem.W.mg_of X G a_L_coned_told, k_L_coned_told, F_L_coned_told.binds (ps := ["_law_shape", "_law_thing"]) (fun _ _ _ _ _ _ => elim2 (fun _ _ => rfl)), ok_L_coned_told F_L_coned_told T hx_coned⟩
 exact ok_law F_law T h_L_cell_at h_L_shape_by h_L_spots_of h_L_chain_by h_L_cone_by h_L_spoilt h_L_coned_told h_L_turned_order h_L_chain_like h_L_cone_told h_L_coned_by h_L_border_by h_L_edge_by h_L_shape_like
theorem walk {l : PySem.W.OpenLaw} {q : Program} {loose : List Str} {XP : (Str → Option Value) → Heap → Prop} {YP : World → Heap → Prop} {d : DefRec} {K : Params → PySem.W.Frag} (hn : l.most = some 63) (hdf : d.params.defaults = [])
   (hY : ∀ (w : World) (h : Heap), YP w h → (K w.params).In h)
   (F : ∀ (w : World) (mg : Str → Option Value) (fa : Addr) (h : Heap), (K w.params).In h → h.Ns mainGlobals mg → mg d.name = some (.ref fa) →
     ∃ fd : FuncData, (∀ (s : Shared) (u : Value), BindsTo s fd ⟨[u], []⟩ [("_law_script", u)]) ∧ ∀ base : Heap, (K w.params).In base → base.Ns mainGlobals mg → FnOk l.prog w (K w.params) mg base CX0 9 fa fd ["_law_script"] (sp_law (K w.params))) :
   PySem.W.WalkO q loose XP YP l.row.toRowW d [] (fun f vs => PySem.call f vs) :=
 L2.walk_of (n := 63) (k := 9) (x := "_law_script") (CX := fun _ => CX0) (sp := fun w => sp_law (K w.params)) hn (by decide) hdf ⟨rfl, by decide, by decide, rfl⟩ hY F (fun _ _ a ns hl _ hS => ⟨a, ns, rfl, hS, hl, fun _ => rfl⟩) fun _ _ _ _ _ z => z
end Hb
namespace PySem.W.Fast
def tw4103461812105953137:=0
def tw6025855465754122572:=0
def tw12820048013368485694:=0
def tw8407077164628367627:=0
def tw7708818941680249676:=0
def tw17605003373348375147:=0
def tw9227944242051384284:=0
def tw3325894147850419657:=0
def tw13713824038491288837:=0
def tw11713434704396103299:=0
def tw1158123699690039965:=0
def tw9285010844899428393:=0
def tw10767382075931534211:=0
def tw11869546146146604737:=0
def tw27159761899763023:=0
def tw12508898521393833208:=0
def tw929601876210292476:=0
def tw17577870182199458137:=0
def tw3838286638116046975:=0
def tw3153722064003094652:=0
def tw10522328858774969816:=0
def tw5286783767334880954:=0
def tw604830853389973653:=0
def tw10768525502676431700:=0
def tw2649593034561798670:=0
def tw11146848626488377936:=0
def tw3023628128397612076:=0
def tw2942598826069657879:=0
def tw10493394654536843843:=0
def tw11209373741870593869:=0
def tw1227082352825503258:=0
def tw7722045792780282840:=0
def tw5269654061277432839:=0
def tw4232036877426175984:=0
def tw10118000147684013129:=0
def tw9439399993876525739:=0
def tw16458434215202860482:=0
def tw9552091566872901495:=0
def tw1785895217539714016:=0
def tw7017215076805280769:=0
def tw2521687540912194083:=0
def tw3793812195905853033:=0
def tw3661136480901214473:=0
def tw1679265985518570388:=0
def tw12987271335409769608:=0
def tw14590384234021607830:=0
def tw17162477832563555623:=0
def tw3726837416292053229:=0
def tw10625186532486360860:=0
def tw8137478984993161488:=0
def tw3858347105979028637:=0
def tw8283620021279829973:=0
def tw10365046678678132304:=0
def tw5708938530526346082:=0
def tw6547568422754268244:=0
def tw1755082251062444166:=0
def tw16610625324827209777:=0
def tw1111790279566870560:=0
def tw863032909660049058:=0
def tw11831750816768711904:=0
def tw18135125613019050064:=0
def tw1409227166193353702:=0
def tw2728416635481731157:=0
def tw1322074373202909458:=0
def tw9226254420571465134:=0
def tw14796714347822760806:=0
def tw16813212378051398784:=0
def tw16810343879699648164:=0
def tw5802175810138365806:=0
def tw7660051286871904580:=0
def tw1327682684576001630:=0
def tw7365526589414274307:=0
def tw16550049604611383729:=0
def tw10178838095890700478:=0
def tw16110068470824944749:=0
def tw9566336820619350723:=0
def tw13767762099675299752:=0
def tw6210112186537969990:=0
def tw17321743312452048036:=0
def tw17936007058348222537:=0
def tw16712761613814963842:=0
def tw824419215557355974:=0
def tw6696731023112729459:=0
def tw6769253108076910259:=0
def tw1360907474259194258:=0
def tw15825147224764306984:=0
def tw13802139939328748853:=0
def tw3174490643920603939:=0
def tw16943921282264839400:=0
def tw1286510360296426402:=0
def tw10050539680200984019:=0
def tw4696994787455481332:=0
def tw8940725049830521628:=0
def tw11353756101235629353:=0
def tw15149174559807495055:=0
def tw7017783569739933448:=0
def tw8385778820188090805:=0
def tw10425449147567662372:=0
def tw6858965570789923550:=0
def tw5258917302456366613:=0
def tw2789398154137830165:=0
def tw196953343556847264:=0
def tw14419333046685652322:=0
def tw4544383663157742063:=0
def tw5720012592809956353:=0
def tw8095714985439521150:=0
def tw13412933290342577171:=0
def tw7999960201226218967:=0
def tw16913875378393001723:=0
def tw16727301623014368293:=0
def tw7287143616167092350:=0
def tw13724261789487731348:=0
def tw11189742105785751518:=0
def tw15886838060136293901:=0
def tw61805294170866579:=0
def tw17459198586090691194:=0
def tw1604237710737189915:=0
def tw10982070906937035145:=0
def tw17785022038991585927:=0
def tw2625535031232922653:=0
def tw5121421808269362627:=0
def tw14846074637566719528:=0
def tw4796247817780867206:=0
def tw4060424452496172252:=0
def tw809681181741514484:=0
def tw17114200832082773803:=0
def tw2972375821724457605:=0
def tw17569595275306366972:=0
def tw17138145998295155591:=0
def tw9326877704007694423:=0
def tw15472119330205941252:=0
def tw6809702677450463607:=0
def tw3257870597483238621:=0
def tw7573536474724906853:=0
def tw15632053338719613544:=0
def tw15315116371230015911:=0
def tw13995811638648476701:=0
def tw11654567434133755061:=0
def tw3613613838288414223:=0
def tw16471114716667497301:=0
def tw12279277242504689587:=0
def tw8302877701703111710:=0
def tw876048929183787316:=0
def tw6824149062883120170:=0
def tw18438246735049293132:=0
def tw12369903278276494219:=0
def tw2827893755788770741:=0
def tw17824835126647685447:=0
def tw5886964883165313378:=0
def tw8665564144278640904:=0
def tw17156299352741967509:=0
def tw4365080645216723095:=0
def tw14536459607924889173:=0
def tw4126636992820114124:=0
def tw6900179722653434787:=0
def tw15149464720787919440:=0
def tw13931158739497083993:=0
def tw8034231049666253970:=0
def tw11762015119095921791:=0
def tw17839246149530358105:=0
def tw2243419822014213236:=0
def tw2268221926996454808:=0
def tw17971335946268645193:=0
def tw8324664625427698080:=0
def tw7466038035860962620:=0
def tw15793282860891356589:=0
def tw1212077225032794656:=0
def tw16413536150923997322:=0
def tw4827661812515312122:=0
def tw14017016878307389914:=0
def tw13910203306523037635:=0
def tw2690557927188667786:=0
def tw14465388614989138722:=0
def tw12092309009550536909:=0
def tw7392512350479053274:=0
def tw8817289241225482411:=0
def tw14253154246536111056:=0
def tw193782258665712862:=0
def tw10596619234317964789:=0
def tw1661005594357532550:=0
def tw1771123516664088461:=0
def tw2082884150258592853:=0
def tw12187503783660925133:=0
def tw7768072143109240259:=0
def tw5282931441387041186:=0
def tw13138390740128901813:=0
def tw8953375201070202479:=0
def tw10586719901550456217:=0
def tw10358601734463316140:=0
def tw6686599698745094541:=0
def tw9716375752575315116:=0
def tw3396609153299334249:=0
def tw7999372532132565888:=0
def tw8084774367299005446:=0
def tw12493170849756051459:=0
def tw8061333888613575547:=0
def tw552164292390902069:=0
def tw6255766587854951570:=0
def tw12150600612837707008:=0
def tw14037943666952640010:=0
def tw6219021767433563550:=0
def tw7871495282810673639:=0
def tw13261747451486478698:=0
def tw12145180578877294333:=0
def tw10127362749169381144:=0
def tw637516645187834843:=0
def tw12764864391173040513:=0
def tw4126081026566642755:=0
def tw3753503167680435268:=0
def tw9393682698448757238:=0
def tw16957334612609395806:=0
def tw4647822121540786015:=0
def tw14363328771893945109:=0
def tw12260862511910597692:=0
def tw9014163766422227056:=0
def tw13241691153420340007:=0
def tw8239109499600043713:=0
def tw12382550218324456061:=0
def tw12160840651196022767:=0
def tw18329968173710674126:=0
def tw4089806487933194054:=0
def tw10503862097772073995:=0
def tw11114754352968987668:=0
def tw4698056735157098775:=0
def tw4406312976467161391:=0
def tw2437685205872353973:=0
def tw14478372544838571790:=0
def tw16873855777405301313:=0
def tw2609000628884051448:=0
def tw6773676146295609131:=0
def tw11314938534079415381:=0
def tw4735539943281557395:=0
def tw14134565267280061733:=0
def tw1492010840597833510:=0
def tw13324642987330007954:=0
def tw3058318159521352893:=0
def tw15612833954515952584:=0
def tw10659293113207291034:=0
def tw2626043732558891132:=0
def tw9837550447507363992:=0
def tw6301020193058958122:=0
def tw2481351663995268270:=0
def tw6917059826838157146:=0
def tw12351009124140877488:=0
def tw10619279746364094782:=0
def tw6950837401686215391:=0
def tw1629001543649004198:=0
def tw14502030484527700837:=0
def tw16953328888278558477:=0
def tw10148984131090812532:=0
def tw17599616357564400302:=0
def tw4340194508873381599:=0
def tw14825500127261818553:=0
def tw6135706114134371959:=0
def tw10182389188746639922:=0
def tw9662128063077385111:=0
def tw5963632427982496220:=0
def tw11769826055099518700:=0
def tw3181282405389868372:=0
def tw7104799601763280452:=0
def tw8528558339620797194:=0
def tw7769021005458997298:=0
def tw4576791316858315703:=0
def tw8472422040340420026:=0
def tw11444277514872002771:=0
def tw13825313972225435795:=0
def tw11945248424984523596:=0
def tw10944163551212532368:=0
def tw4948362390608751003:=0
def tw16599096271403795696:=0
def tw15175489317914302016:=0
def tw9577812176495277437:=0
def tw10339944476491286749:=0
def tw1263087814265051631:=0
def tw2751005863521248975:=0
def tw14953425915973867628:=0
def tw17454336551039811063:=0
def tw10114058416192820009:=0
def tw6076572914087752536:=0
def tw15497374341976609453:=0
def tw15889415912345515291:=0
def tw13314134941344902420:=0
def tw6208827719160901118:=0
def tw6910386576688359351:=0
def tw11228638539890119580:=0
def tw17155517367879321756:=0
def tw9657026569899300024:=0
def tw10831753148568473036:=0
def tw15580039728356800552:=0
def tw6319300153090996489:=0
def tw13998704437818729771:=0
def tw5145844574158456911:=0
def tw1849091330754631126:=0
def tw1098159361152001118:=0
def tw9073450845487254691:=0
def tw17064818109370947292:=0
def tw16033557732300903734:=0
def tw17332413648306453273:=0
def tw9656468447405542913:=0
end PySem.W.Fast
open PySem PySem.W PyProof.Rows
set_option maxRecDepth 100000 in
set_option maxHeartbeats 0 in
theorem PySem.Challenge.cw_holebook_k49_the_cone_holds : PySem.Challenge.rw_holebook_k49_the_cone.Holds := by
 w_on; o_law; k_head; (case hw => w_witness2)
 k_fill
 refine Hb.walk (l := PySem.Challenge.rw_holebook_k49_the_cone) rfl rfl (fun w h Y => PySem.W.kIn_of Y) ?F
 case F =>
   intro w mg fa h KX G hmg
   refine' Hb.all_mk KX G hmg ?ac_HoleError ?ac_NoShape ?ac_NoChain ?ac_NoGlue ?a_is_whole ?l_is_whole ?c_is_whole ?k_is_whole ?a_level_of ?l_level_of ?c_level_of ?k_level_of ?a_moved ?l_moved ?c_moved ?k_moved ?a_check_size ?l_check_size ?c_check_size ?k_check_size ?a_L_cell_at ?l_L_cell_at ?c_L_cell_at ?k_L_cell_at ?a_L_faces_by ?l_L_faces_by ?c_L_faces_by ?k_L_faces_by ?a_L_word_by ?l_L_word_by ?c_L_word_by ?k_L_word_by ?a_L_turned_order ?l_L_turned_order ?c_L_turned_order ?k_L_turned_order ?a_L_whole ?l_L_whole ?c_L_whole ?k_L_whole ?a_L_number_by ?l_L_number_by ?c_L_number_by ?k_L_number_by ?a_L_without_noughts ?l_L_without_noughts ?c_L_without_noughts ?k_L_without_noughts ?a_L_spots_of ?l_L_spots_of ?c_L_spots_of ?k_L_spots_of ?a_L_spoilt ?l_L_spoilt ?c_L_spoilt ?k_L_spoilt ?a_L_cone_by ?l_L_cone_by ?c_L_cone_by ?k_L_cone_by ?a_L_coned_by ?l_L_coned_by ?c_L_coned_by ?k_L_coned_by ?a_is_whole_below ?l_is_whole_below ?c_is_whole_below ?k_is_whole_below ?a_places_of_level ?l_places_of_level ?c_places_of_level ?k_places_of_level ?a_piece_over ?l_piece_over ?c_piece_over ?k_piece_over ?a_L_words_with ?l_L_words_with ?c_L_words_with ?k_L_words_with ?a_L_chain_like ?l_L_chain_like ?c_L_chain_like ?k_L_chain_like ?a_L_chain_by ?l_L_chain_by ?c_L_chain_by ?k_L_chain_by ?a_L_border_by ?l_L_border_by ?c_L_border_by ?k_L_border_by ?a_L_shape_like ?l_L_shape_like ?c_L_shape_like ?k_L_shape_like ?a_is_place_of_level ?l_is_place_of_level ?c_is_place_of_level ?k_is_place_of_level ?a_cone ?l_cone ?c_cone ?k_cone ?a_L_shape_by ?l_L_shape_by ?c_L_shape_by ?k_L_shape_by ?a_L_edge_by ?l_L_edge_by ?c_L_edge_by ?k_L_edge_by ?a_is_part ?l_is_part ?c_is_part ?k_is_part ?a_L_cone_told ?l_L_cone_told ?c_L_cone_told ?k_L_cone_told ?a_is_chain ?l_is_chain ?c_is_chain ?k_is_chain ?a_is_chain_of_some_level ?l_is_chain_of_some_level ?c_is_chain_of_some_level ?k_is_chain_of_some_level ?a_coned ?l_coned ?c_coned ?k_coned ?a_L_coned_told ?l_L_coned_told ?c_L_coned_told ?k_L_coned_told ?a_law ?l_law ?c_law ?k_law ?ak_HoleError ?ae_NoShape ?ak_NoShape ?a1_NoShape ?a2_NoShape ?a3_NoShape ?a4_NoShape ?a5_NoShape ?ae_NoChain ?ak_NoChain ?a1_NoChain ?a2_NoChain ?a3_NoChain ?a4_NoChain ?a5_NoChain ?ae_NoGlue ?ak_NoGlue ?a1_NoGlue ?a2_NoGlue ?a3_NoGlue ?a4_NoGlue ?a5_NoGlue ?as_NoShape_HoleError ?ai_NoShape_NoShape ?ai_NoShape_NoGlue ?ai_NoChain_HoleError ?ai_NoChain_NoShape ?as_NoChain_NoChain ?ai_NoChain_NoGlue ?as_NoGlue_HoleError ?ai_NoGlue_NoShape ?ai_NoGlue_NoGlue ?aq_LEVELS ?aq_MOST_PIECES ?z_isinstance ?z_int ?z_bool ?z_max ?z_len ?z_tuple ?z_all ?z_dict ?z_any ?z_range ?z_enumerate ?z_list ?z_sum
   (case ac_HoleError => k_is); (case ac_NoShape => k_is); (case ac_NoChain => k_is); (case ac_NoGlue => k_is)
   (case a_is_whole => k_is); (case l_is_whole => k_is); (case c_is_whole => k_is); (case k_is_whole => k_is)
   (case a_level_of => k_is); (case l_level_of => k_is); (case c_level_of => k_is); (case k_level_of => k_is)
   (case a_moved => k_is); (case l_moved => k_is); (case c_moved => k_is); (case k_moved => k_is)
   (case a_check_size => k_is); (case l_check_size => k_is); (case c_check_size => k_is); (case k_check_size => k_is)
   (case a_L_cell_at => k_is); (case l_L_cell_at => k_is); (case c_L_cell_at => k_is); (case k_L_cell_at => k_is)
   (case a_L_faces_by => k_is); (case l_L_faces_by => k_is); (case c_L_faces_by => k_is); (case k_L_faces_by => k_is)
   (case a_L_word_by => k_is); (case l_L_word_by => k_is); (case c_L_word_by => k_is); (case k_L_word_by => k_is)
   (case a_L_turned_order => k_is); (case l_L_turned_order => k_is); (case c_L_turned_order => k_is); (case k_L_turned_order => k_is)
   (case a_L_whole => k_is); (case l_L_whole => k_is); (case c_L_whole => k_is); (case k_L_whole => k_is)
   (case a_L_number_by => k_is); (case l_L_number_by => k_is); (case c_L_number_by => k_is); (case k_L_number_by => k_is)
   (case a_L_without_noughts => k_is); (case l_L_without_noughts => k_is); (case c_L_without_noughts => k_is); (case k_L_without_noughts => k_is)
   (case a_L_spots_of => k_is); (case l_L_spots_of => k_is); (case c_L_spots_of => k_is); (case k_L_spots_of => k_is)
   (case a_L_spoilt => k_is); (case l_L_spoilt => k_is); (case c_L_spoilt => k_is); (case k_L_spoilt => k_is)
   (case a_L_cone_by => k_is); (case l_L_cone_by => k_is); (case c_L_cone_by => k_is); (case k_L_cone_by => k_is)
   (case a_L_coned_by => k_is); (case l_L_coned_by => k_is); (case c_L_coned_by => k_is); (case k_L_coned_by => k_is)
   (case a_is_whole_below => k_is); (case l_is_whole_below => k_is); (case c_is_whole_below => k_is); (case k_is_whole_below => k_is)
   (case a_places_of_level => k_is); (case l_places_of_level => k_is); (case c_places_of_level => k_is); (case k_places_of_level => k_is)
   (case a_piece_over => k_is); (case l_piece_over => k_is); (case c_piece_over => k_is); (case k_piece_over => k_is)
   (case a_L_words_with => k_is); (case l_L_words_with => k_is); (case c_L_words_with => k_is); (case k_L_words_with => k_is)
   (case a_L_chain_like => k_is); (case l_L_chain_like => k_is); (case c_L_chain_like => k_is); (case k_L_chain_like => k_is)
   (case a_L_chain_by => k_is); (case l_L_chain_by => k_is); (case c_L_chain_by => k_is); (case k_L_chain_by => k_is)
   (case a_L_border_by => k_is); (case l_L_border_by => k_is); (case c_L_border_by => k_is); (case k_L_border_by => k_is)
   (case a_L_shape_like => k_is); (case l_L_shape_like => k_is); (case c_L_shape_like => k_is); (case k_L_shape_like => k_is)
   (case a_is_place_of_level => k_is); (case l_is_place_of_level => k_is); (case c_is_place_of_level => k_is); (case k_is_place_of_level => k_is)
   (case a_cone => k_is); (case l_cone => k_is); (case c_cone => k_is); (case k_cone => k_is)
   (case a_L_shape_by => k_is); (case l_L_shape_by => k_is); (case c_L_shape_by => k_is); (case k_L_shape_by => k_is)
   (case a_L_edge_by => k_is); (case l_L_edge_by => k_is); (case c_L_edge_by => k_is); (case k_L_edge_by => k_is)
   (case a_is_part => k_is); (case l_is_part => k_is); (case c_is_part => k_is); (case k_is_part => k_is)
   (case a_L_cone_told => k_is); (case l_L_cone_told => k_is); (case c_L_cone_told => k_is); (case k_L_cone_told => k_is)
   (case a_is_chain => k_is); (case l_is_chain => k_is); (case c_is_chain => k_is); (case k_is_chain => k_is)
   (case a_is_chain_of_some_level => k_is); (case l_is_chain_of_some_level => k_is); (case c_is_chain_of_some_level => k_is); (case k_is_chain_of_some_level => k_is)
   (case a_coned => k_is); (case l_coned => k_is); (case c_coned => k_is); (case k_coned => k_is)
   (case a_L_coned_told => k_is); (case l_L_coned_told => k_is); (case c_L_coned_told => k_is); (case k_L_coned_told => k_is)
   (case a_law => k_is); (case l_law => k_is); (case c_law => k_is); (case k_law => k_is)
   (case ak_HoleError => kts_isx); (case ae_NoShape => k_exc); (case ak_NoShape => kts_isx); (case a1_NoShape => k_is)
   (case a2_NoShape => k_is); (case a3_NoShape => k_is); (case a4_NoShape => k_is); (case a5_NoShape => k_is)
   (case ae_NoChain => k_exc); (case ak_NoChain => kts_isx); (case a1_NoChain => k_is); (case a2_NoChain => k_is)
   (case a3_NoChain => k_is); (case a4_NoChain => k_is); (case a5_NoChain => k_is); (case ae_NoGlue => k_exc)
   (case ak_NoGlue => kts_isx); (case a1_NoGlue => k_is); (case a2_NoGlue => k_is); (case a3_NoGlue => k_is)
   (case a4_NoGlue => k_is); (case a5_NoGlue => k_is); (case as_NoShape_HoleError => k_is); (case ai_NoShape_NoShape => kit_is)
   (case ai_NoShape_NoGlue => kit_is); (case ai_NoChain_HoleError => kit_is); (case ai_NoChain_NoShape => kit_is); (case as_NoChain_NoChain => k_is)
   (case ai_NoChain_NoGlue => kit_is); (case as_NoGlue_HoleError => k_is); (case ai_NoGlue_NoShape => kit_is); (case ai_NoGlue_NoGlue => kit_is)
   (case aq_LEVELS => k_is); (case aq_MOST_PIECES => k_is); (case z_isinstance => k_is); (case z_int => k_is)
   (case z_bool => k_is); (case z_max => k_is); (case z_len => k_is); (case z_tuple => k_is)
   (case z_all => k_is); (case z_dict => k_is); (case z_any => k_is); (case z_range => k_is)
   (case z_enumerate => k_is); (case z_list => k_is); (case z_sum => k_is)
