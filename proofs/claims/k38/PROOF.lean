import PyProof.Rows.All
import Wide.All
import OpenK.AllK
import Wide.FinOn
import Lean
import PyProof.EqAt
import PyProof.EqKinds
import PyProof.TupleCall
import PyProof.NsDelKeeps
import PyProof.NeKinds
import PySem.Challenge.RW_packhall_k38_grammar_of_texts
local macro_rules | `(tactic| trivial) => `(tactic| first | with_reducible assumption | lia | omega)
set_option Elab.async false
set_option linter.all false
set_option maxRecDepth 100000
namespace L2
open PySem PySem.Spec PyProof.Rows
noncomputable abbrev Key := Sum Int Str
noncomputable def keyIs : Key → Value → Bool
  | .inl k, v => Value.isInt k v
  | .inr x, v => Value.isStrOf x v
noncomputable def keyH (w : World) : Key → Int
  | .inl k => hashInt k
  | .inr x => hashStr w x
theorem keyIs_shape : ∀ {k : Key} {v : Value}, keyIs k v = true → (∃ i t, k = Sum.inl i ∧ v = Value.int i t) ∨ (∃ x t, k = Sum.inr x ∧ v = Value.str x t)
  | .inl i, v, h => by
    obtain ⟨t, e⟩ := Value.isInt_shape (k := i) (v := v) h
    exact .inl ⟨i, t, rfl, e⟩
  | .inr x, v, h => by
    obtain ⟨t, e⟩ := Value.isStrOf_shape (x := x) (v := v) h
    exact .inr ⟨x, t, rfl, e⟩
theorem keyIs_int (i : Int) (t : Tok) : keyIs (.inl i) (.int i t) = true := by simp [keyIs, Value.isInt]
theorem keyIs_str (x : Str) (t : Tok) : keyIs (.inr x) (.str x t) = true := by simp [keyIs, Value.isStrOf]
theorem key_ll (a b : Int) : decide ((Sum.inl a : Key) = Sum.inl b) = (a == b) := by
  by_cases e : a = b
  · subst e; simp
  · have h : ¬ (Sum.inl a : Key) = Sum.inl b := fun q => e (Sum.inl.inj q)
    rw [decide_eq_false h]
    exact (beq_eq_false_iff_ne.mpr e).symm
theorem key_rr (a b : Str) : decide ((Sum.inr a : Key) = Sum.inr b) = decide (a = b) := by
  by_cases e : a = b
  · subst e; simp
  · have h : ¬ (Sum.inr a : Key) = Sum.inr b := fun q => e (Sum.inr.inj q)
    rw [decide_eq_false h, decide_eq_false e]
theorem key_lr (a : Int) (b : Str) : decide ((Sum.inl a : Key) = Sum.inr b) = false := decide_eq_false (fun q => nomatch q)
theorem key_rl (a : Str) (b : Int) : decide ((Sum.inr a : Key) = Sum.inl b) = false := decide_eq_false (fun q => nomatch q)
noncomputable def mixKind (prog : Program) (w : World) : PySem.KeyKind prog w Key where
  is := keyIs
  hash := keyH w
  inj := fun v a b ha hb => by
    rcases keyIs_shape ha with ⟨i, t, rfl, rfl⟩ | ⟨x, t, rfl, rfl⟩
    · rcases keyIs_shape hb with ⟨j, u, rfl, e⟩ | ⟨y, u, rfl, e⟩
      · injection e with e1 _; rw [e1]
      · exact nomatch e
    · rcases keyIs_shape hb with ⟨j, u, rfl, e⟩ | ⟨y, u, rfl, e⟩
      · exact nomatch e
      · injection e with e1 _; rw [e1]
  byValue := fun k v h => by
    rcases keyIs_shape h with ⟨i, t, rfl, rfl⟩ | ⟨x, t, rfl, rfl⟩ <;> rfl
  pyHash := fun hv h => by
    rcases keyIs_shape hv with ⟨i, t, rfl, rfl⟩ | ⟨x, t, rfl, rfl⟩
    · exact wpAny_pyHash_int h
    · exact wpAny_pyHash_str h
  eqBool := fun hu hv h => by
    rcases keyIs_shape hu with ⟨i, t, rfl, rfl⟩ | ⟨x, t, rfl, rfl⟩
    · rcases keyIs_shape hv with ⟨j, u, rfl, rfl⟩ | ⟨y, u, rfl, rfl⟩
      · rw [key_ll] at h; exact wpAny_eqBool_int h
      · rw [key_lr] at h; exact SeqAt.EqAt.int_str i t y u _ _ _ _ h
    · rcases keyIs_shape hv with ⟨j, u, rfl, rfl⟩ | ⟨y, u, rfl, rfl⟩
      · rw [key_rl] at h; exact SeqAt.EqAt.str_int x t j u _ _ _ _ h
      · rw [key_rr] at h; exact wpAny_eqBool_str h
  «strs» := fun k x t v h => by
    rcases keyIs_shape h with ⟨i, u, rfl, e⟩ | ⟨y, u, rfl, e⟩
    · exact nomatch e
    · injection e with e1 _
      subst e1
      cases v <;> rfl
theorem mixKind_int (prog : Program) (w : World) (i : Int) (t : Tok) : (mixKind prog w).is (.inl i) (.int i t) = true := keyIs_int i t
theorem mixKind_str (prog : Program) (w : World) (x : Str) (t : Tok) : (mixKind prog w).is (.inr x) (.str x t) = true := keyIs_str x t
end L2
namespace L2
open PySem PySem.Spec PyProof.Rows
inductive V where
  | non | bl (b : Bool) | int (i : Int) | str (x : Str) | byt (b : Array UInt8) | flt (b : UInt64) | ref (a : Addr) | ty (n : String)
  deriving DecidableEq
noncomputable def RelV : V → Value → Prop
  | .non, u => u = Value.none
  | .bl b, u => u = Value.bool b
  | .int i, u => ∃ t, u = Value.int i t
  | .str x, u => ∃ t, u = Value.str x t
  | .byt b, u => ∃ t, u = Value.bytes b t
  | .flt b, u => ∃ t, u = Value.float b t
  | .ref a, u => u = Value.ref a
  | .ty n, u => u = Value.type n
noncomputable abbrev Vals : List V → List Value → Prop := Paired RelV
theorem Vals.length {xs : List V} {us : List Value} (r : Vals xs us) : xs.length = us.length := Paired.length r
theorem Vals.get : ∀ {xs : List V} {us : List Value} {i : Nat} {x : V}, Vals xs us → xs[i]? = some x → ∃ u, us[i]? = some u ∧ RelV x u
  | _, _, _, _, .nil, e => by simp at e
  | _, _, 0, _, .cons r _, e => by simp at e; subst e; exact ⟨_, rfl, r⟩
  | _, _, i + 1, x, .cons _ t, e => by
    obtain ⟨u, h1, h2⟩ := Vals.get (i := i) (x := x) t (by simpa using e)
    exact ⟨u, by simpa using h1, h2⟩
theorem Vals.set {x : V} {u : Value} (r : RelV x u) : ∀ {xs : List V} {us : List Value} (i : Nat), Vals xs us → Vals (xs.set i x) (us.set i u)
  | _, _, _, .nil => .nil
  | _, _, 0, .cons _ t => .cons r t
  | _, _, i + 1, .cons q t => .cons q (Vals.set r i t)
theorem Vals.append : ∀ {xs ys : List V} {us ws : List Value}, Vals xs us → Vals ys ws → Vals (xs ++ ys) (us ++ ws)
  | _, _, _, _, .nil, s => s
  | _, _, _, _, .cons r t, s => .cons r (Vals.append t s)
theorem Vals.take : ∀ {xs : List V} {us : List Value} (n : Nat), Vals xs us → Vals (xs.take n) (us.take n)
  | _, _, 0, _ => .nil
  | _, _, _ + 1, .nil => .nil
  | _, _, n + 1, .cons r t => .cons r (Vals.take n t)
theorem Vals.drop : ∀ {xs : List V} {us : List Value} (n : Nat), Vals xs us → Vals (xs.drop n) (us.drop n)
  | _, _, 0, r => r
  | _, _, _ + 1, .nil => .nil
  | _, _, n + 1, .cons _ t => Vals.drop n t
noncomputable def RelO : Option V → Option Value → Prop
  | some v, some u => RelV v u
  | none, none => True
  | _, _ => False
noncomputable def KV {κ : Type} : List (κ × V) → List (κ × Value) → Prop := Paired fun (p : κ × V) (q : κ × Value) => p.1 = q.1 ∧ RelV p.2 q.2
noncomputable def kV : Key → V
  | .inl i => .int i
  | .inr x => .str x
inductive HO where
  /-- a list -/
  | lst (xs : List V)
  /-- a tuple (never changes) -/
  | tup (xs : List V)
  /-- a dict whose keys are ints and texts; one whose keys are tuples of ints and texts (the empty one is both) -/
  | dK (kvs : List (Key × V)) | dT (kvs : List (List Key × V))
  /-- a set of ints: its members, its size -/
  | set (S : Int → Bool) (n : Nat)
  /-- an instance of the class at C, its dict at dx, its attributes -/
  | ins (C dx : Addr) (fs : List (Str × V))
  /-- the dict of the instance at x -/
  | own (x : Addr)
  /-- the dict of an exception -/
  | xd (fs : List (Str × V))
  /-- a bound method, f of x -/
  | met (f x : Addr)
  /-- a range object lo, lo + 1, .. below hi -/
  | rng (lo hi : Int)
  /-- a thing that is known to the object (the script; a dict while a loop walks it): read, never written while it is so -/
  | frz (o : Obj) (u : HO)
  /-- a code object's table -/
  | tbl (ps : Array Value)
  /-- any other thing, by what is true of its one object (a def of one's own: SetO a S n := HO.ext fun h => ..) -/
  | ext (φ : Heap → Prop)
noncomputable abbrev Hp := Addr → Option HO
noncomputable def upd (H : Hp) (a : Addr) (o : HO) : Hp := fun b => if b = a then some o else H b
theorem upd_same {H : Hp} {a : Addr} {o : HO} : upd H a o a = some o := by unfold upd; rw [if_pos rfl]
theorem upd_ne {H : Hp} {a b : Addr} {o : HO} (h : b ≠ a) : upd H a o b = H b := by unfold upd; rw [if_neg h]
theorem ne_of {H : Hp} {a b : Addr} {o u : HO} (h : H a = some o) (h' : H b = some u) (d : o ≠ u) : a ≠ b := by
  intro e; subst e; rw [h] at h'; exact d (Option.some.inj h')
theorem ne_of_none {H : Hp} {a b : Addr} {o : HO} (h : H a = some o) (h' : H b = none) : a ≠ b := by
  intro e; subst e; rw [h] at h'; cases h'
section
variable (P : Program) (w : World)
noncomputable def ObjOk (H : Hp) (h : Heap) (a : Addr) : HO → Prop
  | .lst xs => xs.length ≤ sizeLine ∧ ∃ (its : List Value) (n : Nat), Vals xs its ∧ h.get? a = some { cls := .type "list", data := .seq its.toArray n }
  | .tup xs => xs.length ≤ sizeLine ∧ ∃ its : List Value, Vals xs its ∧ IsTup h a its.toArray
  | .dK kvs => kvs.length ≤ sizeLine ∧ (a == sysModules) = false ∧ ∃ vs, KV kvs vs ∧ h.DictOf (mixKind P w) a vs
  | .dT kvs => kvs.length ≤ sizeLine ∧ (a == sysModules) = false ∧ ∃ xs : List (List Key × Addr × Value),
      Paired (fun (p : List Key × V) (q : List Key × Addr × Value) => p.1 = q.1 ∧ H q.2.1 = some (.tup (p.1.map kV)) ∧ RelV p.2 q.2.2) kvs xs ∧
      ∃ o es ep, h.get? a = some o ∧ o.ExactDict ∧ o.data = .dict es ep ∧ es.toList = xs.map (entryOfKey (tupleKind (mixKind P w))) ∧ (xs.map (·.1)).Nodup
  | .set S n => h.SetOf (intKind P w) a S n
  | .ins C dx fs => H dx = some (.own a) ∧ fs.length ≤ 1000 ∧ dx ≠ a ∧ h.get? a = some (PySem.W.instObj C dx) ∧
      ∃ mA, h.Ns1 dx mA ∧ (∀ f, RelO (fs.lookup f) (mA f)) ∧ PySem.Within mA (fs.map (·.1))
  | .own _ => ∃ o, h.get? a = some o
  | .xd fs => ∃ mA, h.Ns1 a mA ∧ ∀ f, RelO (fs.lookup f) (mA f)
  | .rng lo hi => ∃ t u v, h.get? a = some { cls := .type "range", data := .fields #[.int lo t, .int hi u, .int 1 v] }
  | .frz o u => h.get? a = some o ∧ ObjOk H h a u
  | .tbl ps => h.get? a = some { cls := .none, data := .fields ps }
  | .met f x => h.get? a = some (PySem.W.methodObj (.ref f) (.ref x))
  | .ext φ => φ h ∧ (∃ o, h.get? a = some o) ∧ ∀ h1 h2 : Heap, φ h1 → (∀ o, h1.get? a = some o → h2.get? a = some o) → φ h2
noncomputable def HOk (H : Hp) (h : Heap) : Prop := ∀ a o, H a = some o → ObjOk P w H h a o
end
section
variable {P : Program} {w : World} {H H' : Hp} {h h' : Heap} {a : Addr} {o : HO}
theorem ObjOk.lt (x : ObjOk P w H h a o) : a < h.objs.size := by
  cases o with
  | lst xs => obtain ⟨_, _, _, _, e⟩ := x; exact Heap.lt_size e
  | tup xs => obtain ⟨_, _, _, p⟩ := x; exact p.lt
  | dK kvs => obtain ⟨_, _, _, _, o, _, _, e, _⟩ := x; exact Heap.lt_size e
  | dT kvs => obtain ⟨_, _, _, _, o, _, _, e, _⟩ := x; exact Heap.lt_size e
  | set S n => obtain ⟨o, _, _, _, e, _⟩ := x; exact Heap.lt_size e
  | ins C dx fs => obtain ⟨_, _, _, e, _⟩ := x; exact Heap.lt_size e
  | own y => obtain ⟨_, e⟩ := x; exact Heap.lt_size e
  | xd fs => obtain ⟨_, ⟨_, _, _, e, _⟩, _⟩ := x; exact Heap.lt_size e
  | rng lo hi => obtain ⟨_, _, _, e⟩ := x; exact Heap.lt_size e
  | frz ob u => obtain ⟨e, _⟩ := x; exact Heap.lt_size e
  | tbl ps => exact Heap.lt_size (show h.get? a = some _ from x)
  | met f y => exact Heap.lt_size (show h.get? a = some _ from x)
  | ext φ => obtain ⟨_, ⟨_, e⟩, _⟩ := x; exact Heap.lt_size e
theorem Paired.mapP {α β : Type} {F G : α → β → Prop} : ∀ {l₁ : List α} {l₂ : List β}, Paired F l₁ l₂ → (∀ a b, F a b → G a b) → Paired G l₁ l₂
  | _, _, .nil, _ => .nil
  | _, _, .cons r t, f => .cons (f _ _ r) (Paired.mapP t f)
theorem ObjOk.stay (x : ObjOk P w H h a o) (k : ∀ b u, (b = a ∨ H b = some (.own a)) → h.get? b = some u → h'.get? b = some u)
    (ho : ∀ b, H b = some (.own a) → H' b = some (.own a)) (ht : ∀ b xs, H b = some (.tup xs) → H' b = some (.tup xs)) : ObjOk P w H' h' a o := by
  induction o with
  | lst xs => obtain ⟨z, its, n, r, e⟩ := x; exact ⟨z, its, n, r, k _ _ (.inl rfl) e⟩
  | tup xs => obtain ⟨z, its, r, ob, e, c⟩ := x; exact ⟨z, its, r, ob, k _ _ (.inl rfl) e, c⟩
  | dK kvs => obtain ⟨z, y, vs, r, ob, es, ep, e, c⟩ := x; exact ⟨z, y, vs, r, ob, es, ep, k _ _ (.inl rfl) e, c⟩
  | dT kvs =>
    obtain ⟨z, y, xs, r, ob, es, ep, e, c⟩ := x
    exact ⟨z, y, xs, Paired.mapP r fun p q z => ⟨z.1, ht _ _ z.2.1, z.2.2⟩, ob, es, ep, k _ _ (.inl rfl) e, c⟩
  | set S n => obtain ⟨ob, es, ep, t, e, c⟩ := x; exact ⟨ob, es, ep, t, k _ _ (.inl rfl) e, c⟩
  | ins C dx fs =>
    obtain ⟨d, z, ne, e, mA, ⟨od, es, ep, e2, c⟩, r⟩ := x
    exact ⟨ho _ d, z, ne, k _ _ (.inl rfl) e, mA, ⟨od, es, ep, k _ _ (.inr d) e2, c⟩, r⟩
  | own y => obtain ⟨ob, e⟩ := x; exact ⟨ob, k _ _ (.inl rfl) e⟩
  | xd fs => obtain ⟨mA, ⟨od, es, ep, e, c⟩, r⟩ := x; exact ⟨mA, ⟨od, es, ep, k _ _ (.inl rfl) e, c⟩, r⟩
  | rng lo hi => obtain ⟨t, u, v, e⟩ := x; exact ⟨t, u, v, k _ _ (.inl rfl) e⟩
  | frz ob u ih => obtain ⟨e, q⟩ := x; exact ⟨k _ _ (.inl rfl) e, ih q⟩
  | tbl ps =>
    have e : h.get? a = some { cls := .none, data := .fields ps } := x
    show h'.get? a = some { cls := .none, data := .fields ps }
    exact k a _ (.inl rfl) e
  | met f y =>
    have e : h.get? a = some (PySem.W.methodObj (.ref f) (.ref y)) := x
    show h'.get? a = some (PySem.W.methodObj (.ref f) (.ref y))
    exact k a _ (.inl rfl) e
  | ext φ => obtain ⟨p, ⟨o, e⟩, st⟩ := x; exact ⟨st _ _ p fun o q => k _ _ (.inl rfl) q, ⟨o, k _ _ (.inl rfl) e⟩, st⟩
theorem HOk.lt (x : HOk P w H h) (e : H a = some o) : a < h.objs.size := (x a o e).lt
theorem HOk.fresh (x : HOk P w H h) (e : h.objs.size ≤ a) : H a = none := by
  cases q : H a with
  | none => rfl
  | some u => exact absurd (Nat.lt_of_lt_of_le (x.lt q) e) (Nat.lt_irrefl _)
theorem HOk.kept (x : HOk P w H h) (k : ∀ b u, h.get? b = some u → h'.get? b = some u) : HOk P w H h' := fun a o e =>
  (x a o e).stay (fun b u _ q => k b u q) (fun _ q => q) fun _ _ q => q
theorem HOk.laid (x : HOk P w H h) (k : ∀ b u, h.get? b = some u → h'.get? b = some u) (hp : h.objs.size ≤ a) (new : ObjOk P w (upd H a o) h' a o) : HOk P w (upd H a o) h' := fun b u e => by
  have hn := x.fresh hp
  by_cases hb : b = a
  · subst hb; rw [upd_same] at e; cases e; exact new
  · rw [upd_ne hb] at e
    exact (x b u e).stay (fun c v _ q => k c v q) (fun c q => by rw [upd_ne (ne_of_none q hn)]; exact q) fun c xs q => by rw [upd_ne (ne_of_none q hn)]; exact q
end
noncomputable def Rd (H : Hp) (a : Addr) (u : HO) : Prop := H a = some u ∨ ∃ o, H a = some (.frz o u)
theorem Rd.ok {P : Program} {w : World} {H : Hp} {h : Heap} {a : Addr} {u : HO} (r : Rd H a u) (x : HOk P w H h) : ObjOk P w H h a u := by
  rcases r with r | ⟨o, r⟩
  · exact x a u r
  · obtain ⟨_, q⟩ := x a _ r
    exact q
noncomputable def Mut : Option HO → Prop
  | some (.lst _) => True
  | some (.dK _) => True
  | some (.dT _) => True
  | some (.set _ _) => True
  | some (.ins _ _ _) => True
  | some (.ext _) => True
  | _ => False
section
variable {P : Program} {w : World} {H : Hp} {h h' : Heap} {x e : Addr} {o' : HO}
theorem HOk.write (ok : HOk P w H h) (mu : Mut (H x)) (he : e = x ∨ H e = some (.own x)) (k : ∀ b u, b ≠ e → h.get? b = some u → h'.get? b = some u) (heo : ∃ u, h'.get? e = some u)
    (new : ObjOk P w (upd H x o') h' x o') : HOk P w (upd H x o') h' := fun b u q => by
  have nown : ∀ c y, H c = some (.own y) → c ≠ x := fun c y r z => by subst z; rw [r] at mu; exact mu
  have ntup : ∀ c xs, H c = some (.tup xs) → c ≠ x := fun c xs r z => by subst z; rw [r] at mu; exact mu
  by_cases hb : b = x
  · subst hb; rw [upd_same] at q; cases q; exact new
  · rw [upd_ne hb] at q
    by_cases hbe : b = e
    · have q' : H b = some (.own x) := by
        rcases he with z | z
        · exact absurd (hbe.trans z) hb
        · rw [hbe]; exact z
      rw [q] at q'; cases q'
      obtain ⟨v, hv⟩ := heo
      exact ⟨v, by rw [hbe]; exact hv⟩
    · refine (ok b u q).stay (fun c v hc r => k c v ?_ r) (fun c r => by rw [upd_ne (nown c b r)]; exact r) fun c xs r => by rw [upd_ne (ntup c xs r)]; exact r
      rcases hc with rfl | hc
      · exact hbe
      · rintro rfl
        rcases he with z | z
        · exact nown c b hc z
        · rw [hc] at z; cases z; exact hb rfl
end
structure Un (fs ex : List Addr) (H H' : Hp) (h h' : Heap) : Prop where
  keep : ∀ b o, h.get? b = some o → H b = none → b ∉ fs → b ∉ ex → h'.get? b = some o
  slot : ∀ b o, h.get? b = some o → H b = none → b ∈ fs → b ∉ ex → ∃ sl, h'.get? b = some { o with slots := sl }
  free : ∀ b o, h.get? b = some o → H b = none → b ∉ ex → H' b = none
  there : ∀ b o, h.get? b = some o → b ∉ ex → ∃ o', h'.get? b = some o'
  tups : ∀ b xs, H b = some (.tup xs) → H' b = some (.tup xs)
  frzs : ∀ b o u, H b = some (.frz o u) → H' b = some (.frz o u)
  tbls : ∀ b ps, H b = some (.tbl ps) → ∃ more, H' b = some (.tbl (ps ++ more))
section
variable {fs fs' ex ex' : List Addr} {H H1 H2 : Hp} {h h1 h2 h' : Heap} {a x e : Addr} {o : HO}
theorem Un.any (u : Un fs ex H H1 h h1) {b : Addr} {ob : Obj} (q : h.get? b = some ob) (n : H b = none) (hx : b ∉ ex) : ∃ sl, h1.get? b = some { ob with slots := sl } := by
  by_cases hb : b ∈ fs
  · exact u.slot b ob q n hb hx
  · exact ⟨ob.slots, u.keep b ob q n hb hx⟩
theorem Un.kept (k : ∀ b u, h.get? b = some u → h'.get? b = some u) : Un fs ex H H h h' :=
  ⟨fun b ob q _ _ _ => k b ob q, fun b ob q _ _ _ => ⟨ob.slots, k b ob q⟩, fun _ _ _ n _ => n, fun b ob q _ => ⟨ob, k b ob q⟩, fun _ _ q => q, fun _ _ _ q => q, fun _ ps q => ⟨#[], by rw [q]; simp⟩⟩
theorem Un.refl : Un fs ex H H h h := Un.kept fun _ _ q => q
theorem Un.laid (k : ∀ b u, h.get? b = some u → h'.get? b = some u) (hp : h.objs.size ≤ a) (hn : H a = none) : Un fs ex H (upd H a o) h h' where
  keep := fun b u q _ _ _ => k b u q
  slot := fun b u q _ _ _ => ⟨u.slots, k b u q⟩
  free := fun b u q n _ => by rw [upd_ne (Nat.ne_of_lt (Nat.lt_of_lt_of_le (Heap.lt_size q) hp))]; exact n
  there := fun b u q _ => ⟨u, k b u q⟩
  tups := fun b xs q => by rw [upd_ne (ne_of_none q hn)]; exact q
  frzs := fun b u xs q => by rw [upd_ne (ne_of_none q hn)]; exact q
  tbls := fun b ps q => ⟨#[], by rw [upd_ne (ne_of_none q hn), q]; simp⟩
theorem Un.write (mu : Mut (H x)) (he : e = x ∨ H e = some (.own x)) (k : ∀ b u, b ≠ e → h.get? b = some u → h'.get? b = some u) (heo : ∃ u, h'.get? e = some u) : Un fs ex H (upd H x o) h h' := by
  have hx : ∀ b, H b = none → b ≠ x := fun b n z => by subst z; rw [n] at mu; exact mu
  have hb : ∀ b, H b = none → b ≠ e := fun b n z => by
    subst z
    rcases he with r | r
    · exact hx b n r
    · rw [n] at r; cases r
  have hm : ∀ b u, H b = some u → ¬ Mut (some u) → b ≠ x := fun b u q nm z => by subst z; rw [q] at mu; exact nm mu
  refine ⟨fun b u q n _ _ => k b u (hb b n) q, fun b u q n _ _ => ⟨u.slots, k b u (hb b n) q⟩, fun b u q n _ => by rw [upd_ne (hx b n)]; exact n, fun b u q _ => ?_,
    fun b xs q => by rw [upd_ne (hm b _ q fun z => z)]; exact q, fun b u xs q => by rw [upd_ne (hm b _ q fun z => z)]; exact q, fun b ps q => ⟨#[], by rw [upd_ne (hm b _ q fun z => z), q]; simp⟩⟩
  by_cases hbe : b = e
  · subst hbe; exact heo
  · exact ⟨u, k b u hbe q⟩
end
noncomputable def trk (h : Heap) (H : Hp) : List Addr := (List.range h.objs.size).filter fun a => (H a).isSome
noncomputable def hidT (h : Heap) (H : Hp) : Heap := PySem.W.hideAll h (trk h H)
theorem hidT_size (h : Heap) (H : Hp) : (hidT h H).objs.size = h.objs.size := PySem.W.hideAll_size _ _
theorem hidT_get {h : Heap} {H : Hp} {b : Addr} {o : Obj} (e : h.get? b = some o) (n : H b = none) : (hidT h H).get? b = some o :=
  PySem.W.hideAll_get _ e fun hm => by
    have q : (H b).isSome = true := (List.mem_filter.mp hm).2
    rw [n] at q; simp at q
theorem of_hidT {h : Heap} {H : Hp} {b : Addr} {o : Obj} (e : (hidT h H).get? b = some o) : h.get? b = some o ∧ H b = none := by
  have e' : h.get? b = some o := PySem.W.of_hideAll (trk h H) e
  refine ⟨e', ?_⟩
  cases q : H b with
  | none => rfl
  | some x =>
    have hm : b ∈ trk h H := List.mem_filter.mpr ⟨List.mem_range.mpr (Heap.lt_size e'), by simp [q]⟩
    have z : (hidT h H).get? b = none := PySem.W.hideAll_none (trk h H) hm
    rw [z] at e; cases e
end L2
namespace L2
open PySem PySem.Spec PyProof.Rows
structure Mod (K : PySem.W.Frag) (mg : Str → Option Value) (base : Heap) : Prop where
  kin : K.In base
  glob : base.Ns mainGlobals mg
  blt : ∃ mb, base.Ns builtinsNs mb ∧ ∀ x : Str, x ≠ "__name__" → mb x = bootBuiltins x
  nolimit : base.NoLimit
structure Cx where
  prog : Program
  w : World
  K : PySem.W.Frag
  mg : Str → Option Value
  base : Heap
  A : Around
  N : List Str
  s₀ : Shared
  H₀ : Hp
  env : Env
  outer : List Env
  stack : List Env
  ex : List Addr
  fn : Str → Bool
  calm : Bool
  pn : List (Addr × Obj)
  xe : Value → Shared → Prop
noncomputable def frs (l : List Env) : List Addr := l.filterMap (·.frame)
noncomputable abbrev Cx.fs (X : Cx) : List Addr := frs X.outer
noncomputable def Vis (sc : Scope) (x : Str) : Prop := sc.names.lookup x = some .local ∨ sc.names.lookup x = some .cell ∨ sc.names.lookup x = some .free
noncomputable def Loc (sc : Scope) (x : Str) : Prop := sc.names.lookup x = some .local ∨ sc.names.lookup x = some .cell
noncomputable def Look (env : Env) (h : Heap) (m : Str → Option Value) (x : Str) (u : Value) : Prop :=
  (env.kindOf x = some .local ∧ m x = some u) ∨ ((env.kindOf x = some .cell ∨ env.kindOf x = some .free) ∧ ∃ c, env.cells.lookup x = some c ∧ h.IsCell c (some u))
structure Cx.Ok (X : Cx) : Prop where
  mod : Mod X.K X.mg X.base
  kind : X.env.scope.kind = .function
  glob : X.env.globals = mainGlobals
  blt : X.env.builtins = builtinsNs
  above : X.s₀.heap.objs.size ≤ X.env.locals
  inj : ∀ x y c, X.env.cells.lookup x = some c → X.env.cells.lookup y = some c → x = y
  has : ∀ x, (X.env.kindOf x = some .cell ∨ X.env.kindOf x = some .free) → ∃ c, X.env.cells.lookup x = some c
  cab : ∀ x c, X.fn x = true → X.env.cells.lookup x = some c → X.s₀.heap.objs.size ≤ c
  hd : X.calm = true → X.A.handled = none
  frames : X.A.frames = some X.stack
  stk : X.stack = X.outer ∨ (X.stack = X.env :: X.outer ∧ X.env.frame = some X.env.locals)
  exf : ∀ b ∈ X.ex, b ≠ X.env.locals ∧ ∀ x c, X.env.cells.lookup x = some c → c ≠ b
  bs : ∀ b o, X.base.get? b = some o → X.s₀.heap.get? b = some o ∧ X.H₀ b = none
  bsz : X.base.objs.size ≤ X.s₀.heap.objs.size
  noex : ∀ b o, X.base.get? b = some o → b ∉ X.ex
  exfs : ∀ b ∈ X.ex, b ∉ X.fs
  funs : X.s₀.heap.FunFrames X.base X.outer
  frf : ∀ b ∈ X.fs, X.H₀ b = none
structure Inv (X : Cx) (pins : List (Addr × Obj)) (σ : List (Option V)) (H : Hp) (s : Shared) : Prop where
  ok : X.Ok
  os : s.os = X.s₀.os
  bare : AllBare s.gens
  base : Un X.fs X.ex X.H₀ H X.s₀.heap s.heap
  loc : ∃ m, s.heap.Ns X.env.locals m ∧ ∀ (i : Nat) (x : Str) (v : V), X.N[i]? = some x → σ[i]? = some (some v) → Vis X.env.scope x → ∃ u, RelV v u ∧ Look X.env s.heap m x u
  cell : ∀ x c, X.env.cells.lookup x = some c → ∃ v, s.heap.IsCell c v
  free : H X.env.locals = none
  freeC : ∀ x c, X.env.cells.lookup x = some c → H c = none
  pin : ∀ p ∈ X.pn ++ pins, s.heap.get? p.1 = some p.2 ∧ H p.1 = none ∧ p.1 ≠ X.env.locals ∧ p.1 ∉ X.fs ∧ ∀ v, p.2.data ≠ .cell v
  hok : HOk X.prog X.w H s.heap
  len : σ.length = X.N.length
section
variable {X : Cx} {pins : List (Addr × Obj)} {σ : List (Option V)} {H H' : Hp} {s : Shared} {h' : Heap}
theorem Cx.Ok.nofr (ok : X.Ok) {b : Addr} {o : Obj} (e : X.base.get? b = some o) : b ∉ X.fs := fun hb => by
  have := (ok.funs.mem hb).1
  rw [e] at this; cases this
theorem Inv.bs (I : Inv X pins σ H s) : ∀ b o, X.base.get? b = some o → s.heap.get? b = some o ∧ H b = none := fun b o e =>
  ⟨I.base.keep b o (I.ok.bs b o e).1 (I.ok.bs b o e).2 (I.ok.nofr e) (I.ok.noex b o e), I.base.free b o (I.ok.bs b o e).1 (I.ok.bs b o e).2 (I.ok.noex b o e)⟩
theorem Inv.bk (I : Inv X pins σ H s) : ∀ b o, X.base.get? b = some o → s.heap.get? b = some o := fun b o e => (I.bs b o e).1
theorem Inv.mod (I : Inv X pins σ H s) : Mod X.K X.mg X.base := I.ok.mod
theorem Inv.kIn (I : Inv X pins σ H s) : X.K.In s.heap := I.ok.mod.kin.keeps I.bk
theorem Inv.lt (I : Inv X pins σ H s) : X.env.locals < s.heap.objs.size := let ⟨_, hn, _⟩ := I.loc; hn.lt
theorem Inv.sz (I : Inv X pins σ H s) : X.s₀.heap.objs.size ≤ s.heap.objs.size := Nat.le_trans I.ok.above (Nat.le_of_lt I.lt)
theorem Inv.nofs (I : Inv X pins σ H s) {a : Addr} (h : s.heap.objs.size ≤ a) : a ∉ X.fs := fun hb => by
  obtain ⟨_, o, ho, _⟩ := I.ok.funs.mem hb
  exact absurd (Nat.lt_of_lt_of_le (Heap.lt_size ho) (Nat.le_trans I.sz h)) (Nat.lt_irrefl _)
theorem Inv.cne (I : Inv X pins σ H s) : ∀ x c, X.env.cells.lookup x = some c → c ≠ X.env.locals := fun x c e z => by
  obtain ⟨v, o, ho, hd⟩ := I.cell x c e
  obtain ⟨m, ⟨o', es, ep, ho', hd', _⟩, _⟩ := I.loc
  rw [z, ho'] at ho; cases ho; rw [hd'] at hd; cases hd
theorem Inv.funs (I : Inv X pins σ H s) : s.heap.FunFrames X.base X.outer := by
  have all : ∀ (l : List Env), (∀ b ∈ frs l, b ∈ X.fs) → X.s₀.heap.FunFrames X.base l → s.heap.FunFrames X.base l := by
    intro l
    induction l with
    | nil => intro _ _; trivial
    | cons env r ih =>
      intro hs hl
      obtain ⟨hk, ⟨L, o, hf, hn, ho, hd⟩, hr⟩ := hl
      have hL : L ∈ X.fs := hs L (by unfold frs; rw [List.filterMap_cons, hf]; exact List.mem_cons_self)
      obtain ⟨sl, e⟩ := I.base.slot L o ho (I.ok.frf L hL) hL fun z => I.ok.exfs L z hL
      exact ⟨hk, ⟨L, _, hf, hn, e, hd⟩, ih (fun b hb => hs b (by unfold frs; rw [List.filterMap_cons, hf]; exact List.mem_cons_of_mem _ hb)) hr⟩
  exact all X.outer (fun _ hb => hb) I.ok.funs
theorem Inv.stack (I : Inv X pins σ H s) : s.heap.FunFrames X.base X.stack := by
  rcases I.ok.stk with e | ⟨e, hf⟩
  · rw [e]; exact I.funs
  · rw [e]
    obtain ⟨m, hn, _⟩ := I.loc
    refine .cons (by rw [I.ok.kind]; decide) hf hn ?_ I.funs
    exact Heap.get?_none_of_le (Nat.le_trans I.ok.bsz I.ok.above)
theorem Inv.stkSub (I : Inv X pins σ H s) : ∀ b ∈ frs X.stack, b ∈ X.env.locals :: X.fs := fun b hb => by
  rcases I.ok.stk with e | ⟨e, hf⟩
  · rw [e] at hb; exact List.mem_cons_of_mem _ hb
  · rw [e] at hb
    unfold frs at hb
    rw [List.filterMap_cons, hf] at hb
    exact hb
theorem Inv.stkFree (I : Inv X pins σ H s) : ∀ b ∈ frs X.stack, H b = none := fun b hb => by
  rcases List.mem_cons.mp (I.stkSub b hb) with e | hb
  · rw [e]; exact I.free
  · obtain ⟨_, o, ho, _⟩ := I.ok.funs.mem hb
    exact I.base.free b o ho (I.ok.frf b hb) fun z => I.ok.exfs b z hb
theorem Inv.step {g' : Array GenState} {t' : Nat} {d' : Drawn} {ch : List Addr} (I : Inv X pins σ H s)
    (hch : ∀ b ∈ ch, (b ∈ X.ex ∨ X.s₀.heap.objs.size ≤ b) ∧ b ≠ X.env.locals ∧ (∀ x c, X.env.cells.lookup x = some c → c ≠ b) ∧ ∀ p ∈ X.pn ++ pins, p.1 ≠ b)
    (keep : ∀ b o, b ≠ X.env.locals → b ∉ X.fs → b ∉ ch → s.heap.get? b = some o → H b = none → h'.get? b = some o)
    (slot : ∀ b o, b ≠ X.env.locals → b ∈ X.fs → b ∉ ch → s.heap.get? b = some o → H b = none → ∃ sl, h'.get? b = some { o with slots := sl }) (free : ∀ b o, b ∉ ch → s.heap.get? b = some o → H b = none → H' b = none)
    (there : ∀ b o, b ∉ ch → s.heap.get? b = some o → ∃ o', h'.get? b = some o')
    (tups : ∀ b xs, H b = some (.tup xs) → H' b = some (.tup xs)) (frzs : ∀ b o u, H b = some (.frz o u) → H' b = some (.frz o u)) (tbls : ∀ b ps, H b = some (.tbl ps) → ∃ more, H' b = some (.tbl (ps ++ more)))
    (ns : ∀ m, s.heap.Ns X.env.locals m → h'.Ns X.env.locals m) (hok : HOk X.prog X.w H' h') (hg : AllBare g') :
    Inv X pins σ H' { s with heap := h', gens := g', drawn := d', toks := t' } := by
  have neL : ∀ b o, X.s₀.heap.get? b = some o → b ≠ X.env.locals := fun b o e => Nat.ne_of_lt (Nat.lt_of_lt_of_le (Heap.lt_size e) I.ok.above)
  have neC : ∀ b o, X.s₀.heap.get? b = some o → b ∉ X.ex → b ∉ ch := fun b o e hx hb => by
    rcases (hch b hb).1 with z | z
    · exact hx z
    · exact absurd (Nat.lt_of_lt_of_le (Heap.lt_size e) z) (Nat.lt_irrefl _)
  have cellK : ∀ x c, X.env.cells.lookup x = some c → ∀ v, s.heap.IsCell c v → h'.IsCell c v := fun x c e v ⟨o, ho, hd⟩ => by
    have nch : c ∉ ch := fun z => (hch c z).2.2.1 x c e rfl
    by_cases hc : c ∈ X.fs
    · obtain ⟨sl, q⟩ := slot c o (I.cne x c e) hc nch ho (I.freeC x c e)
      exact ⟨_, q, hd⟩
    · exact ⟨o, keep c o (I.cne x c e) hc nch ho (I.freeC x c e), hd⟩
  refine ⟨I.ok, I.os, hg, ⟨fun b o e n hb hx => ?_, fun b o e n hb hx => ?_, fun b o e n hx => ?_, fun b o e hx => ?_, fun b xs e => tups b xs (I.base.tups b xs e), fun b o xs e => frzs b o xs (I.base.frzs b o xs e), fun b ps e => ?_⟩, ?_, fun x c e => ?_, ?_, fun x c e => ?_, fun p hp => ?_, hok, I.len⟩
  · exact keep b o (neL b o e) hb (neC b o e hx) (I.base.keep b o e n hb hx) (I.base.free b o e n hx)
  · obtain ⟨sl, e1⟩ := I.base.slot b o e n hb hx
    obtain ⟨sl', e2⟩ := slot b _ (neL b o e) hb (neC b o e hx) e1 (I.base.free b o e n hx)
    exact ⟨sl', e2⟩
  · obtain ⟨o', e1⟩ := I.base.there b o e hx
    exact free b o' (neC b o e hx) e1 (I.base.free b o e n hx)
  · obtain ⟨o', e1⟩ := I.base.there b o e hx
    exact there b o' (neC b o e hx) e1
  · obtain ⟨m1, e1⟩ := I.base.tbls b ps e
    obtain ⟨m2, e2⟩ := tbls b _ e1
    exact ⟨m1 ++ m2, by rw [e2, Array.append_assoc]⟩
  · obtain ⟨m, hn, hl⟩ := I.loc
    refine ⟨m, ns m hn, fun i x v e1 e2 e3 => ?_⟩
    obtain ⟨u, r, l⟩ := hl i x v e1 e2 e3
    refine ⟨u, r, ?_⟩
    rcases l with l | ⟨k, c, e, z⟩
    · exact .inl l
    · exact .inr ⟨k, c, e, cellK x c e _ z⟩
  · obtain ⟨v, z⟩ := I.cell x c e
    exact ⟨v, cellK x c e v z⟩
  · obtain ⟨m, ⟨o, _, _, ho, _⟩, _⟩ := I.loc
    exact free _ o (fun z => (hch _ z).2.1 rfl) ho I.free
  · obtain ⟨v, o, ho, hd⟩ := I.cell x c e
    exact free c o (fun z => (hch c z).2.2.1 x c e rfl) ho (I.freeC x c e)
  · obtain ⟨e, n, ne, nf, d⟩ := I.pin p hp
    have nch : p.1 ∉ ch := fun z => (hch p.1 z).2.2.2 p hp rfl
    exact ⟨keep p.1 p.2 ne nf nch e n, free p.1 p.2 nch e n, ne, nf, d⟩
theorem Inv.un {t' : Nat} (I : Inv X pins σ H s) (u : Un X.fs [] H H' s.heap h') (hok : HOk X.prog X.w H' h') : Inv X pins σ H' { s with heap := h', toks := t' } := by
  obtain ⟨m, ⟨o, es, ep, ho, r⟩, _⟩ := id I.loc
  obtain ⟨sl, hL⟩ := u.any ho I.free (by simp)
  exact I.step (g' := s.gens) (d' := s.drawn) (ch := []) (fun _ z => nomatch z) (fun b o _ hb _ e n => u.keep b o e n hb (by simp)) (fun b o _ hb _ e n => u.slot b o e n hb (by simp)) (fun b o _ e n => u.free b o e n (by simp)) (fun b o _ e => u.there b o e (by simp)) u.tups u.frzs u.tbls (fun m' hm => by
    obtain ⟨o', es', ep', ho', r'⟩ := hm
    rw [ho] at ho'; cases ho'
    exact ⟨_, es', ep', hL, r'⟩) hok I.bare
theorem Inv.call {g' : Array GenState} {t' : Nat} {d' : Drawn} {ch : List Addr} (I : Inv X pins σ H s) (u : Un (frs X.stack) ch H H' s.heap h') (hok : HOk X.prog X.w H' h') (hg : AllBare g')
    (hch : ∀ b ∈ ch, (b ∈ X.ex ∨ X.s₀.heap.objs.size ≤ b) ∧ b ≠ X.env.locals ∧ (∀ x c, X.env.cells.lookup x = some c → c ≠ b) ∧ ∀ p ∈ X.pn ++ pins, p.1 ≠ b) :
    Inv X pins σ H' { s with heap := h', gens := g', drawn := d', toks := t' } := by
  obtain ⟨m, ⟨o, es, ep, ho, r⟩, _⟩ := id I.loc
  obtain ⟨sl, hL⟩ := u.any ho I.free fun z => (hch _ z).2.1 rfl
  exact I.step (ch := ch) hch (fun b o hL hb hc e n => u.keep b o e n (fun z => (List.mem_cons.mp (I.stkSub b z)).elim hL hb) hc) (fun b o _ _ hc e n => u.any e n hc) (fun b o hc e n => u.free b o e n hc) (fun b o hc e => u.there b o e hc) u.tups u.frzs u.tbls (fun m' hm => by
    obtain ⟨o', es', ep', ho', r'⟩ := hm
    rw [ho] at ho'; cases ho'
    exact ⟨_, es', ep', hL, r'⟩) hok hg
theorem Inv.turned {t' : Nat} {it : Addr} (I : Inv X pins σ H s) (k : ∀ b o, b ≠ it → s.heap.get? b = some o → h'.get? b = some o) (hn : H it = none) (hL : it ≠ X.env.locals)
    (h1 : it ∈ X.ex ∨ X.s₀.heap.objs.size ≤ it) (h2 : ∀ x c, X.env.cells.lookup x = some c → c ≠ it) (h3 : ∀ p ∈ X.pn ++ pins, p.1 ≠ it) : Inv X pins σ H { s with heap := h', toks := t' } := by
  have nit : ∀ b u, H b = some u → b ≠ it := fun b u e z => by rw [z, hn] at e; cases e
  refine I.step (g' := s.gens) (d' := s.drawn) (ch := [it]) (fun b hb => ?_) (fun b o _ _ hc e _ => k b o (fun z => hc (by simp [z])) e) (fun b o _ _ hc e _ => ⟨o.slots, k b o (fun z => hc (by simp [z])) e⟩) (fun _ _ _ _ n => n)
    (fun b o hc e => ⟨o, k b o (fun z => hc (by simp [z])) e⟩) (fun _ _ e => e) (fun _ _ _ e => e) (fun b ps e => ⟨#[], by rw [e]; simp⟩) (fun m hm => ?_) (fun b u e => ?_) I.bare
  · have e : b = it := by simpa using hb
    subst e
    exact ⟨h1, hL, h2, h3⟩
  · obtain ⟨o, es, ep, ho, r⟩ := hm
    exact ⟨o, es, ep, k _ o (Ne.symm hL) ho, r⟩
  · refine (I.hok b u e).stay (fun c v hc q => k c v ?_ q) (fun _ q => q) fun _ _ q => q
    rcases hc with z | z
    · rw [z]; exact nit b u e
    · exact nit c _ z
theorem Inv.tok (I : Inv X pins σ H s) (t : Nat) : Inv X pins σ H { s with toks := t } := I.un (h' := s.heap) (t' := t) Un.refl I.hok
theorem Inv.kept {t' : Nat} (I : Inv X pins σ H s) (k : ∀ b u, s.heap.get? b = some u → h'.get? b = some u) : Inv X pins σ H { s with heap := h', toks := t' } := I.un (Un.kept k) (I.hok.kept k)
theorem Inv.laid {a : Addr} {o : HO} {t' : Nat} (I : Inv X pins σ H s) (k : ∀ b u, s.heap.get? b = some u → h'.get? b = some u) (hp : s.heap.objs.size ≤ a) (new : ObjOk X.prog X.w (upd H a o) h' a o) :
    Inv X pins σ (upd H a o) { s with heap := h', toks := t' } := I.un (Un.laid k hp (I.hok.fresh hp)) (I.hok.laid k hp new)
theorem Inv.write {x e : Addr} {o : HO} {t' : Nat} (I : Inv X pins σ H s) (mu : Mut (H x)) (he : e = x ∨ H e = some (.own x)) (k : ∀ b u, b ≠ e → s.heap.get? b = some u → h'.get? b = some u) (heo : ∃ u, h'.get? e = some u)
    (new : ObjOk X.prog X.w (upd H x o) h' x o) : Inv X pins σ (upd H x o) { s with heap := h', toks := t' } := I.un (Un.write mu he k heo) (I.hok.write mu he k heo new)
theorem Inv.pins_of {pins' : List (Addr × Obj)} (I : Inv X pins σ H s) (h : ∀ p ∈ pins', s.heap.get? p.1 = some p.2 ∧ H p.1 = none ∧ p.1 ≠ X.env.locals ∧ p.1 ∉ X.fs ∧ ∀ v, p.2.data ≠ .cell v) : Inv X pins' σ H s :=
  ⟨I.ok, I.os, I.bare, I.base, I.loc, I.cell, I.free, I.freeC, fun p hp => (List.mem_append.mp hp).elim (fun z => I.pin p (List.mem_append_left _ z)) (h p), I.hok, I.len⟩
theorem nodup_ix {N : List Str} (hN : N.Nodup) {i j : Nat} {x : Str} (a : N[i]? = some x) (b : N[j]? = some x) : i = j := by
  obtain ⟨h1, e1⟩ := List.getElem?_eq_some_iff.mp a
  obtain ⟨h2, e2⟩ := List.getElem?_eq_some_iff.mp b
  exact (List.getElem_inj hN).mp (e1.trans e2.symm)
theorem store_ok2 {M : Model} {A : Around} {E : Value → Shared → Prop} {i : Nat} {x : Str} {v : V} {u : Value} {Q : Unit → Shared → Prop} (I : Inv X pins σ H s) (hN : X.N.Nodup) (hi : X.N[i]? = some x) (hx : Loc X.env.scope x) (r : RelV v u)
    (h : ∀ s', Inv X pins (σ.set i (some v)) H s' → (∃ a, Heap.SameBut a s.heap s'.heap ∧ (a = X.env.locals ∨ X.env.cells.lookup x = some a)) → Q () s') (hf : X.fn x = true ∨ X.env.scope.names.lookup x = some .local := by first | exact .inl rfl | exact .inr rfl | assumption) : wpAny M A (storeName X.env x u) Q E s := by
  obtain ⟨m, hn, hl⟩ := id I.loc
  have hcls : (X.env.scope.kind == .class || (X.env.scope.kind == .module && X.env.locals != X.env.globals)) = false := by rw [I.ok.kind]; rfl
  have hiσ : i < σ.length := by rw [I.len]; exact (List.getElem?_eq_some_iff.mp hi).1
  have cne := I.cne
  have tracked : ∀ {a : Addr} {h' : Heap}, (∃ o, s.heap.get? a = some o ∧ H a = none) → Heap.SameBut a s.heap h' → HOk X.prog X.w H h' := fun {a h'} ha hs b ob e => by
    obtain ⟨_, _, hfree⟩ := ha
    refine (I.hok b ob e).stay (fun c w' hc q => (hs.2 c ?_).trans q) (fun _ q => q) fun _ _ q => q
    rintro rfl
    rcases hc with rfl | hc
    · rw [hfree] at e; cases e
    · rw [hfree] at hc; cases hc
  rcases hx with hk | hk
  · refine wpAny_storeName_local hk hn (fun h' hn' hs => ?_) hcls
    obtain ⟨oL, _, _, hoL, _⟩ := id hn
    refine h _ ⟨I.ok, I.os, I.bare, ⟨fun b o e n hb hx => ?_, fun b o e n hb hx => ?_, I.base.free, fun b o e hx => ?_, I.base.tups, I.base.frzs, I.base.tbls⟩, ⟨_, hn', fun j y v' e1 e2 e3 => ?_⟩, fun y c e => ?_, I.free, I.freeC, fun p hp => ?_, tracked ⟨oL, hoL, I.free⟩ hs, by simpa using I.len⟩ ⟨_, hs, .inl rfl⟩
    · exact (hs.2 b (Nat.ne_of_lt (Nat.lt_of_lt_of_le (Heap.lt_size e) I.ok.above))).trans (I.base.keep b o e n hb hx)
    · obtain ⟨sl, e1⟩ := I.base.slot b o e n hb hx
      exact ⟨sl, (hs.2 b (Nat.ne_of_lt (Nat.lt_of_lt_of_le (Heap.lt_size e) I.ok.above))).trans e1⟩
    · obtain ⟨o', e1⟩ := I.base.there b o e hx
      exact ⟨o', (hs.2 b (Nat.ne_of_lt (Nat.lt_of_lt_of_le (Heap.lt_size e) I.ok.above))).trans e1⟩
    · by_cases hj : j = i
      · subst hj
        rw [hi] at e1; cases e1
        rw [List.getElem?_set_self hiσ] at e2
        cases e2
        exact ⟨u, r, .inl ⟨hk, by simp⟩⟩
      · rw [List.getElem?_set_ne (Ne.symm hj)] at e2
        obtain ⟨u', r', q⟩ := hl j y v' e1 e2 e3
        refine ⟨u', r', ?_⟩
        rcases q with ⟨k, e⟩ | ⟨k, c, e, z⟩
        · refine .inl ⟨k, ?_⟩
          have : y ≠ x := fun e => hj (nodup_ix hN e1 (e ▸ hi))
          simp [this, e]
        · exact .inr ⟨k, c, e, z.sameBut hs (cne y c e)⟩
    · obtain ⟨w', z⟩ := I.cell y c e
      exact ⟨w', z.sameBut hs (cne y c e)⟩
    · obtain ⟨e, n, ne, nf, d⟩ := I.pin p hp
      exact ⟨(hs.2 p.1 ne).trans e, n, ne, nf, d⟩
  · have hfn : X.fn x = true := by
      rcases hf with z | z
      · exact z
      · rw [z] at hk; cases hk
    obtain ⟨c, hc⟩ := I.ok.has x (.inl hk)
    obtain ⟨w', z⟩ := I.cell x c hc
    refine wpAny_storeName_cell I.ok.kind hk hc z (fun h' hc' hs => ?_)
    obtain ⟨oc, hoc, hocd⟩ := id z
    refine h { s with heap := h' } ⟨I.ok, I.os, I.bare, ⟨fun b o e n hb hx => ?_, fun b o e n hb hx => ?_, I.base.free, fun b o e hx => ?_, I.base.tups, I.base.frzs, I.base.tbls⟩, ⟨m, hn.sameBut hs (Ne.symm (cne x c hc)), fun j y v' e1 e2 e3 => ?_⟩, fun y c' e => ?_, I.free, I.freeC, fun p hp => ?_, tracked ⟨oc, hoc, I.freeC x c hc⟩ hs, by simpa using I.len⟩ ⟨c, hs, .inr hc⟩
    · exact (hs.2 b (Nat.ne_of_lt (Nat.lt_of_lt_of_le (Heap.lt_size e) (I.ok.cab x c hfn hc)))).trans (I.base.keep b o e n hb hx)
    · obtain ⟨sl, e1⟩ := I.base.slot b o e n hb hx
      exact ⟨sl, (hs.2 b (Nat.ne_of_lt (Nat.lt_of_lt_of_le (Heap.lt_size e) (I.ok.cab x c hfn hc)))).trans e1⟩
    · obtain ⟨o', e1⟩ := I.base.there b o e hx
      exact ⟨o', (hs.2 b (Nat.ne_of_lt (Nat.lt_of_lt_of_le (Heap.lt_size e) (I.ok.cab x c hfn hc)))).trans e1⟩
    · by_cases hj : j = i
      · subst hj
        rw [hi] at e1; cases e1
        rw [List.getElem?_set_self hiσ] at e2
        cases e2
        exact ⟨u, r, .inr ⟨.inl hk, c, hc, hc'⟩⟩
      · rw [List.getElem?_set_ne (Ne.symm hj)] at e2
        obtain ⟨u', r', q⟩ := hl j y v' e1 e2 e3
        refine ⟨u', r', ?_⟩
        rcases q with q | ⟨k, c', e, z'⟩
        · exact .inl q
        · refine .inr ⟨k, c', e, z'.sameBut hs ?_⟩
          rintro rfl
          exact hj (nodup_ix hN e1 (I.ok.inj _ _ _ e hc ▸ hi))
    · by_cases hcc : c' = c
      · subst hcc; exact ⟨_, hc'⟩
      · obtain ⟨w2, z2⟩ := I.cell y c' e
        exact ⟨w2, z2.sameBut hs hcc⟩
    · obtain ⟨e, n, ne, nf, d⟩ := I.pin p hp
      refine ⟨(hs.2 p.1 ?_).trans e, n, ne, nf, d⟩
      intro q
      rw [q, hoc] at e
      have q' : oc = p.2 := Option.some.inj e
      exact d w' (by rw [← q']; exact hocd)
theorem store_ok {M : Model} {A : Around} {E : Value → Shared → Prop} {i : Nat} {x : Str} {v : V} {u : Value} {Q : Unit → Shared → Prop} (I : Inv X pins σ H s) (hN : X.N.Nodup) (hi : X.N[i]? = some x) (hx : Loc X.env.scope x) (r : RelV v u)
    (h : ∀ s', Inv X pins (σ.set i (some v)) H s' → Q () s') (hf : X.fn x = true ∨ X.env.scope.names.lookup x = some .local := by first | exact .inl rfl | exact .inr rfl | assumption) : wpAny M A (storeName X.env x u) Q E s :=
  store_ok2 I hN hi hx r (fun s' I' _ => h s' I') hf
end
noncomputable abbrev XK := Value → Option Addr → Hp → Prop
noncomputable abbrev St := List (Option V)
noncomputable abbrev VK := V → Hp → Prop
noncomputable abbrev TE := St → Hp → VK → Prop
noncomputable abbrev TT := St → Hp → (Bool → Hp → Prop) → Prop
noncomputable abbrev TA := St → Hp → (List V → Hp → Prop) → Prop
structure Ends where
  nx : St → Hp → Prop
  rt : VK
  bk : St → Hp → Prop := fun _ _ => False
  ct : St → Hp → Prop := fun _ _ => False
noncomputable abbrev TS := Ends → St → Hp → Prop
noncomputable def EP (X : Cx) (pins : List (Addr × Obj)) (σ : St) (Q : VK) (u : Value) (s' : Shared) : Prop := ∃ v H', Inv X pins σ H' s' ∧ RelV v u ∧ Q v H'
noncomputable def TP (X : Cx) (pins : List (Addr × Obj)) (σ : St) (Q : Bool → Hp → Prop) (b : Bool) (s' : Shared) : Prop := ∃ H', Inv X pins σ H' s' ∧ Q b H'
noncomputable def AP (X : Cx) (pins : List (Addr × Obj)) (σ : St) (Q : List V → Hp → Prop) (us : List Value) (s' : Shared) : Prop := ∃ vs H', Inv X pins σ H' s' ∧ Vals vs us ∧ Q vs H'
noncomputable def SP (X : Cx) (pins : List (Addr × Obj)) (D : Ends) (f : Flow) (s' : Shared) : Prop :=
  match f with
  | .next => ∃ σ' H', Inv X pins σ' H' s' ∧ D.nx σ' H'
  | .brk => ∃ σ' H', Inv X pins σ' H' s' ∧ D.bk σ' H'
  | .cont => ∃ σ' H', Inv X pins σ' H' s' ∧ D.ct σ' H'
  | .ret u => ∃ v σ' H', Inv X pins σ' H' s' ∧ RelV v u ∧ D.rt v H'
noncomputable def PE (X : Cx) (e : Expr) (t : TE) : Prop :=
  ∀ (pins : List (Addr × Obj)) (s : Shared) (σ : St) (H : Hp) (Q : VK), Inv X pins σ H s → t σ H Q → wpAny (model X.prog X.w) X.A (eval e X.env) (EP X pins σ Q) X.xe s
noncomputable def PT (X : Cx) (e : Expr) (t : TT) : Prop :=
  ∀ (pins : List (Addr × Obj)) (s : Shared) (σ : St) (H : Hp) (Q : Bool → Hp → Prop), Inv X pins σ H s → t σ H Q → wpAny (model X.prog X.w) X.A (isTrue e X.env (eval e X.env)) (TP X pins σ Q) X.xe s
noncomputable def PW (X : Cx) (e : Expr) (t : TT) : Prop :=
  ∀ (whole : Sem Value) (pins : List (Addr × Obj)) (s : Shared) (σ : St) (H : Hp) (Q : Bool → Hp → Prop), Inv X pins σ H s → t σ H Q → wpAny (model X.prog X.w) X.A (isTrue e X.env whole) (TP X pins σ Q) X.xe s
theorem PW.pt {X : Cx} {e : Expr} {t : TT} (h : PW X e t) : PT X e t := h _
noncomputable def PA (X : Cx) (es : List Expr) (t : TA) : Prop :=
  ∀ (pos : Pos) (pins : List (Addr × Obj)) (s : Shared) (σ : St) (H : Hp) (Q : List V → Hp → Prop), Inv X pins σ H s → t σ H Q → wpAny (model X.prog X.w) X.A (spliced (backTo pos (starEach es X.env))) (AP X pins σ Q) X.xe s
noncomputable def PS (X : Cx) (st : Stmt) (t : TS) : Prop :=
  ∀ (pins : List (Addr × Obj)) (s : Shared) (σ : St) (H : Hp) (D : Ends), Inv X pins σ H s → t D σ H → wpAny (model X.prog X.w) X.A (exec st X.env) (SP X pins D) X.xe s
noncomputable def PSs (X : Cx) (st : List Stmt) (t : TS) : Prop :=
  ∀ (pins : List (Addr × Obj)) (s : Shared) (σ : St) (H : Hp) (D : Ends), Inv X pins σ H s → t D σ H → wpAny (model X.prog X.w) X.A (execs st X.env) (SP X pins D) X.xe s
theorem thn {α : Type} {t : Sem α} {Q Q' : α → Shared → Prop} {M : Model} {A : Around} {E : Value → Shared → Prop} {s : Shared} (h : wpAny M A t Q E s) (hQ : ∀ a s, Q a s → Q' a s) : wpAny M A t Q' E s := wpAny_mono h hQ fun _ _ x => x
end L2
namespace L2
open PySem PySem.Spec PyProof.Rows
section
variable {X : Cx}
theorem bin {a b : Expr} {ta tb : TE} (ha : PE X a ta) (hb : PE X b tb) {pins : List (Addr × Obj)} {s : Shared} {σ : St} {H : Hp} {R : V → V → Hp → Prop} (I : Inv X pins σ H s) (h : ta σ H fun x H1 => tb σ H1 fun y H2 => R x y H2)
    {α : Type} {Q : α → Shared → Prop} {f : Value → Value → Sem α}
    (hf : ∀ v u s2 x y H2, Inv X pins σ H2 s2 → RelV x v → RelV y u → R x y H2 → wpAny (model X.prog X.w) X.A (f v u) Q X.xe s2) :
    wpAny (model X.prog X.w) X.A (eval a X.env) (fun v s₁ => wpAny (model X.prog X.w) X.A (eval b X.env) (fun u s₂ => wpAny (model X.prog X.w) X.A (f v u) Q X.xe s₂) X.xe s₁) X.xe s := by
  refine thn (ha pins s σ H _ I h) fun v s1 ⟨x, H1, I1, r1, q1⟩ => ?_
  refine thn (hb pins s1 σ H1 _ I1 q1) fun u s2 ⟨y, H2, I2, r2, q2⟩ => ?_
  exact hf v u s2 x y H2 I2 r1 r2 q2
noncomputable def tVar (i : Nat) : TE := fun σ H Q => ∃ v, σ[i]? = some (some v) ∧ Q v H
noncomputable def tC (v : V) : TE := fun _ H Q => Q v H
theorem pe_var {i : Nat} {x : Str} {pos : Pos} (hN : X.N[i]? = some x) (hv : Vis X.env.scope x) (hd : (x == ("__debug__" : Str)) = false := by decide) (hcd : (x == ("__classdict__" : Str)) = false := by decide) : PE X (.Name x pos) (tVar i) := by
  intro pins s σ H Q I h
  obtain ⟨v, e, h⟩ := h
  obtain ⟨m, hn, hl⟩ := I.loc
  obtain ⟨u, r, l⟩ := hl i x v hN e hv
  have fin : EP X pins σ Q u s := ⟨v, H, I, r, h⟩
  rcases l with ⟨hk, hm⟩ | ⟨hk, c, hc, hcell⟩
  · exact wpAny_Name (wpAny_loadName_local I.ok.kind hk hn hm fin) hd
  · rcases hk with hk | hk
    · exact wpAny_Name (wpAny_loadName_cell I.ok.kind hk hc hcell fin) hd
    · exact wpAny_Name (wpAny_loadName_free I.ok.kind hk hc hcell fin hcd) hd
theorem pe_int {i j pos} : PE X (.Constant (.int i) j pos) (tC (.int i)) := fun _ _ _ H _ I h => wpAny_Constant_int ⟨.int i, H, I.tok _, ⟨_, rfl⟩, h⟩
theorem pe_bl {b j pos} : PE X (.Constant (.bool b) j pos) (tC (.bl b)) := fun _ _ _ H _ I h => Constant_bool ⟨.bl b, H, I, rfl, h⟩
theorem pe_non {j pos} : PE X (.Constant .none j pos) (tC .non) := fun _ _ _ H _ I h => Constant_none ⟨.non, H, I, rfl, h⟩
noncomputable def Gl (X : Cx) (x : Str) : Prop := X.env.kindOf x = some .globalImplicit
theorem ld_glob {E : Value → Shared → Prop} {pins : List (Addr × Obj)} {s : Shared} {σ : St} {H : Hp} {x : Str} {u : Value} {pos : Pos} {Q : Value → Shared → Prop} (I : Inv X pins σ H s) (hg : Gl X x) (hm : X.mg x = some u) (h : Q u s)
    (hd : (x == ("__debug__" : Str)) = false := by decide) : wpAny (model X.prog X.w) X.A (eval (.Name x pos) X.env) Q E s :=
  Calls.Name_function_global I.ok.kind hg (Calls.loadGlobal_global (by rw [I.ok.glob]; exact I.mod.glob.keeps I.bk) hm h) hd
theorem ld_blt {E : Value → Shared → Prop} {pins : List (Addr × Obj)} {s : Shared} {σ : St} {H : Hp} {x : Str} {u : Value} {pos : Pos} {Q : Value → Shared → Prop} (I : Inv X pins σ H s) (hg : Gl X x) (hm : X.mg x = none) (hv : bootBuiltins x = some u) (h : Q u s)
    (hn : x ≠ "__name__" := by decide) (hd : (x == ("__debug__" : Str)) = false := by decide) : wpAny (model X.prog X.w) X.A (eval (.Name x pos) X.env) Q E s := by
  obtain ⟨mb, h1, h2⟩ := I.mod.blt
  exact Calls.Name_function_global I.ok.kind hg (Calls.loadGlobal_builtin (by rw [I.ok.glob]; exact I.mod.glob.keeps I.bk) hm (by rw [I.ok.blt]; exact h1.keeps I.bk) ((h2 x hn).trans hv) h) hd
theorem pe_glob {x : Str} {v : V} {u : Value} {pos : Pos} (hg : Gl X x) (hm : X.mg x = some u) (r : RelV v u) (hd : (x == ("__debug__" : Str)) = false := by decide) : PE X (.Name x pos) (tC v) :=
  fun _ _ _ H _ I h => ld_glob I hg hm ⟨v, H, I, r, h⟩ hd
theorem pe_bltn {x : Str} {v : V} {u : Value} {pos : Pos} (hg : Gl X x) (hm : X.mg x = none) (hv : bootBuiltins x = some u) (r : RelV v u) (hn : x ≠ "__name__" := by decide) (hd : (x == ("__debug__" : Str)) = false := by decide) : PE X (.Name x pos) (tC v) :=
  fun _ _ _ H _ I h => ld_blt I hg hm hv ⟨v, H, I, r, h⟩ hn hd
variable {a b : Expr} {ta tb : TE} {pos : Pos}
noncomputable def PC (X : Cx) (op : CmpOp) (a b : Expr) (t : TE) : Prop :=
  ∀ (pins : List (Addr × Obj)) (s : Shared) (σ : St) (H : Hp) (Q : VK), Inv X pins σ H s → t σ H Q →
    wpAny (model X.prog X.w) X.A (eval a X.env) (fun v s₁ => wpAny (model X.prog X.w) X.A (eval b X.env) (fun u s₂ => wpAny (model X.prog X.w) X.A (compareOp op v u) (EP X pins σ Q) X.xe s₂) X.xe s₁) X.xe s
theorem nobehind (b : Expr) {op : CmpOp} (h : op ≠ .In) (h2 : op ≠ .NotIn) : behindInMarks op b = false := by
  have e1 : (op == CmpOp.In) = false := by cases op <;> first | rfl | exact absurd rfl h
  have e2 : (op == CmpOp.NotIn) = false := by cases op <;> first | rfl | exact absurd rfl h2
  cases b <;> simp [behindInMarks, e1, e2]
noncomputable def tIsN (ta : TE) : TE := fun σ H Q => ta σ H fun x H1 => Q (.bl (decide (x = .non))) H1
noncomputable def tNotN (ta : TE) : TE := fun σ H Q => ta σ H fun x H1 => Q (.bl (!decide (x = .non))) H1
theorem RelV.none_iff {x : V} {v : Value} (r : RelV x v) : (v == Value.none) = decide (x = .non) := by
  cases x with
  | non => cases r; rfl
  | bl _ => cases r; rfl
  | int _ => obtain ⟨t, rfl⟩ := r; rfl
  | str _ => obtain ⟨t, rfl⟩ := r; rfl
  | byt _ => obtain ⟨t, rfl⟩ := r; rfl
  | flt _ => obtain ⟨t, rfl⟩ := r; rfl
  | ref _ => cases r; rfl
  | ty _ => cases r; rfl
theorem pc_isN {j pos'} (ha : PE X a ta) : PC X .Is a (.Constant .none j pos') (tIsN ta) := by
  intro pins s σ H Q I h
  refine thn (ha pins s σ H _ I h) fun v s1 ⟨x, H1, I1, r1, q1⟩ => ?_
  exact Constant_none (is_none_gen ⟨.bl _, H1, I1, by rw [r1.none_iff]; rfl, q1⟩)
theorem pc_notN {j pos'} (ha : PE X a ta) : PC X .IsNot a (.Constant .none j pos') (tNotN ta) := by
  intro pins s σ H Q I h
  refine thn (ha pins s σ H _ I h) fun v s1 ⟨x, H1, I1, r1, q1⟩ => ?_
  exact Constant_none (isnot_none_gen ⟨.bl _, H1, I1, by rw [r1.none_iff]; rfl, q1⟩)
noncomputable def tB (t : TE) : TT := fun σ H Q => t σ H fun x H1 => ∃ c, x = .bl c ∧ Q c H1
theorem pt_cmp {op : CmpOp} {t : TE} (h : PC X op a b t) (h1 : behindInMarks op b = false := by first | exact nobehind _ (by decide) (by decide) | rfl) : PT X (.Compare a [op] [b] pos) (tB t) := by
  intro pins s σ H Q I hw
  refine wpAny_isTrue_Compare1 (thn (h pins s σ H _ I hw) fun v s1 h1 => thn h1 fun u s2 h2 => thn h2 fun c s3 ⟨x, H1, I1, r1, q1⟩ => ?_) h1
  obtain ⟨d, rfl, q⟩ := q1
  cases r1
  exact wpAny_truthy_bool ⟨H1, I1, q⟩
theorem pt_val {e : Expr} {t : TE} (h : PE X e t) (he : ∀ whole, isTrue e X.env whole = (do let v ← whole; standAt e.pos; holding [v] (truthy v)) := by intro _; rfl) : PT X e (tB t) := by
  intro pins s σ H Q I hw
  refine isTrue_plain (thn (h pins s σ H _ I hw) fun v s1 ⟨x, H1, I1, r1, q1⟩ => ?_) (he _)
  obtain ⟨d, rfl, q⟩ := q1
  cases r1
  exact wpAny_truthy_bool ⟨H1, I1, q⟩
variable {tA tB' : TT} {rest : List Expr}
noncomputable def tAnd (t u : TT) : TT := fun σ H Q => t σ H fun c H1 => if c = true then u σ H1 Q else Q false H1
noncomputable def tOr (t u : TT) : TT := fun σ H Q => t σ H fun c H1 => if c = true then Q true H1 else u σ H1 Q
noncomputable def tNot (t : TT) : TT := fun σ H Q => t σ H fun c H1 => Q (!c) H1
theorem pw_and1 (ha : PT X a tA) : PW X (.BoolOp .And [a] pos) tA := by
  intro wh pins s σ H Q I h
  refine isTrue_and (thn (ha pins s σ H Q I h) fun c s1 e => ?_)
  cases c with
  | true => exact isTrue_and_nil e
  | false => exact e
theorem pw_or1 (ha : PT X a tA) : PW X (.BoolOp .Or [a] pos) tA := by
  intro wh pins s σ H Q I h
  refine isTrue_or (thn (ha pins s σ H Q I h) fun c s1 e => ?_)
  cases c with
  | false => exact isTrue_or_nil e
  | true => exact e
theorem pw_and (ha : PT X a tA) (hb : PW X (.BoolOp .And (b :: rest) pos) tB') : PW X (.BoolOp .And (a :: b :: rest) pos) (tAnd tA tB') := by
  intro wh pins s σ H Q I h
  refine isTrue_and (thn (ha pins s σ H _ I h) fun c s1 ⟨H1, I1, q1⟩ => ?_)
  cases c with
  | true => exact hb wh pins s1 σ H1 Q I1 q1
  | false => exact ⟨H1, I1, q1⟩
theorem pw_or (ha : PT X a tA) (hb : PW X (.BoolOp .Or (b :: rest) pos) tB') : PW X (.BoolOp .Or (a :: b :: rest) pos) (tOr tA tB') := by
  intro wh pins s σ H Q I h
  refine isTrue_or (thn (ha pins s σ H _ I h) fun c s1 ⟨H1, I1, q1⟩ => ?_)
  cases c with
  | true => exact ⟨H1, I1, q1⟩
  | false => exact hb wh pins s1 σ H1 Q I1 q1
theorem pt_not (ha : PT X a tA) : PT X (.UnaryOp .Not a pos) (tNot tA) := by
  intro pins s σ H Q I h
  exact isTrue_not (ha pins s σ H (fun c H1 => Q (!c) H1) I h)
noncomputable def tAndV (ta tb : TE) : TE := fun σ H Q => ta σ H fun x H1 => ∃ c, x = .bl c ∧ if c = true then tb σ H1 Q else Q (.bl false) H1
theorem pe_one {op} {t : TE} (h : PE X a t) : PE X (.BoolOp op [a] pos) t := fun pins s σ H Q I hw => BoolOp_one (h pins s σ H Q I hw)
theorem pe_and (ha : PE X a ta) (hb : PE X (.BoolOp .And (b :: rest) pos) tb) : PE X (.BoolOp .And (a :: b :: rest) pos) (tAndV ta tb) := by
  intro pins s σ H Q I h
  refine BoolOp_and (thn (ha pins s σ H _ I h) fun v s1 ⟨x, H1, I1, r1, q1⟩ => ?_)
  obtain ⟨c, rfl, q1⟩ := q1
  cases r1
  refine wpAny_truthy_bool ?_
  cases c with
  | true => exact hb pins s1 σ H1 Q I1 q1
  | false => exact ⟨.bl false, H1, I1, rfl, q1⟩
end
end L2
namespace L2
open PySem PySem.Spec PyProof.Rows
noncomputable def SqL (K : PySem.W.Frag) (H : Hp) (a : Addr) (xs : List V) : Prop :=
  Rd H a (.lst xs) ∨
    ∃ (o : Obj) (its : Array Value) (n : Nat), K.lookup a = some o ∧ o.cls = .type "list" ∧ o.dict = none ∧ o.data = .seq its n ∧ its.size ≤ sizeLine ∧ Vals xs its.toList
noncomputable def SqT (K : PySem.W.Frag) (H : Hp) (a : Addr) (xs : List V) : Prop :=
  Rd H a (.tup xs) ∨
    ∃ (o : Obj) (its : Array Value) (n : Nat), K.lookup a = some o ∧ o.cls = .type "tuple" ∧ o.data = .seq its n ∧ its.size ≤ sizeLine ∧ Vals xs its.toList
noncomputable def absV : Value → Option V
  | .none => some .non
  | .bool b => some (.bl b)
  | .int i _ => some (.int i)
  | .str x _ => some (.str x)
  | .bytes b _ => some (.byt b)
  | .float b _ => some (.flt b)
  | .ref a => some (.ref a)
  | .type n => some (.ty n)
  | _ => none
theorem RelV.abs {x : V} {u : Value} (r : RelV x u) : absV u = some x := by
  cases x with
  | non => cases r; rfl
  | bl _ => cases r; rfl
  | int _ => obtain ⟨t, rfl⟩ := r; rfl
  | str _ => obtain ⟨t, rfl⟩ := r; rfl
  | byt _ => obtain ⟨t, rfl⟩ := r; rfl
  | flt _ => obtain ⟨t, rfl⟩ := r; rfl
  | ref _ => cases r; rfl
  | ty _ => cases r; rfl
theorem RelV.inj {x y : V} {u : Value} (r : RelV x u) (q : RelV y u) : x = y := Option.some.inj (r.abs.symm.trans q.abs)
theorem Vals.inj : ∀ {xs ys : List V} {us : List Value}, Vals xs us → Vals ys us → xs = ys
  | _, _, _, .nil, .nil => rfl
  | _, _, _, .cons r t, .cons r' t' => by rw [r.inj r', Vals.inj t t']
section
variable {X : Cx} {pins : List (Addr × Obj)} {σ : St} {H : Hp} {s : Shared} {a : Addr} {xs ys : List V}
theorem SqL.of {K : PySem.W.Frag} (h : H a = some (.lst xs)) : SqL K H a xs := .inl (.inl h)
theorem SqT.of {K : PySem.W.Frag} (h : H a = some (.tup xs)) : SqT K H a xs := .inl (.inl h)
theorem Inv.list (I : Inv X pins σ H s) (h : SqL X.K H a xs) : ∃ its : List Value, Vals xs its ∧ PlainL s.heap a its.toArray ∧ xs.length ≤ sizeLine := by
  rcases h with h | ⟨o, its, n, hk, hc, hd, hs, hz, r⟩
  · obtain ⟨z, its, n, r, e⟩ := h.ok I.hok
    exact ⟨its, r, ⟨_, n, e, rfl, rfl, rfl⟩, z⟩
  · refine ⟨its.toList, r, ⟨o, n, I.kIn a o hk, hc, hd, by simpa using hs⟩, ?_⟩
    have e := r.length
    simp only [Array.length_toList] at e
    trivial
theorem Inv.tuple (I : Inv X pins σ H s) (h : SqT X.K H a xs) : ∃ its : List Value, Vals xs its ∧ IsTup s.heap a its.toArray ∧ xs.length ≤ sizeLine := by
  rcases h with h | ⟨o, its, n, hk, hc, hs, hz, r⟩
  · obtain ⟨z, its, r, p⟩ := h.ok I.hok
    exact ⟨its, r, p, z⟩
  · refine ⟨its.toList, r, ⟨o, I.kIn a o hk, hc, n, by simpa using hs⟩, ?_⟩
    have e := r.length
    simp only [Array.length_toList] at e
    trivial
theorem Inv.list_inj (I : Inv X pins σ H s) (h : SqL X.K H a xs) (h' : SqL X.K H a ys) : xs = ys := by
  obtain ⟨its, r, ⟨o, n, e, _, _, d⟩, _⟩ := I.list h
  obtain ⟨its', r', ⟨o', n', e', _, _, d'⟩, _⟩ := I.list h'
  rw [e] at e'; cases e'
  rw [d] at d'
  injection d' with d1 _
  have : its = its' := by simpa using congrArg Array.toList d1
  subst this
  exact r.inj r'
theorem Inv.tuple_inj (I : Inv X pins σ H s) (h : SqT X.K H a xs) (h' : SqT X.K H a ys) : xs = ys := by
  obtain ⟨its, r, ⟨o, e, _, n, d⟩, _⟩ := I.tuple h
  obtain ⟨its', r', ⟨o', e', _, n', d'⟩, _⟩ := I.tuple h'
  rw [e] at e'; cases e'
  rw [d] at d'
  injection d' with d1 _
  have : its = its' := by simpa using congrArg Array.toList d1
  subst this
  exact r.inj r'
end
noncomputable abbrev Cx.wish (X : Cx) (E : Value → Shared → Prop) : Cx := { X with xe := E }
noncomputable abbrev Cx.nox (X : Cx) : Cx := X.wish fun _ _ => False
theorem Cx.Ok.wish {X : Cx} (ok : X.Ok) (E : Value → Shared → Prop) : (X.wish E).Ok :=
  ⟨ok.mod, ok.kind, ok.glob, ok.blt, ok.above, ok.inj, ok.has, ok.cab, ok.hd, ok.frames, ok.stk, ok.exf, ok.bs, ok.bsz, ok.noex, ok.exfs, ok.funs, ok.frf⟩
theorem Cx.Ok.unwish {X : Cx} {E : Value → Shared → Prop} (ok : (X.wish E).Ok) : X.Ok :=
  ⟨ok.mod, ok.kind, ok.glob, ok.blt, ok.above, ok.inj, ok.has, ok.cab, ok.hd, ok.frames, ok.stk, ok.exf, ok.bs, ok.bsz, ok.noex, ok.exfs, ok.funs, ok.frf⟩
section
variable {X : Cx} {pins : List (Addr × Obj)} {σ : St} {H : Hp} {s : Shared} {E : Value → Shared → Prop}
theorem Inv.wish (I : Inv X pins σ H s) (E : Value → Shared → Prop) : Inv (X.wish E) pins σ H s := ⟨I.ok.wish E, I.os, I.bare, I.base, I.loc, I.cell, I.free, I.freeC, I.pin, I.hok, I.len⟩
theorem Inv.unwish (I : Inv (X.wish E) pins σ H s) : Inv X pins σ H s := ⟨I.ok.unwish, I.os, I.bare, I.base, I.loc, I.cell, I.free, I.freeC, I.pin, I.hok, I.len⟩
theorem SP.unwish {D : Ends} {f : Flow} {s' : Shared} (h : SP (X.wish E) pins D f s') : SP X pins D f s' := by
  cases f with
  | next => obtain ⟨σ', H', I, q⟩ := h; exact ⟨σ', H', I.unwish, q⟩
  | brk => obtain ⟨σ', H', I, q⟩ := h; exact ⟨σ', H', I.unwish, q⟩
  | cont => obtain ⟨σ', H', I, q⟩ := h; exact ⟨σ', H', I.unwish, q⟩
  | ret u => obtain ⟨v, σ', H', I, r, q⟩ := h; exact ⟨v, σ', H', I.unwish, r, q⟩
theorem PSs.nox {st : List Stmt} {t : TS} (h : PSs X.nox st t) : PSs X st t := fun pins s σ H D I hw =>
  wpAny_mono (h pins s σ H D (I.wish _) hw) (fun _ _ q => q.unwish) fun _ _ z => False.elim z
end
section
variable {X : Cx} {st : Stmt} {rest : List Stmt} {t u : TS} {e : Expr} {te : TE} {pos : Pos}
noncomputable def tNext : TS := fun D σ H => D.nx σ H
noncomputable def tSeq (t u : TS) : TS := fun D σ H => t { D with nx := u D } σ H
theorem pss_nil : PSs X [] tNext := fun _ _ σ H _ I h => wpAny_execs_nil ⟨σ, H, I, h⟩
theorem pss_cons (h1 : PS X st t) (h2 : PSs X rest u) : PSs X (st :: rest) (tSeq t u) := by
  intro pins s σ H D I h
  refine wpAny_execs_cons (thn (h1 pins s σ H { D with nx := u D } I h) fun f s1 q => ?_)
  cases f with
  | next =>
    obtain ⟨σ', H', I', q⟩ := q
    exact h2 pins s1 σ' H' D I' q
  | ret v => exact q
  | brk => exact q
  | cont => exact q
theorem pss_one (h1 : PS X st t) : PSs X [st] t := by
  intro pins s σ H D I h
  refine wpAny_execs_cons (thn (h1 pins s σ H D I h) fun f s1 q => ?_)
  cases f with
  | next => exact wpAny_execs_nil q
  | ret v => exact q
  | brk => exact q
  | cont => exact q
theorem Inv.quiet {pins : List (Addr × Obj)} {σ : St} {H : Hp} {s : Shared} (I : Inv X pins σ H s) : interactive X.env = false := by simp [interactive, I.ok.kind]
noncomputable def tDrop (te : TE) : TS := fun D σ H => te σ H fun _ H1 => D.nx σ H1
theorem ps_expr (he : PE X e te) (hs : swapsWith e none pos.line X.env = pure false := by rfl) : PS X (.Expr e pos) (tDrop te) := by
  intro pins s σ H D I h
  exact wpAny_Expr_any (thn (he pins s σ H _ I h) fun v s1 ⟨x, H1, I1, r1, q1⟩ => ⟨σ, H1, I1, q1⟩) I.quiet hs
noncomputable def tRet (te : TE) : TS := fun D σ H => te σ H D.rt
theorem ps_ret (he : PE X e te) : PS X (.Return (some e) pos) (tRet te) := by
  intro pins s σ H D I h
  exact wpAny_Return_some (thn (he pins s σ H _ I h) fun v s1 ⟨x, H1, I1, r1, q1⟩ => ⟨x, σ, H1, I1, r1, q1⟩)
noncomputable def tIfS (c : TT) (t u : TS) : TS := fun D σ H => c σ H fun b H1 => if b = true then t D σ H1 else u D σ H1
theorem ps_if {c : Expr} {a b : List Stmt} {tc : TT} (hc : PT X c tc) (ha : PSs X a t) (hb : PSs X b u) : PS X (.If c a b pos) (tIfS tc t u) := by
  intro pins s σ H D I h
  refine wpAny_If (thn (hc pins s σ H _ I h) fun d s1 ⟨H1, I1, q1⟩ => ?_)
  cases d with
  | true => exact ha pins s1 σ H1 D I1 q1
  | false => exact hb pins s1 σ H1 D I1 q1
end
noncomputable abbrev TG := V → St → Hp → (St → Hp → Prop) → Prop
noncomputable abbrev TGs := List V → St → Hp → (St → Hp → Prop) → Prop
noncomputable def PG (X : Cx) (target : Expr) (t : TG) : Prop :=
  ∀ (pins : List (Addr × Obj)) (s : Shared) (σ : St) (H : Hp) (v : V) (u : Value) (Q : St → Hp → Prop), Inv X pins σ H s → RelV v u → t v σ H Q →
    wpAny (model X.prog X.w) X.A (assign target X.env u) (fun _ s' => ∃ σ' H', Inv X pins σ' H' s' ∧ Q σ' H') X.xe s
noncomputable def PGs (X : Cx) (ts : List Expr) (t : TGs) : Prop :=
  ∀ (pins : List (Addr × Obj)) (s : Shared) (σ : St) (H : Hp) (vs : List V) (us : List Value) (Q : St → Hp → Prop), Inv X pins σ H s → Vals vs us → t vs σ H Q →
    wpAny (model X.prog X.w) X.A (assignInOrder ((assignEach ts X.env).map (·.2)) us) (fun _ s' => ∃ σ' H', Inv X pins σ' H' s' ∧ Q σ' H') X.xe s
section
variable {X : Cx} {pos : Pos}
noncomputable def gName (i : Nat) : TG := fun v σ H Q => Q (σ.set i (some v)) H
theorem pg_name {i : Nat} {x : Str} (hN : X.N.Nodup) (hi : X.N[i]? = some x) (hx : Loc X.env.scope x) (hf : X.fn x = true ∨ X.env.scope.names.lookup x = some .local := by first | exact .inl rfl | exact .inr rfl | assumption) : PG X (.Name x pos) (gName i) := by
  intro pins s σ H v u Q I r h
  exact wpAny_assign_Name (store_ok I hN hi hx r (fun s' I' => ⟨_, H, I', h⟩) hf)
noncomputable def gNil : TGs := fun vs σ H Q => vs = [] ∧ Q σ H
noncomputable def gCons (t : TG) (u : TGs) : TGs := fun vs σ H Q => ∃ v r, vs = v :: r ∧ t v σ H fun σ' H' => u r σ' H' Q
theorem pgs_nil : PGs X [] gNil := by
  intro pins s σ H vs us Q I r h
  obtain ⟨e, h⟩ := h
  subst e
  cases r
  exact assignInOrder_nil ⟨σ, H, I, h⟩
theorem pgs_cons {e : Expr} {es : List Expr} {t : TG} {u : TGs} (h1 : PG X e t) (h2 : PGs X es u)
    (hs : (assignEach (e :: es) X.env).map (·.2) = assign e X.env :: (assignEach es X.env).map (·.2) := by rfl) : PGs X (e :: es) (gCons t u) := by
  intro pins s σ H vs us Q I r h
  obtain ⟨v, vr, e1, h⟩ := h
  subst e1
  cases r with
  | cons r rr =>
    rw [hs]
    refine assignInOrder_cons (thn (h1 pins s σ H _ _ _ I r h) fun _ s1 ⟨σ1, H1, I1, q1⟩ => ?_)
    exact h2 pins s1 σ1 H1 _ _ Q I1 rr q1
noncomputable def gTup (K : PySem.W.Frag) (n : Nat) (t : TGs) : TG := fun v σ H Q => ∃ a xs, v = .ref a ∧ SqT K H a xs ∧ xs.length = n ∧ t xs σ H Q
theorem pg_tup {es : List Expr} {k : Nat} {t : TGs} {n : Nat} (hc : X.calm = true) (h : PGs X es t)
    (hn : (assignEach es X.env).length = n := by rfl) (hst : (assignEach es X.env).findIdx? (·.1) = none := by rfl) : PG X (.Tuple es k pos) (gTup X.K n t) := by
  intro pins s σ H v u Q I r hw
  obtain ⟨a, xs, e1, hq, hl, hw⟩ := hw
  subst e1
  cases r
  obtain ⟨its, rv, ht, hz⟩ := I.tuple hq
  refine assign_Tuple_tuple (I.ok.hd hc) ht (by simp [hn, ← hl, rv.length]) hst fun h' hx => ?_
  have I1 : Inv X pins σ H { s with heap := h' } := I.kept (t' := s.toks) fun b o e => hx b o (Nat.ne_of_lt (Heap.lt_size e)) e
  exact h pins _ σ H xs _ Q I1 (by simpa using rv) hw
noncomputable def tAsg (te : TE) (g : TG) : TS := fun D σ H => te σ H fun x H1 => g x σ H1 D.nx
theorem ps_asg {tg e : Expr} {te : TE} {g : TG} (he : PE X e te) (hg : PG X tg g) (hs : swapsWithSole [tg] e pos.line X.env = pure false := by rfl) (hw : swappedStores [tg] e X.env = pure none := by rfl)
    (h1 : (assignEach [tg] X.env).map (·.2) = [assign tg X.env] := by rfl) : PS X (.Assign [tg] e pos) (tAsg te g) := by
  intro pins s σ H D I h
  refine wpAny_Assign_stores (thn (he pins s σ H _ I h) fun v s1 ⟨x, H1, I1, r1, q1⟩ => ?_) hs hw
  rw [h1]
  exact thn (hg pins s1 σ H1 x v _ I1 r1 q1) fun _ s2 q => q
theorem ps_set {i : Nat} {x : Str} {e : Expr} {te : TE} {pos' : Pos} (hN : X.N.Nodup) (hi : X.N[i]? = some x) (hx : Loc X.env.scope x) (he : PE X e te) (hs : swapsWith e (some (.Name x pos')) pos.line X.env = pure false := by rfl) (hf : X.fn x = true ∨ X.env.scope.names.lookup x = some .local := by first | exact .inl rfl | exact .inr rfl | assumption) :
    PS X (.Assign [.Name x pos'] e pos) (tAsg te (gName i)) := by
  intro pins s σ H D I h
  refine wpAny_Assign_Name (thn (he pins s σ H _ I h) fun v s1 ⟨y, H1, I1, r1, q1⟩ => ?_) hs
  exact store_ok I1 hN hi hx r1 (fun s2 I2 => ⟨_, H1, I2, q1⟩) hf
end
section
variable {X : Cx} {pos : Pos}
noncomputable def tWhile (c : TT) (tb : TS) : TS := fun D σ H => ∃ W : Nat → St → Hp → Prop, (∃ m, W m σ H) ∧ ∀ m σ H, W m σ H →
  c σ H fun b H1 => if b = true then ∃ N : St → Hp → Prop, (∀ σ' H', N σ' H' → ∃ m', m' < m ∧ W m' σ' H') ∧ tb { D with nx := N, ct := N, bk := D.nx } σ H1 else D.nx σ H1
theorem ps_while {c : Expr} {body : List Stmt} {tc : TT} {tb : TS} (hp : PassesOwn (model X.prog X.w) X.A X.env X.xe) (hc : PT X c tc) (hb : PSs X body tb) : PS X (.While c body [] pos) (tWhile tc tb) := by
  intro pins s σ H D I h
  obtain ⟨W, ⟨m0, w0⟩, turn⟩ := h
  refine wpAny_While (codeAny_whileLoop (fun n s' => ∃ σ' H', Inv X pins σ' H' s' ∧ W n σ' H') ?_ m0 ⟨σ, H, I, w0⟩)
  rintro n s1 ⟨σ1, H1, I1, w1⟩
  refine wpAny_passesOwn hp (thn (hc pins s1 σ1 H1 _ I1 (turn n σ1 H1 w1)) fun b s2 ⟨H2, I2, q2⟩ => ?_)
  cases b with
  | true =>
    obtain ⟨N, hN, q2⟩ := q2
    rw [if_pos rfl]
    refine wpAny_passesOwn hp (thn (hb pins s2 σ1 H2 _ I2 q2) fun f s3 q3 => ?_)
    cases f with
    | next =>
      obtain ⟨σ3, H3, I3, n3⟩ := q3
      obtain ⟨m', hm, w3⟩ := hN σ3 H3 n3
      exact ⟨m', hm, σ3, H3, I3, w3⟩
    | cont =>
      obtain ⟨σ3, H3, I3, n3⟩ := q3
      obtain ⟨m', hm, w3⟩ := hN σ3 H3 n3
      exact ⟨m', hm, σ3, H3, I3, w3⟩
    | brk => exact q3
    | ret v => exact q3
  | false =>
    rw [if_neg Bool.false_ne_true]
    exact wpAny_execs_nil ⟨σ1, H2, I2, q2⟩
end
structure It where
  go : Nat → Hp → Prop
  yld : Nat → Hp → V → Hp → Prop
  stop : Nat → Hp → Prop
noncomputable def FpOk (X : Cx) (pins : List (Addr × Obj)) (H : Hp) (b : Addr) : Prop :=
  H b = none ∧ b ≠ X.env.locals ∧ b ∉ X.fs ∧ (b ∈ X.ex ∨ X.s₀.heap.objs.size ≤ b) ∧ (∀ x c, X.env.cells.lookup x = some c → c ≠ b) ∧ ∀ p ∈ X.pn ++ pins, p.1 ≠ b
theorem Inv.fpOk {X : Cx} {pins : List (Addr × Obj)} {σ : St} {H H' : Hp} {s : Shared} {b : Addr} (I : Inv X pins σ H s) (hb : s.heap.objs.size ≤ b) (hn : H' b = none) : FpOk X pins H' b := by
  refine ⟨hn, Nat.ne_of_gt (Nat.lt_of_lt_of_le I.lt hb), I.nofs hb, .inr (Nat.le_trans I.sz hb), fun x c e z => ?_, fun p hp z => ?_⟩
  · obtain ⟨v, q⟩ := I.cell x c e
    exact absurd (Nat.lt_of_lt_of_le q.lt (by rw [z]; exact hb)) (Nat.lt_irrefl _)
  · exact absurd (Nat.lt_of_lt_of_le (Heap.lt_size (I.pin p hp).1) (by rw [z]; exact hb)) (Nat.lt_irrefl _)
structure Turn (P : Program) (w : World) (K : PySem.W.Frag) (tg : Expr) (J : It) (fp : List Addr) (it : Addr) (tn : Nat → Heap → Prop) : Prop where
  mem : it ∈ fp
  obj : ∀ i h, tn i h → ∀ b ∈ fp, ∃ o, h.get? b = some o ∧ ∀ v, o.data ≠ .cell v
  keep : ∀ i h h', tn i h → (∀ b ∈ fp, ∀ o, h.get? b = some o → h'.get? b = some o) → tn i h'
  item : ∀ (X : Cx), X.prog = P → X.w = w → X.K = K → X.calm = true → ∀ (i : Nat) (pins : List (Addr × Obj)) (s : Shared) (σ : St) (H : Hp) (E : Value → Shared → Prop), Inv X pins σ H s → (∀ b ∈ fp, FpOk X pins H b) → tn i s.heap → J.go i H →
    wpAny (model P w) X.A (pyNext (.ref it)) (fun r s1 => ∃ u, r = some u ∧
      wpAny (model P w) X.A (letOwnedTupleGo tg (.ref it) u) (fun _ s2 => ∃ x H', Inv X pins σ H' s2 ∧ RelV x u ∧ J.yld i H x H' ∧ tn (i + 1) s2.heap ∧ ∀ b ∈ fp, H' b = none) E s1) E s
  done : ∀ (X : Cx), X.prog = P → X.w = w → X.K = K → X.calm = true → ∀ (i : Nat) (pins : List (Addr × Obj)) (s : Shared) (σ : St) (H : Hp) (E : Value → Shared → Prop), Inv X pins σ H s → (∀ b ∈ fp, FpOk X pins H b) → tn i s.heap → J.stop i H →
    wpAny (model P w) X.A (pyNext (.ref it)) (fun r s1 => r = none ∧ Inv X pins σ H s1) E s
  self : ∀ (A : Around) (i : Nat) (s : Shared) (Q : Value → Shared → Prop) (E : Value → Shared → Prop), tn i s.heap → Q (.ref it) s → wpAny (model P w) A (pyIter (.ref it)) Q E s
noncomputable abbrev TI := St → Hp → (It → Hp → Prop) → Prop
noncomputable def PIE (X : Cx) (pins : List (Addr × Obj)) (σ : St) (tg : Expr) (R : It → Hp → Prop) (itv : Value) (s2 : Shared) : Prop :=
  ∃ (it : Addr) (fp : List Addr) (tn : Nat → Heap → Prop) (J : It) (H' : Hp), itv = .ref it ∧ Inv X pins σ H' s2 ∧ Turn X.prog X.w X.K tg J fp it tn ∧ tn 0 s2.heap ∧ (∀ b ∈ fp, FpOk X pins H' b) ∧ R J H'
noncomputable def PI (X : Cx) (tg iter : Expr) (wi : TI) : Prop :=
  ∀ (pins : List (Addr × Obj)) (s : Shared) (σ : St) (H : Hp) (R : It → Hp → Prop), Inv X pins σ H s → wi σ H R →
    wpAny (model X.prog X.w) X.A (eval iter X.env) (fun v s1 => wpAny (model X.prog X.w) X.A (pyIter v) (PIE X pins σ tg R) X.xe s1) X.xe s
theorem go_of {M : Model} {A : Around} {E : Value → Shared → Prop} {s : Shared} {tg : Expr} {it : Addr} {u : Value} {o : Obj} {n : String} {vs : Array Value} {Q : Unit → Shared → Prop} (ho : s.heap.get? it = some o) (hc : o.cls = .type n) (hd : o.data = .fields vs)
    (hn : ["enumerate", "zip", "dict_itemiterator", "dict_reverseitemiterator", "odict_iterator", "itertools.zip_longest", "itertools.pairwise"].contains n = false) (hQ : Q () s) : wpAny M A (letOwnedTupleGo tg (.ref it) u) Q E s := by
  unfold letOwnedTupleGo
  cases tg <;> first
    | exact wpAny_pure hQ
    | (cases u <;> first
        | exact wpAny_pure hQ
        | (refine wpAny_bind (wpAny_load ho ?_)
           rw [hc, hd]
           show wpAny M A (if (["enumerate", "zip", "dict_itemiterator", "dict_reverseitemiterator", "odict_iterator", "itertools.zip_longest", "itertools.pairwise"].contains n && vs[0]? == some (rawInt _)) = true then _ else _) Q E s
           rw [if_neg (by intro h; rw [hn, Bool.false_and] at h; cases h)]
           exact wpAny_pure hQ))
noncomputable def Itl (K : PySem.W.Frag) (a : Addr) : It :=
  ⟨fun i H => ∃ xs x, SqL K H a xs ∧ xs[i]? = some x, fun i H x H' => H' = H ∧ ∀ xs, SqL K H a xs → xs[i]? = some x, fun i H => ∃ xs, SqL K H a xs ∧ xs.length ≤ i⟩
noncomputable def Itt (K : PySem.W.Frag) (a : Addr) : It :=
  ⟨fun i H => ∃ xs x, SqT K H a xs ∧ xs[i]? = some x, fun i H x H' => H' = H ∧ ∀ xs, SqT K H a xs → xs[i]? = some x, fun i H => ∃ xs, SqT K H a xs ∧ xs.length ≤ i⟩
noncomputable def Itr (lo : Int) (n : Nat) : It := ⟨fun i _ => i < n, fun i H x H' => H' = H ∧ x = .int (lo + i), fun i _ => n ≤ i⟩
theorem turn_list {P : Program} {w : World} {K : PySem.W.Frag} {tg : Expr} (a it : Addr) : Turn P w K tg (Itl K a) [it] it (fun i h => h.IsListIter it a i) where
  mem := by simp
  obj := fun i h st b hb => by
    have e : b = it := by simpa using hb
    subst e
    obtain ⟨o, e, c, d⟩ := st
    exact ⟨o, e, fun v z => by rw [d] at z; cases z⟩
  keep := fun i h h' st k => st.at fun o e => k it (by simp) o e
  item := by
    intro X hP hw hK hc i pins s σ H E I hf st hg
    subst hP hw hK
    obtain ⟨xs, x, hq, hx⟩ := hg
    obtain ⟨its, rv, p, hz⟩ := I.list hq
    obtain ⟨u, hu, ru⟩ := rv.get hx
    obtain ⟨f0, f1, f2, f3, f4, f5⟩ := hf it (by simp)
    refine wpAny_pyNext_list_item st p.isList (x := u) (by simpa using hu) fun h' st' sb => ?_
    have I1 : Inv X pins σ H { s with heap := h' } := I.turned (t' := s.toks) (fun b o hb e => (sb.2 b hb).trans e) f0 f1 f3 f4 f5
    obtain ⟨o, e, c, d⟩ := id st'
    exact ⟨u, rfl, go_of (s := { s with heap := h' }) e c d (by decide) ⟨x, H, I1, ru, ⟨rfl, fun ys hy => by rw [I.list_inj hy hq]; exact hx⟩, st', fun b hb => (hf b hb).1⟩⟩
  done := by
    intro X hP hw hK hc i pins s σ H E I hf st hg
    subst hP hw hK
    obtain ⟨xs, hq, hx⟩ := hg
    obtain ⟨its, rv, p, hz⟩ := I.list hq
    obtain ⟨f0, f1, f2, f3, f4, f5⟩ := hf it (by simp)
    have hl := rv.length
    exact wpAny_pyNext_list_end (I.ok.hd hc) st p.isList (by simp; trivial) fun h' eb => ⟨rfl, I.turned (t' := s.toks) (fun b o hb e => eb b o hb e) f0 f1 f3 f4 f5⟩
  self := fun _ _ _ _ _ st h => wpAny_pyIter_listiter st h
theorem turn_tuple {P : Program} {w : World} {K : PySem.W.Frag} {tg : Expr} (a it : Addr) : Turn P w K tg (Itt K a) [it] it (fun i h => h.IsTupleIter it a i) where
  mem := by simp
  obj := fun i h st b hb => by
    have e : b = it := by simpa using hb
    subst e
    obtain ⟨o, e, c, d⟩ := st
    exact ⟨o, e, fun v z => by rw [d] at z; cases z⟩
  keep := fun i h h' st k => st.at fun o e => k it (by simp) o e
  item := by
    intro X hP hw hK hc i pins s σ H E I hf st hg
    subst hP hw hK
    obtain ⟨xs, x, hq, hx⟩ := hg
    obtain ⟨its, rv, p, hz⟩ := I.tuple hq
    obtain ⟨u, hu, ru⟩ := rv.get hx
    obtain ⟨f0, f1, f2, f3, f4, f5⟩ := hf it (by simp)
    refine wpAny_pyNext_tuple_item st (show s.heap.IsTuple a its.toArray from p) (x := u) (by simpa using hu) fun h' st' sb => ?_
    have I1 : Inv X pins σ H { s with heap := h' } := I.turned (t' := s.toks) (fun b o hb e => (sb.2 b hb).trans e) f0 f1 f3 f4 f5
    obtain ⟨o, e, c, d⟩ := id st'
    exact ⟨u, rfl, go_of (s := { s with heap := h' }) e c d (by decide) ⟨x, H, I1, ru, ⟨rfl, fun ys hy => by rw [I.tuple_inj hy hq]; exact hx⟩, st', fun b hb => (hf b hb).1⟩⟩
  done := by
    intro X hP hw hK hc i pins s σ H E I hf st hg
    subst hP hw hK
    obtain ⟨xs, hq, hx⟩ := hg
    obtain ⟨its, rv, p, hz⟩ := I.tuple hq
    obtain ⟨f0, f1, f2, f3, f4, f5⟩ := hf it (by simp)
    have hl := rv.length
    exact wpAny_pyNext_tuple_end (I.ok.hd hc) st (show s.heap.IsTuple a its.toArray from p) (by simp; trivial) fun h' eb => ⟨rfl, I.turned (t' := s.toks) (fun b o hb e => eb b o hb e) f0 f1 f3 f4 f5⟩
  self := fun _ _ _ _ _ st h => wpAny_pyIter_tupleiter st h
theorem turn_range {P : Program} {w : World} {K : PySem.W.Frag} {tg : Expr} (it : Addr) (lo : Int) (n : Nat) : Turn P w K tg (Itr lo n) [it] it (fun i h => IsRangeIter h it (lo + (i : Nat) * 1) ((n : Int) - (i : Nat)) 1) where
  mem := by simp
  obj := fun i h st b hb => by
    have e : b = it := by simpa using hb
    subst e
    exact ⟨_, st, fun v z => by
      have z' : Data.fields _ = Data.cell v := z
      cases z'⟩
  keep := fun i h h' st k => k it (by simp) _ st
  item := by
    intro X hP hw hK hc i pins s σ H E I hf st hg
    subst hP hw hK
    obtain ⟨f0, f1, f2, f3, f4, f5⟩ := hf it (by simp)
    have W := Walks.range (prog := X.prog) (w := X.w) (I.ok.hd hc) it lo 1 n
    refine W.item i s _ _ hg st fun v h' tk hv st' kk => ?_
    obtain ⟨t, rfl⟩ := hv
    have I1 : Inv X pins σ H { s with heap := h', toks := tk } := I.turned (fun b o hb e => kk b o (by simpa using hb) e) f0 f1 f3 f4 f5
    refine ⟨_, rfl, go_of (s := { s with heap := h', toks := tk }) (n := "range_iterator") st' rfl rfl (by decide) ⟨.int (lo + i), H, I1, ⟨t, ?_⟩, ⟨rfl, rfl⟩, st', fun b hb => (hf b hb).1⟩⟩
    rw [Int.mul_one]
  done := by
    intro X hP hw hK hc i pins s σ H E I hf st hg
    subst hP hw hK
    obtain ⟨f0, f1, f2, f3, f4, f5⟩ := hf it (by simp)
    exact wpAny_pyNext_range_end (I.ok.hd hc) st (by have : n ≤ i := hg; trivial) fun h' eb => ⟨rfl, I.turned (t' := s.toks) (fun b o hb e => eb b o hb e) f0 f1 f3 f4 f5⟩
  self := fun _ _ _ _ _ st h => wpAny_pyIter_rangeiter st h
end L2
namespace L2
open PySem PySem.Spec PyProof.Rows
section
variable {X : Cx} {tg : Expr}
noncomputable def iList (K : PySem.W.Frag) (tl : TE) : TI := fun σ H R => tl σ H fun x H1 => ∃ a, x = .ref a ∧ (∃ xs, SqL K H1 a xs) ∧ R (Itl K a) H1
noncomputable def iTup (K : PySem.W.Frag) (tl : TE) : TI := fun σ H R => tl σ H fun x H1 => ∃ a, x = .ref a ∧ (∃ xs, SqT K H1 a xs) ∧ R (Itt K a) H1
theorem pi_list {l : Expr} {tl : TE} (hl : PE X l tl) : PI X tg l (iList X.K tl) := by
  intro pins s σ H R I h
  refine thn (hl pins s σ H _ I h) fun v s1 ⟨x, H1, I1, r1, q1⟩ => ?_
  obtain ⟨a, e, ⟨xs, hq⟩, q⟩ := q1
  subst e
  cases r1
  obtain ⟨its, rv, p, hz⟩ := I1.list hq
  refine wpAny_pyIter_list p.isList ?_
  refine ⟨s1.heap.objs.size, [s1.heap.objs.size], _, _, H1, rfl, I1.kept (t' := s1.toks) fun b o e => Heap.get?_push_of_some _ e, turn_list a _, ⟨_, Heap.get?_push_size _ rfl, rfl, rfl⟩, fun b hb => ?_, q⟩
  have e : b = s1.heap.objs.size := by simpa using hb
  subst e
  exact I1.fpOk (Nat.le_refl _) (I1.hok.fresh (Nat.le_refl _))
theorem pi_tup {l : Expr} {tl : TE} (hl : PE X l tl) : PI X tg l (iTup X.K tl) := by
  intro pins s σ H R I h
  refine thn (hl pins s σ H _ I h) fun v s1 ⟨x, H1, I1, r1, q1⟩ => ?_
  obtain ⟨a, e, ⟨xs, hq⟩, q⟩ := q1
  subst e
  cases r1
  obtain ⟨its, rv, p, hz⟩ := I1.tuple hq
  refine wpAny_pyIter_tuple (show s1.heap.IsTuple a its.toArray from p) ?_
  refine ⟨s1.heap.objs.size, [s1.heap.objs.size], _, _, H1, rfl, I1.kept (t' := s1.toks) fun b o e => Heap.get?_push_of_some _ e, turn_tuple a _, ⟨_, Heap.get?_push_size _ rfl, rfl, rfl⟩, fun b hb => ?_, q⟩
  have e : b = s1.heap.objs.size := by simpa using hb
  subst e
  exact I1.fpOk (Nat.le_refl _) (I1.hok.fresh (Nat.le_refl _))
theorem range_it {pins : List (Addr × Obj)} {σ : St} {H : Hp} {s : Shared} {R : It → Hp → Prop} {E : Value → Shared → Prop} {lo hi : Int} {t u v : Tok} {tk : Nat} (I : Inv X pins σ H s) (h1 : -(2 ^ 62) ≤ lo) (h2 : lo < 2 ^ 62) (h3 : -(2 ^ 62) ≤ hi) (h4 : hi < 2 ^ 62)
    (q : R (Itr lo (hi - lo).toNat) H) : wpAny (model X.prog X.w) X.A (pyIter (.ref s.heap.objs.size)) (PIE X pins σ tg R) E { s with heap := s.heap.push { cls := .type "range", data := .fields #[.int lo t, .int hi u, .int 1 v] }, toks := tk } := by
  refine wpAny_pyIter_range (IsRange.new ..) (small_one h1 h2 h3 h4) ?_
  have I1 : Inv X pins σ H { s with heap := s.heap.push { cls := .type "range", data := .fields #[.int lo t, .int hi u, .int 1 v] }, toks := tk } := I.kept fun b o e => Heap.get?_push_of_some _ e
  refine ⟨(s.heap.push { cls := .type "range", data := .fields #[.int lo t, .int hi u, .int 1 v] }).objs.size, [(s.heap.push { cls := .type "range", data := .fields #[.int lo t, .int hi u, .int 1 v] }).objs.size], _, _, H, rfl,
    I1.kept (t' := tk) fun b o e => Heap.get?_push_of_some _ e, turn_range _ lo (hi - lo).toNat, ?_, fun b hb => ?_, q⟩
  · have e1 : lo + ((0 : Nat) : Int) * 1 = lo := by simp
    have e2 : (((hi - lo).toNat : Nat) : Int) - ((0 : Nat) : Int) = Builtin.Range.rangeSize lo hi 1 := by rw [rangeSize_one]; split <;> trivial
    show IsRangeIter _ _ (lo + ((0 : Nat) : Int) * 1) ((((hi - lo).toNat : Nat) : Int) - ((0 : Nat) : Int)) 1
    rw [e1, e2]
    exact Heap.get?_push_size _ rfl
  · have e : b = (s.heap.push { cls := .type "range", data := .fields #[.int lo t, .int hi u, .int 1 v] }).objs.size := by simpa using hb
    subst e
    exact I1.fpOk (Nat.le_refl _) (I1.hok.fresh (Nat.le_refl _))
noncomputable def iRng1 (ta : TA) : TI := fun σ H R => ta σ H fun vs H1 => ∃ j : Int, vs = [.int j] ∧ -(2 ^ 62) ≤ j ∧ j < 2 ^ 62 ∧ R (Itr 0 j.toNat) H1
noncomputable def iRng2 (ta : TA) : TI := fun σ H R => ta σ H fun vs H1 => ∃ i j : Int, vs = [.int i, .int j] ∧ (-(2 ^ 62) ≤ i ∧ i < 2 ^ 62 ∧ -(2 ^ 62) ≤ j ∧ j < 2 ^ 62) ∧ R (Itr i (j - i).toNat) H1
theorem pi_range1 {a : Expr} {ta : TA} {p pos : Pos} (hg : Gl X "range") (hm : X.mg "range" = none) (ha : PA X [a] ta) (hs : starEach [a] X.env = [(false, eval a X.env)] := by rfl) : PI X tg (.Call (.Name "range" p) [a] [] pos) (iRng1 ta) := by
  intro pins s σ H R I h
  refine Call_ (ld_blt I hg hm boot_range (PyProof.Rows.callWith_type1 (thn (ha pos pins s σ H _ I h) fun us s1 ⟨vs, H1, I1, r1, q1⟩ => ?_) hs rfl))
  obtain ⟨j, e, q1, q2, q⟩ := q1
  subst e
  cases r1 with
  | cons r rr =>
    cases rr
    obtain ⟨t, rfl⟩ := r
    exact call_range_1 (range_it I1 (by trivial) (by trivial) q1 q2 (by simpa using q))
theorem pi_range2 {a b : Expr} {ta : TA} {p pos : Pos} (hg : Gl X "range") (hm : X.mg "range" = none) (ha : PA X [a, b] ta) (hs : starEach [a, b] X.env = [(false, eval a X.env), (false, eval b X.env)] := by rfl) (hs2 : starEach [b] X.env = [(false, eval b X.env)] := by rfl) :
    PI X tg (.Call (.Name "range" p) [a, b] [] pos) (iRng2 ta) := by
  intro pins s σ H R I h
  refine Call_ (ld_blt I hg hm boot_range (PyProof.Rows.callWith_type1 (thn (ha pos pins s σ H _ I h) fun us s1 ⟨vs, H1, I1, r1, q1⟩ => ?_) (by rw [hs, hs2]) (by rw [hs2]; rfl)))
  obtain ⟨i, j, e, ⟨q1, q2, q3, q4⟩, q⟩ := q1
  subst e
  cases r1 with
  | cons r rr =>
    cases rr with
    | cons r' rr =>
      cases rr
      obtain ⟨t, rfl⟩ := r
      obtain ⟨t', rfl⟩ := r'
      exact call_range_2 (range_it I1 q1 q2 q3 q4 q)
noncomputable def tFor (wi : TI) (g : TG) (tb : TS) : TS := fun D σ H => wi σ H fun J H1 => ∃ W : Nat → Nat → St → Hp → Prop, (∃ m, W 0 m σ H1) ∧ ∀ i m σ H, W i m σ H →
  (J.stop i H ∧ D.nx σ H) ∨ (J.go i H ∧ ∃ N : St → Hp → Prop, (∀ σ' H', N σ' H' → ∃ m', m' < m ∧ W (i + 1) m' σ' H') ∧ ∀ x H', J.yld i H x H' → g x σ H' fun σ2 H2 => tb { D with nx := N, ct := N, bk := D.nx } σ2 H2)
noncomputable def pinsAt (fp : List Addr) (h : Heap) : List (Addr × Obj) := fp.filterMap fun b => (h.get? b).map fun o => (b, o)
theorem mem_pinsAt {fp : List Addr} {h : Heap} {b : Addr} {o : Obj} (hb : b ∈ fp) (e : h.get? b = some o) : (b, o) ∈ pinsAt fp h := List.mem_filterMap.mpr ⟨b, hb, by rw [e]; rfl⟩
theorem of_pinsAt {fp : List Addr} {h : Heap} {p : Addr × Obj} (hp : p ∈ pinsAt fp h) : p.1 ∈ fp ∧ h.get? p.1 = some p.2 := by
  obtain ⟨b, hb, e⟩ := List.mem_filterMap.mp hp
  cases q : h.get? b with
  | none => rw [q] at e; cases e
  | some o =>
    rw [q] at e
    have e' : (b, o) = p := Option.some.inj e
    subst e'
    exact ⟨hb, q⟩
theorem Inv.pinned {pins : List (Addr × Obj)} {σ : St} {H : Hp} {s : Shared} {fp : List Addr} (I : Inv X pins σ H s) (hf : ∀ b ∈ fp, FpOk X pins H b) (ho : ∀ b ∈ fp, ∃ o, s.heap.get? b = some o ∧ ∀ v, o.data ≠ .cell v) : Inv X (pins ++ pinsAt fp s.heap) σ H s :=
  I.pins_of fun p hp => (List.mem_append.mp hp).elim (fun z => I.pin p (List.mem_append_right _ z)) fun z => by
    obtain ⟨hb, e⟩ := of_pinsAt z
    obtain ⟨f0, f1, f2, _⟩ := hf p.1 hb
    obtain ⟨o, e', d⟩ := ho p.1 hb
    rw [e] at e'; cases e'
    exact ⟨e, f0, f1, f2, d⟩
theorem Inv.unpinned {pins pl : List (Addr × Obj)} {σ : St} {H : Hp} {s : Shared} (I : Inv X (pins ++ pl) σ H s) : Inv X pins σ H s := I.pins_of fun p hp => I.pin p (List.mem_append_right _ (List.mem_append_left _ hp))
theorem ps_for {iter : Expr} {body : List Stmt} {wi : TI} {g : TG} {tb : TS} {pos : Pos} (hp : PassesOwn (model X.prog X.w) X.A X.env X.xe) (hc : X.calm = true) (hi : PI X tg iter wi) (hg : PG X tg g) (hb : PSs X body tb)
    (hs : ∀ x, foldedSetIterable iter X.env x = pure x := by intro _; rfl) : PS X (.For tg iter body [] pos) (tFor wi g tb) := by
  intro pins s σ H D I h
  refine wpAny_For (thn (hi pins s σ H _ I h) fun v s1 h1 => thn h1 fun itv s2 h2 => ?_) hs
  obtain ⟨it, fp, tn, J, H2, e, I2, T, st2, f2, W, ⟨m0, w0⟩, turn⟩ := h2
  subst e
  -- what stays true of the iterator's objects through the loop
  have stat : ∀ {H' : Hp}, (∀ b ∈ fp, H' b = none) → ∀ b ∈ fp, FpOk X pins H' b := fun hn b hb => ⟨hn b hb, (f2 b hb).2⟩
  refine codeAny_forLoop_any (fun n s' => ∃ i σ' H', Inv X pins σ' H' s' ∧ tn i s'.heap ∧ (∀ b ∈ fp, H' b = none) ∧ W i n σ' H') ?_ m0 ⟨0, σ, H2, I2, st2, fun b hb => (f2 b hb).1, w0⟩
  rintro n s3 ⟨i, σ3, H3, I3, st3, fr3, w3⟩
  rcases turn i n σ3 H3 w3 with ⟨stop, qn⟩ | ⟨go, N, hN, step⟩
  · refine wpAny_passesOwn hp (thn (T.done X rfl rfl rfl hc i pins s3 σ3 H3 X.xe I3 (stat fr3) st3 stop) fun r s4 ⟨hr, I4⟩ => ?_)
    subst hr
    exact wpAny_execs_nil ⟨σ3, H3, I4, qn⟩
  · refine wpAny_passesOwn hp (thn (T.item X rfl rfl rfl hc i pins s3 σ3 H3 X.xe I3 (stat fr3) st3 go) fun r s4 ⟨u, hr, h4⟩ => ?_)
    subst hr
    refine wpAny_passesOwn hp (thn h4 fun _ s5 ⟨x, H5, I5, r5, y5, st5, fr5⟩ => ?_)
    have I5' := I5.pinned (stat fr5) (T.obj _ _ st5)
    refine wpAny_passesOwn hp (thn (hg _ s5 σ3 H5 x u _ I5' r5 (step x H5 y5)) fun _ s6 ⟨σ6, H6, I6, q6⟩ => ?_)
    refine wpAny_passesOwn hp (thn (hb _ s6 σ6 H6 _ I6 q6) fun f s7 q7 => ?_)
    have again : ∀ {σ7 : St} {H7 : Hp}, Inv X (pins ++ pinsAt fp s5.heap) σ7 H7 s7 → N σ7 H7 → ∃ m, m < n ∧ ∃ i σ' H', Inv X pins σ' H' s7 ∧ tn i s7.heap ∧ (∀ b ∈ fp, H' b = none) ∧ W i m σ' H' := fun {σ7 H7} I7 n7 => by
      obtain ⟨m', hm, w7⟩ := hN σ7 H7 n7
      refine ⟨m', hm, i + 1, σ7, H7, I7.unpinned, T.keep _ _ _ st5 fun b hb o e => (I7.pin (b, o) (List.mem_append_right _ (List.mem_append_right _ (mem_pinsAt hb e)))).1, fun b hb => ?_, w7⟩
      obtain ⟨o, e, d⟩ := T.obj _ _ st5 b hb
      exact (I7.pin (b, o) (List.mem_append_right _ (List.mem_append_right _ (mem_pinsAt hb e)))).2.1
    cases f with
    | next => obtain ⟨σ7, H7, I7, n7⟩ := q7; exact again I7 n7
    | cont => obtain ⟨σ7, H7, I7, n7⟩ := q7; exact again I7 n7
    | brk => obtain ⟨σ7, H7, I7, q7⟩ := q7; exact ⟨σ7, H7, I7.unpinned, q7⟩
    | ret v => obtain ⟨x7, σ7, H7, I7, r7, q7⟩ := q7; exact ⟨x7, σ7, H7, I7.unpinned, r7, q7⟩
end
theorem for_list {K : PySem.W.Frag} {a : Addr} {xs : List V} {g : TG} {tb : TS} {D : Ends} {σ : St} {H : Hp} (Pv : Nat → St → Hp → Prop) (h0 : Pv 0 σ H) (hl : ∀ i σ H, i ≤ xs.length → Pv i σ H → SqL K H a xs)
    (hs : ∀ i x σ H, xs[i]? = some x → Pv i σ H → g x σ H fun σ2 H2 => tb { D with nx := Pv (i + 1), ct := Pv (i + 1), bk := D.nx } σ2 H2) (hd : ∀ σ H, Pv xs.length σ H → D.nx σ H) :
    ∃ W : Nat → Nat → St → Hp → Prop, (∃ m, W 0 m σ H) ∧ ∀ i m σ H, W i m σ H →
      ((Itl K a).stop i H ∧ D.nx σ H) ∨ ((Itl K a).go i H ∧ ∃ N : St → Hp → Prop, (∀ σ' H', N σ' H' → ∃ m', m' < m ∧ W (i + 1) m' σ' H') ∧ ∀ x H', (Itl K a).yld i H x H' → g x σ H' fun σ2 H2 => tb { D with nx := N, ct := N, bk := D.nx } σ2 H2) := by
  refine ⟨fun i m σ H => m = xs.length - i ∧ i ≤ xs.length ∧ Pv i σ H, ⟨xs.length, by simp, Nat.zero_le _, h0⟩, ?_⟩
  rintro i m σ H ⟨rfl, hi, p⟩
  have q := hl i σ H hi p
  by_cases hlt : i < xs.length
  · refine .inr ⟨⟨xs, xs[i], q, by simp [hlt]⟩, Pv (i + 1), fun σ' H' p' => ⟨xs.length - (i + 1), by trivial, rfl, hlt, p'⟩, fun x H' y => ?_⟩
    obtain ⟨e, y⟩ := y
    subst e
    exact hs i x σ _ (y xs q) p
  · have e : i = xs.length := by trivial
    subst e
    exact .inl ⟨⟨xs, q, Nat.le_refl _⟩, hd σ H p⟩
theorem for_tup {K : PySem.W.Frag} {a : Addr} {xs : List V} {g : TG} {tb : TS} {D : Ends} {σ : St} {H : Hp} (Pv : Nat → St → Hp → Prop) (h0 : Pv 0 σ H) (hl : ∀ i σ H, i ≤ xs.length → Pv i σ H → SqT K H a xs)
    (hs : ∀ i x σ H, xs[i]? = some x → Pv i σ H → g x σ H fun σ2 H2 => tb { D with nx := Pv (i + 1), ct := Pv (i + 1), bk := D.nx } σ2 H2) (hd : ∀ σ H, Pv xs.length σ H → D.nx σ H) :
    ∃ W : Nat → Nat → St → Hp → Prop, (∃ m, W 0 m σ H) ∧ ∀ i m σ H, W i m σ H →
      ((Itt K a).stop i H ∧ D.nx σ H) ∨ ((Itt K a).go i H ∧ ∃ N : St → Hp → Prop, (∀ σ' H', N σ' H' → ∃ m', m' < m ∧ W (i + 1) m' σ' H') ∧ ∀ x H', (Itt K a).yld i H x H' → g x σ H' fun σ2 H2 => tb { D with nx := N, ct := N, bk := D.nx } σ2 H2) := by
  refine ⟨fun i m σ H => m = xs.length - i ∧ i ≤ xs.length ∧ Pv i σ H, ⟨xs.length, by simp, Nat.zero_le _, h0⟩, ?_⟩
  rintro i m σ H ⟨rfl, hi, p⟩
  have q := hl i σ H hi p
  by_cases hlt : i < xs.length
  · refine .inr ⟨⟨xs, xs[i], q, by simp [hlt]⟩, Pv (i + 1), fun σ' H' p' => ⟨xs.length - (i + 1), by trivial, rfl, hlt, p'⟩, fun x H' y => ?_⟩
    obtain ⟨e, y⟩ := y
    subst e
    exact hs i x σ _ (y xs q) p
  · have e : i = xs.length := by trivial
    subst e
    exact .inl ⟨⟨xs, q, Nat.le_refl _⟩, hd σ H p⟩
theorem for_range {lo : Int} {n : Nat} {g : TG} {tb : TS} {D : Ends} {σ : St} {H : Hp} (Pv : Nat → St → Hp → Prop) (h0 : Pv 0 σ H)
    (hs : ∀ i σ H, i < n → Pv i σ H → g (.int (lo + i)) σ H fun σ2 H2 => tb { D with nx := Pv (i + 1), ct := Pv (i + 1), bk := D.nx } σ2 H2) (hd : ∀ σ H, Pv n σ H → D.nx σ H) :
    ∃ W : Nat → Nat → St → Hp → Prop, (∃ m, W 0 m σ H) ∧ ∀ i m σ H, W i m σ H →
      ((Itr lo n).stop i H ∧ D.nx σ H) ∨ ((Itr lo n).go i H ∧ ∃ N : St → Hp → Prop, (∀ σ' H', N σ' H' → ∃ m', m' < m ∧ W (i + 1) m' σ' H') ∧ ∀ x H', (Itr lo n).yld i H x H' → g x σ H' fun σ2 H2 => tb { D with nx := N, ct := N, bk := D.nx } σ2 H2) := by
  refine ⟨fun i m σ H => m = n - i ∧ i ≤ n ∧ Pv i σ H, ⟨n, by simp, Nat.zero_le _, h0⟩, ?_⟩
  rintro i m σ H ⟨rfl, hi, p⟩
  by_cases hlt : i < n
  · refine .inr ⟨hlt, Pv (i + 1), fun σ' H' p' => ⟨n - (i + 1), by trivial, rfl, hlt, p'⟩, fun x H' y => ?_⟩
    obtain ⟨e, y⟩ := y
    subst e y
    exact hs i σ _ hlt p
  · have e : i = n := by trivial
    subst e
    exact .inl ⟨Nat.le_refl _, hd σ H p⟩
end L2
namespace L2
open PySem PySem.Spec PyProof.Rows
noncomputable abbrev R2 := V → V → Hp → VK → Prop
noncomputable def OpR (X : Cx) (f : Value → Value → Sem Value) (r : R2) : Prop :=
  ∀ (pins : List (Addr × Obj)) (s : Shared) (σ : St) (H : Hp) (x y : V) (v u : Value) (Q : VK), Inv X pins σ H s → RelV x v → RelV y u → r x y H Q →
    wpAny (model X.prog X.w) X.A (f v u) (EP X pins σ Q) X.xe s
noncomputable def CallR (X : Cx) (f : Value) (r : List V → Hp → VK → Prop) : Prop :=
  ∀ (pins : List (Addr × Obj)) (s : Shared) (σ : St) (H : Hp) (xs : List V) (us : List Value) (Q : VK), Inv X pins σ H s → Vals xs us → r xs H Q →
    wpAny (model X.prog X.w) X.A (call f us) (EP X pins σ Q) X.xe s
noncomputable def tOp (r : R2) (ta tb : TE) : TE := fun σ H Q => ta σ H fun x H1 => tb σ H1 fun y H2 => r x y H2 Q
noncomputable def rI (C : Int → Int → Prop) (g : Int → Int → V) : R2 := fun x y H Q => ∃ i j, x = .int i ∧ y = .int j ∧ C i j ∧ Q (g i j) H
noncomputable def rI0 (g : Int → Int → V) : R2 := fun x y H Q => ∃ i j, x = .int i ∧ y = .int j ∧ Q (g i j) H
section
variable {X : Cx} {a b c : Expr} {ta tb tc : TE} {pos : Pos}
theorem binT (ha : PE X a ta) (hb : PE X b tb) {pins : List (Addr × Obj)} {s : Shared} {σ : St} {H : Hp} {R : V → V → Hp → Prop} (I : Inv X pins σ H s)
    (h : ta σ H fun x H1 => tb σ H1 fun y H2 => R x y H2) {Q : Value → Shared → Prop} {f : Value → Value → Sem Value}
    (hf : ∀ v u s2 x y H2, Inv X pins σ H2 s2 → RelV x v → RelV y u → R x y H2 → wpAny (model X.prog X.w) X.A (f v u) Q X.xe s2) :
    wpAny (model X.prog X.w) X.A (eval a X.env) (fun v s₁ => wpAny (model X.prog X.w) X.A (eval b X.env) (fun u s₂ => wpAny (model X.prog X.w) X.A (f v u) Q X.xe s₂) X.xe s₁) X.xe s := by
  refine thn (ha pins s σ H _ I h) fun v s1 ⟨x, H1, I1, r1, q1⟩ => ?_
  refine thn (hb pins s1 σ H1 _ I1 q1) fun u s2 ⟨y, H2, I2, r2, q2⟩ => ?_
  exact hf v u s2 x y H2 I2 r1 r2 q2
theorem pe_op {op : Operator} {r : R2} (ho : OpR X (binaryOp op) r) (ha : PE X a ta) (hb : PE X b tb) : PE X (.BinOp a op b pos) (tOp r ta tb) := by
  intro pins s σ H Q I h
  exact wpAny_BinOp (binT ha hb I h fun v u s2 x y H2 I2 rx ry q => ho pins s2 σ H2 x y v u Q I2 rx ry q)
theorem opI {f : Value → Value → Sem Value} {C : Int → Int → Prop} {g : Int → Int → Int}
    (rule : ∀ (i j : Int) (t u : Tok) (s : Shared) (Q : Value → Shared → Prop) (E : Value → Shared → Prop), C i j → Q (.int (g i j) s.toks) { s with toks := s.toks + 1 } → wpAny (model X.prog X.w) X.A (f (.int i t) (.int j u)) Q E s) :
    OpR X f (rI C fun i j => .int (g i j)) := by
  intro pins s σ H x y v u Q I rx ry h
  obtain ⟨i, j, rfl, rfl, hc, q⟩ := h
  obtain ⟨t, rfl⟩ := rx
  obtain ⟨t', rfl⟩ := ry
  exact rule i j t t' s _ _ hc ⟨.int (g i j), H, I.tok _, ⟨_, rfl⟩, q⟩
theorem opI0 {f : Value → Value → Sem Value} {g : Int → Int → Int}
    (rule : ∀ (i j : Int) (t u : Tok) (s : Shared) (Q : Value → Shared → Prop) (E : Value → Shared → Prop), Q (.int (g i j) s.toks) { s with toks := s.toks + 1 } → wpAny (model X.prog X.w) X.A (f (.int i t) (.int j u)) Q E s) :
    OpR X f (rI0 fun i j => .int (g i j)) := by
  intro pins s σ H x y v u Q I rx ry h
  obtain ⟨i, j, rfl, rfl, q⟩ := h
  obtain ⟨t, rfl⟩ := rx
  obtain ⟨t', rfl⟩ := ry
  exact rule i j t t' s _ _ ⟨.int (g i j), H, I.tok _, ⟨_, rfl⟩, q⟩
theorem opB0 {f : Value → Value → Sem Value} {g : Int → Int → Bool}
    (rule : ∀ (i j : Int) (t u : Tok) (s : Shared) (Q : Value → Shared → Prop) (E : Value → Shared → Prop), Q (.bool (g i j)) s → wpAny (model X.prog X.w) X.A (f (.int i t) (.int j u)) Q E s) :
    OpR X f (rI0 fun i j => .bl (g i j)) := by
  intro pins s σ H x y v u Q I rx ry h
  obtain ⟨i, j, rfl, rfl, q⟩ := h
  obtain ⟨t, rfl⟩ := rx
  obtain ⟨t', rfl⟩ := ry
  exact rule i j t t' s _ _ ⟨.bl (g i j), H, I, rfl, q⟩
noncomputable def CDiv (i j : Int) : Prop := 0 < j ∧ j < 1073741824
noncomputable def CPow (i j : Int) : Prop := 0 ≤ j ∧ j ≤ 1000000 ∧ i.natAbs < 2 ^ 64
noncomputable def CMul (i j : Int) : Prop := (-(2 ^ 64) < i ∧ i < 2 ^ 64) ∨ (-(2 ^ 64) < j ∧ j < 2 ^ 64)
theorem CMul.ok {i j : Int} (h : CMul i j) : IntMulOk i j := by
  rcases h with ⟨h1, h2⟩ | ⟨h1, h2⟩
  · exact .of_left (intBits_le_64 h1 h2)
  · exact .of_right (intBits_le_64 h1 h2)
theorem op_add : OpR X (binaryOp .Add) (rI0 fun i j => .int (i + j)) := opI0 fun _ _ _ _ _ _ _ q => add_int q
theorem op_sub : OpR X (binaryOp .Sub) (rI0 fun i j => .int (i - j)) := opI0 fun _ _ _ _ _ _ _ q => sub_int q
theorem op_mul : OpR X (binaryOp .Mult) (rI CMul fun i j => .int (i * j)) := opI fun _ _ _ _ _ _ _ hc q => mul_int q hc.ok
theorem op_fdiv : OpR X (binaryOp .FloorDiv) (rI CDiv fun i j => .int (i / j)) := opI fun i j _ _ _ _ _ hc q => by
  have h1 : (0 : Int) < j := hc.1
  have h2 : j < 1073741824 := hc.2
  exact floordiv_int (by trivial) (by rw [Int.fdiv_eq_ediv_of_nonneg i (by trivial)]; exact q) (.inl (PyProof.noPylong_small (by trivial)))
theorem op_mod : OpR X (binaryOp .Mod) (rI (fun _ j => 0 < j) fun i j => .int (i % j)) := opI fun i j _ _ _ _ _ hc q => by
  have h1 : (0 : Int) < j := hc
  exact mod_int' (by trivial) (by rw [Int.fmod_eq_emod_of_nonneg i (by trivial)]; exact q)
theorem op_pow : OpR X (binaryOp .Pow) (rI CPow fun i j => .int (i ^ j.toNat)) := opI fun _ _ _ _ _ _ _ hc q => pow_int_small hc.1 hc.2.1 hc.2.2 q
end
noncomputable def scal : V → V → Bool
  | .non, .non => true | .non, .int _ => true | .int _, .non => true | .non, .bl _ => true | .bl _, .non => true | .non, .str _ => true | .str _, .non => true
  | .int _, .int _ => true | .bl _, .bl _ => true | .str _, .str _ => true | .byt _, .byt _ => true
  | .int _, .str _ => true | .str _, .int _ => true | .bl _, .str _ => true | .str _, .bl _ => true
  | _, _ => false
noncomputable def rEq : R2 := fun x y H Q => scal x y = true ∧ Q (.bl (decide (x = y))) H
noncomputable def rNe : R2 := fun x y H Q => scal x y = true ∧ Q (.bl (!decide (x = y))) H
theorem dec_int {i j : Int} : decide (V.int i = V.int j) = (i == j) := by
  rw [Bool.eq_iff_iff]
  simp
theorem dec_bl {i j : Bool} : decide (V.bl i = V.bl j) = (i == j) := by
  rw [Bool.eq_iff_iff]
  simp
theorem dec_str {i j : Str} : decide (V.str i = V.str j) = (i == j) := by
  rw [Bool.eq_iff_iff]
  simp
theorem dec_byt {i j : Array UInt8} : decide (V.byt i = V.byt j) = (i.toList == j.toList) := by
  rw [Bool.eq_iff_iff]
  cases i
  cases j
  simp
section
variable {X : Cx} {a b c : Expr} {ta tb tc : TE} {pos : Pos}
theorem fin_bl {pins : List (Addr × Obj)} {σ : St} {H : Hp} {s : Shared} {Q : VK} {k k' : Bool} (I : Inv X pins σ H s) (q : Q (.bl k) H) (e : k = k') : EP X pins σ Q (.bool k') s := by
  subst e
  exact ⟨.bl k, H, I, rfl, q⟩
theorem op_eq : OpR X (compareOp .Eq) rEq := by
  intro pins s σ H x y v u Q I rx ry h
  obtain ⟨hs, q⟩ := h
  cases x with
  | non =>
    cases rx
    cases y with
    | non => cases ry; exact PySem.EqNone.eq_none_none (fin_bl I q (by simp))
    | bl j => cases ry; exact PySem.EqNone.eq_none_bool (fin_bl I q (by simp))
    | int j => obtain ⟨t', rfl⟩ := ry; exact PySem.EqNone.eq_none_int (fin_bl I q (by simp))
    | str j => obtain ⟨t', rfl⟩ := ry; exact PySem.EqNone.eq_none_str (fin_bl I q (by simp))
    | _ => exact absurd (show false = true from hs) Bool.false_ne_true
  | bl i =>
    cases rx
    cases y with
    | non => cases ry; exact PySem.EqNone.eq_bool_none (fin_bl I q (by simp))
    | bl j => cases ry; exact eq_bool (fin_bl I q dec_bl)
    | str j => obtain ⟨t', rfl⟩ := ry; exact PySem.EqMixed.eq_bool_str (fin_bl I q (by simp))
    | _ => exact absurd (show false = true from hs) Bool.false_ne_true
  | int i =>
    obtain ⟨t, rfl⟩ := rx
    cases y with
    | non => cases ry; exact PySem.EqNone.eq_int_none (fin_bl I q (by simp))
    | int j => obtain ⟨t', rfl⟩ := ry; exact eq_int (fin_bl I q dec_int)
    | str j => obtain ⟨t', rfl⟩ := ry; exact PySem.EqMixed.eq_int_str (fin_bl I q (by simp))
    | _ => exact absurd (show false = true from hs) Bool.false_ne_true
  | str i =>
    obtain ⟨t, rfl⟩ := rx
    cases y with
    | non => cases ry; exact PySem.EqNone.eq_str_none (fin_bl I q (by simp))
    | bl j => cases ry; exact PySem.EqMixed.eq_str_bool (fin_bl I q (by simp))
    | int j => obtain ⟨t', rfl⟩ := ry; exact PySem.EqMixed.eq_str_int (fin_bl I q (by simp))
    | str j => obtain ⟨t', rfl⟩ := ry; exact eq_str (fin_bl I q dec_str)
    | _ => exact absurd (show false = true from hs) Bool.false_ne_true
  | byt i =>
    obtain ⟨t, rfl⟩ := rx
    cases y with
    | byt j => obtain ⟨t', rfl⟩ := ry; exact PySem.W.eq_bytes (fin_bl I q dec_byt)
    | _ => exact absurd (show false = true from hs) Bool.false_ne_true
  | _ => cases y <;> exact absurd (show false = true from hs) Bool.false_ne_true
theorem op_ne : OpR X (compareOp .NotEq) rNe := by
  intro pins s σ H x y v u Q I rx ry h
  obtain ⟨hs, q⟩ := h
  cases x with
  | non =>
    cases rx
    cases y with
    | non => cases ry; exact PySem.EqNone.ne_none_none (fin_bl I q (by simp))
    | bl j => cases ry; exact PySem.EqNone.ne_none_bool (fin_bl I q (by simp))
    | int j => obtain ⟨t', rfl⟩ := ry; exact PySem.EqNone.ne_none_int (fin_bl I q (by simp))
    | str j => obtain ⟨t', rfl⟩ := ry; exact PySem.EqNone.ne_none_str (fin_bl I q (by simp))
    | _ => exact absurd (show false = true from hs) Bool.false_ne_true
  | bl i =>
    cases rx
    cases y with
    | non => cases ry; exact PySem.EqNone.ne_bool_none (fin_bl I q (by simp))
    | bl j => cases ry; exact ne_bool (fin_bl I q (congrArg not dec_bl))
    | str j => obtain ⟨t', rfl⟩ := ry; exact PySem.EqMixed.ne_bool_str (fin_bl I q (by simp))
    | _ => exact absurd (show false = true from hs) Bool.false_ne_true
  | int i =>
    obtain ⟨t, rfl⟩ := rx
    cases y with
    | non => cases ry; exact PySem.EqNone.ne_int_none (fin_bl I q (by simp))
    | int j => obtain ⟨t', rfl⟩ := ry; exact ne_int (fin_bl I q (congrArg not dec_int))
    | str j => obtain ⟨t', rfl⟩ := ry; exact PySem.EqMixed.ne_int_str (fin_bl I q (by simp))
    | _ => exact absurd (show false = true from hs) Bool.false_ne_true
  | str i =>
    obtain ⟨t, rfl⟩ := rx
    cases y with
    | non => cases ry; exact PySem.EqNone.ne_str_none (fin_bl I q (by simp))
    | bl j => cases ry; exact PySem.EqMixed.ne_str_bool (fin_bl I q (by simp))
    | int j => obtain ⟨t', rfl⟩ := ry; exact PySem.EqMixed.ne_str_int (fin_bl I q (by simp))
    | str j => obtain ⟨t', rfl⟩ := ry; exact ne_str (fin_bl I q (congrArg not dec_str))
    | _ => exact absurd (show false = true from hs) Bool.false_ne_true
  | byt i =>
    obtain ⟨t, rfl⟩ := rx
    cases y with
    | byt j => obtain ⟨t', rfl⟩ := ry; exact PySem.W.ne_bytes (fin_bl I q (congrArg not dec_byt))
    | _ => exact absurd (show false = true from hs) Bool.false_ne_true
  | _ => cases y <;> exact absurd (show false = true from hs) Bool.false_ne_true
theorem op_lt : OpR X (compareOp .Lt) (rI0 fun i j => .bl (decide (i < j))) := opB0 fun _ _ _ _ _ _ _ q => lt_int q
theorem op_le : OpR X (compareOp .LtE) (rI0 fun i j => .bl (decide (i ≤ j))) := opB0 fun _ _ _ _ _ _ _ q => le_int q
theorem op_gt : OpR X (compareOp .Gt) (rI0 fun i j => .bl (decide (j < i))) := opB0 fun _ _ _ _ _ _ _ q => gt_int q
theorem op_ge : OpR X (compareOp .GtE) (rI0 fun i j => .bl (decide (j ≤ i))) := opB0 fun _ _ _ _ _ _ _ q => ge_int q
theorem nomark (b : Expr) {op : CmpOp} (h : op ≠ .In := by decide) (h2 : op ≠ .NotIn := by decide) : behindInMarks op b = false := by
  have e1 : (op == CmpOp.In) = false := by cases op <;> first | rfl | exact absurd rfl h
  have e2 : (op == CmpOp.NotIn) = false := by cases op <;> first | rfl | exact absurd rfl h2
  cases b <;> simp [behindInMarks, e1, e2]
theorem pe_cmpR {op : CmpOp} {r : R2} (ho : OpR X (compareOp op) r) (ha : PE X a ta) (hb : PE X b tb) (hm : behindInMarks op b = false) : PE X (.Compare a [op] [b] pos) (tOp r ta tb) := by
  intro pins s σ H Q I h
  exact wpAny_Compare1 (binT ha hb I h fun v u s2 x y H2 I2 rx ry q => ho pins s2 σ H2 x y v u Q I2 rx ry q) hm
noncomputable def tTest (t : TE) : TT := fun σ H Q => t σ H fun x H' => ∃ k, x = .bl k ∧ Q k H'
theorem pt_cmpR {op : CmpOp} {r : R2} (ho : OpR X (compareOp op) r) (ha : PE X a ta) (hb : PE X b tb) (hm : behindInMarks op b = false) : PT X (.Compare a [op] [b] pos) (tTest (tOp r ta tb)) := by
  intro pins s σ H Q I h
  refine wpAny_isTrue_Compare1 (thn (ha pins s σ H _ I h) fun v s1 ⟨x, H1, I1, r1, q1⟩ => thn (hb pins s1 σ H1 _ I1 q1) fun u s2 ⟨y, H2, I2, r2, q2⟩ =>
    thn (ho pins s2 σ H2 x y v u _ I2 r1 r2 q2) fun c s3 ⟨z, H3, I3, r3, k, e, q3⟩ => ?_) hm
  subst e
  cases r3
  exact wpAny_truthy_bool ⟨H3, I3, q3⟩
theorem line63 : (sizeLine : Nat) < 2 ^ 63 := by rw [sizeLine_eq]; decide
theorem vals1 {x : V} {us : List Value} (r : Vals [x] us) : ∃ u, us = [u] ∧ RelV x u := by
  cases r with
  | cons r1 r2 => cases r2; exact ⟨_, rfl, r1⟩
theorem vals2 {x y : V} {us : List Value} (r : Vals [x, y] us) : ∃ u w', us = [u, w'] ∧ RelV x u ∧ RelV y w' := by
  cases r with
  | cons r1 r2 =>
    cases r2 with
    | cons r3 r4 => cases r4; exact ⟨_, _, rfl, r1, r3⟩
theorem call_min2 (hc : X.calm = true) : CallR X (.builtin "min") (fun xs H Q => ∃ i j, xs = [.int i, .int j] ∧ Q (.int (if j < i then j else i)) H) := by
  intro pins s σ H xs us Q I r h
  obtain ⟨i, j, rfl, q⟩ := h
  obtain ⟨u, w', rfl, ⟨t, rfl⟩, ⟨t', rfl⟩⟩ := vals2 r
  refine min_two_ints (I.ok.hd hc) fun h' tk k => ⟨_, H, I.kept k, ?_, q⟩
  by_cases hj : j < i
  · rw [if_pos hj, if_pos hj]; exact ⟨_, rfl⟩
  · rw [if_neg hj, if_neg hj]; exact ⟨_, rfl⟩
end
end L2
namespace L2
open PySem PySem.Spec PyProof.Rows
structure ObjM (h : Heap) (x dx C : Addr) (mA : Str → Option Value) : Prop where
  obj : h.get? x = some (PySem.W.instObj C dx)
  ns : h.Ns1 dx mA
  ne : dx ≠ x
theorem lookIn_ns {h : Heap} {dx : Addr} {mA : Str → Option Value} (n : h.Ns1 dx mA) : ∃ od, h.get? dx = some od ∧ ∀ name, PySem.W.lookIn name od = some (mA name) := by
  obtain ⟨o, es, ep, ho, hd, hk, _, hm⟩ := n
  refine ⟨o, ho, fun name => ?_⟩
  have e := hm name
  unfold nsFind findBy at e
  rw [← Array.find?_toList] at e
  unfold PySem.W.lookIn
  rw [hd]
  dsimp only
  split
  · rename_i y q
    rw [q] at e
    exact congrArg some e
  · rename_i q
    rw [q] at e
    have a : es.toList.any (·.refKey) = false := by
      rw [List.any_eq_false]
      intro y hy
      obtain ⟨z, t, hkey⟩ := hk y (Array.mem_toList_iff.mp hy)
      simp [DictEntry.refKey, hkey]
    have a' : ¬ es.toList.any (·.refKey) = true := by rw [a]; exact Bool.false_ne_true
    rw [if_neg a']
    exact congrArg some e
theorem ObjM.look {h : Heap} {x dx C : Addr} {mA : Str → Option Value} (I : ObjM h x dx C mA) : ∃ od, PySem.W.InstAt h x (PySem.W.instObj C dx) C (some od) ∧ ∀ name, PySem.W.lookIn name od = some (mA name) :=
  let ⟨od, ho, hl⟩ := lookIn_ns I.ns
  ⟨od, ⟨I.obj, rfl, rfl, ho⟩, hl⟩
section
variable {prog : Program} {w : World} {A : Around} {E : Value → Shared → Prop} {s : Shared} {K : PySem.W.Frag} {x dx C f : Addr} {mA : Str → Option Value} {name : Str} {v : Value}
end
theorem RelO.some_of {v : V} {o : Option Value} (r : RelO (some v) o) : ∃ u, o = some u ∧ RelV v u := by
  cases o with
  | none => exact (show False from r).elim
  | some u => exact ⟨u, rfl, r⟩
section
variable {P : Program} {w : World} {H H' : Hp} {h h' : Heap} {a C dx : Addr} {fs fs' : List (Str × V)}
theorem ins_get (hok : HOk P w H h) (e : H a = some (.ins C dx fs)) : ∃ mA, ObjM h a dx C mA ∧ (∀ f, RelO (fs.lookup f) (mA f)) ∧ PySem.Within mA (fs.map (·.1)) ∧ fs.length ≤ 1000 ∧ H dx = some (.own a) := by
  obtain ⟨d, z, ne, ob, mA, n, r, q⟩ := (show ObjOk P w H h a (.ins C dx fs) from hok a _ e)
  exact ⟨mA, ⟨ob, n, ne⟩, r, q, z, d⟩
end
structure Cls (K : PySem.W.Frag) (C : Addr) : Prop where
  pg : PySem.W.plainGet K C Str.empty = true
  hd : PySem.W.hasDictIn K C = true
  po : PySem.W.plainOver K C = true
  sa : PySem.W.findIn K (.ref C) "__setattr__" = some (some (.builtin "object.__setattr__"))
theorem Cls.get {K : PySem.W.Frag} {C : Addr} (c : Cls K C) (f : Str) : PySem.W.plainGet K C f = true := c.pg
structure Con (K : PySem.W.Frag) (C : Addr) (f : Str) (v : V) (u : Value) : Prop where
  at_ : PySem.W.findIn K (.ref C) f = some (some u)
  rel : RelV v u
  get : PySem.W.specialIn K u "__get__" = some none
  cp : PySem.W.copiedNames.contains f = false
structure Meth (K : PySem.W.Frag) (C : Addr) (m : Str) (f : Addr) : Prop where
  at_ : PySem.W.findIn K (.ref C) m = some (some (.ref f))
  fn : PySem.W.isFn K (.ref f) = true
  kp : PySem.W.keepIn K (.ref f) = true
section
variable {X : Cx} {pins : List (Addr × Obj)} {σ : St} {H : Hp} {s : Shared} {a C dx : Addr} {fs : List (Str × V)} {f : Str} {v : V} {A : Around} {E : Value → Shared → Prop}
end
section
variable {X : Cx} {o e value : Expr} {f : Str} {pos pos' tpos : Pos} {ta tv : TE}
end
section
variable {X : Cx} {pins : List (Addr × Obj)} {σ : St} {H : Hp} {s : Shared} {A : Around} {E : Value → Shared → Prop} {Q : Value → Shared → Prop} {c : Value} {b : Bool}
inductive TyOf (K : PySem.W.Frag) (H : Hp) : V → Value → Prop where
  | non : TyOf K H .non (.type "NoneType")
  | bl (x : Bool) : TyOf K H (.bl x) (.type "bool")
  | int (i : Int) : TyOf K H (.int i) (.type "int")
  | str (x : Str) : TyOf K H (.str x) (.type "str")
  | flt (x : UInt64) : TyOf K H (.flt x) (.type "float")
  | lst {a : Addr} {xs : List V} (e : H a = some (.lst xs)) : TyOf K H (.ref a) (.type "list")
  | frz {a : Addr} {o : Obj} {xs : List V} (e : H a = some (.frz o (.lst xs))) : TyOf K H (.ref a) (.type "list")
  | tup {a : Addr} {xs : List V} (e : H a = some (.tup xs)) : TyOf K H (.ref a) (.type "tuple")
  | dK {a : Addr} {kvs : List (Key × V)} (e : H a = some (.dK kvs)) : TyOf K H (.ref a) (.type "dict")
  | dT {a : Addr} {kvs : List (List Key × V)} (e : H a = some (.dT kvs)) : TyOf K H (.ref a) (.type "dict")
  | ins {a C dx : Addr} {fs : List (Str × V)} (e : H a = some (.ins C dx fs)) (cl : Cls K C) (ha : PySem.W.findIn K (.ref C) "__class__" = some (some (.builtin "object.__class__")))
      (hn : PySem.W.specialIn K (.builtin "object.__class__") "__get__" = some (some (.builtin "getset_descriptor.__get__"))) (htk : PySem.W.takesIn K (.builtin "object.__class__") = some true)
      (hm : PySem.W.mroIn K C (.type "object") = some true) : TyOf K H (.ref a) (.ref C)
theorem isinst_ok {x : V} {u t : Value} (I : Inv X pins σ H s) (rx : RelV x u) (ty : TyOf X.K H x t) (e : PySem.W.kitOne X.K t c = some b) (h : ∀ tk, Q (.bool b) { s with toks := tk }) :
    wpAny (model X.prog X.w) A (call (.builtin "isinstance") [u, c]) Q E s := by
  cases ty with
  | non => cases (show u = Value.none from rx); exact PySem.W.kia_one PySem.W.kitx_none I.kIn True.intro e (fun z => nomatch z) h
  | bl y => cases (show u = Value.bool y from rx); exact PySem.W.kia_one PySem.W.kitx_bool I.kIn True.intro e (fun z => nomatch z) h
  | int i => obtain ⟨t, q⟩ := (show ∃ t, u = Value.int i t from rx); cases q; exact PySem.W.kia_one PySem.W.kitx_int I.kIn True.intro e (fun z => nomatch z) h
  | str y => obtain ⟨t, q⟩ := (show ∃ t, u = Value.str y t from rx); cases q; exact PySem.W.kia_one PySem.W.kitx_str I.kIn True.intro e (fun z => nomatch z) h
  | flt y => obtain ⟨t, q⟩ := (show ∃ t, u = Value.float y t from rx); cases q; exact PySem.W.kia_one PySem.W.kitx_float I.kIn True.intro e (fun z => nomatch z) h
  | @lst a xs ea =>
    cases (show u = Value.ref a from rx)
    obtain ⟨_, _, n, _, h1⟩ := (show ObjOk X.prog X.w H s.heap a (.lst xs) from I.hok a _ ea)
    exact PySem.W.kia_one PySem.W.kitx_list I.kIn ⟨_, h1, rfl⟩ e (fun z => nomatch z) h
  | @frz a ob xs ea =>
    cases (show u = Value.ref a from rx)
    obtain ⟨_, _, _, n, _, h1⟩ := (show ObjOk X.prog X.w H s.heap a (.frz ob (.lst xs)) from I.hok a _ ea)
    exact PySem.W.kia_one PySem.W.kitx_list I.kIn ⟨_, h1, rfl⟩ e (fun z => nomatch z) h
  | @tup a xs ea =>
    cases (show u = Value.ref a from rx)
    obtain ⟨_, _, _, p⟩ := (show ObjOk X.prog X.w H s.heap a (.tup xs) from I.hok a _ ea)
    obtain ⟨o, h1, h2, _⟩ := p
    exact PySem.W.kia_one PySem.W.kitx_tuple I.kIn ⟨o, h1, h2⟩ e (fun z => nomatch z) h
  | @dK a kvs ea =>
    cases (show u = Value.ref a from rx)
    obtain ⟨_, _, vs, _, p⟩ := (show ObjOk X.prog X.w H s.heap a (.dK kvs) from I.hok a _ ea)
    obtain ⟨o, es, ep, h1, h2, _⟩ := p
    exact PySem.W.kia_one PySem.W.kitx_dict I.kIn ⟨o, h1, h2.1⟩ e (fun z => nomatch z) h
  | @dT a kvs ea =>
    cases (show u = Value.ref a from rx)
    obtain ⟨_, _, xs, _, o, es, ep, h1, h2, _⟩ := (show ObjOk X.prog X.w H s.heap a (.dT kvs) from I.hok a _ ea)
    exact PySem.W.kia_one PySem.W.kitx_dict I.kIn ⟨o, h1, h2.1⟩ e (fun z => nomatch z) h
  | @ins a C dx fs ea cl ha hn htk hm =>
    cases (show u = Value.ref a from rx)
    obtain ⟨mA, O, _⟩ := ins_get I.hok ea
    obtain ⟨od, J, _⟩ := O.look
    exact PySem.W.kia_one (PySem.W.kitx_own (cl.get _) cl.hd ha hn htk hm) I.kIn J e (fun z => nomatch z) h
end
end L2
namespace L2
open PySem PySem.Spec PyProof.Rows
structure Room (k : Nat) (A : Around) : Prop where
  hd : A.handled = none
  dp : A.depth + 3 * k + 5 < recursionLimit
  un : A.units + 16 * k + 200 < cLine
theorem Room.mono {j k : Nat} {A : Around} (r : Room k A) (h : j ≤ k) : Room j A := ⟨r.hd, by have := r.dp; trivial, by have := r.un; trivial⟩
theorem Room.deeper {k : Nat} {A : Around} (r : Room (k + 1) A) (env : Env) : Room k (A.deeper env) :=
  ⟨r.hd, by have := r.dp; show A.depth + 1 + 3 * k + 5 < _; trivial, by have := r.un; show A.units + 3 + 16 * k + 200 < _; trivial⟩
theorem Room.depth {k : Nat} {A : Around} (r : Room k A) : A.depth < recursionLimit := by have := r.dp; trivial
theorem Room.units {k : Nat} {A : Around} (r : Room k A) : A.units + 64 < cLine := by have := r.un; trivial
noncomputable def tNil : TA := fun _ H Q => Q [] H
noncomputable def tCons (ta : TE) (tr : TA) : TA := fun σ H Q => ta σ H fun x H1 => tr σ H1 fun xs H2 => Q (x :: xs) H2
section
variable {X : Cx} {e : Expr} {es : List Expr} {te : TE} {t : TA} {pos : Pos}
theorem pa_nil : PA X [] tNil := fun _ _ _ _ H Q I h => Calls.spliced_nil ⟨[], H, I, .nil, h⟩
theorem pa_cons (ha : PE X e te) (hr : PA X es t) (hs : starEach (e :: es) X.env = (false, eval e X.env) :: starEach es X.env := by rfl) : PA X (e :: es) (tCons te t) := by
  intro pos pins s σ H Q I h
  rw [hs]
  show wpAny _ _ (spliced ((false, eval e X.env) :: backTo pos (starEach es X.env))) _ _ s
  refine Calls.spliced_cons (thn (ha pins s σ H _ I h) fun u s1 ⟨x, H1, I1, r1, q1⟩ => ?_)
  exact thn (hr pos pins s1 σ H1 _ I1 q1) fun us s2 ⟨xs, H2, I2, r2, q2⟩ => ⟨x :: xs, H2, I2, .cons r1 r2, q2⟩
noncomputable def tTup (t : TA) : TE := fun σ H Q => t σ H fun xs H1 => xs.length ≤ sizeLine ∧ ∀ p, H1 p = none → Q (.ref p) (upd H1 p (.tup xs))
noncomputable def tLst (t : TA) : TE := fun σ H Q => t σ H fun xs H1 => xs.length ≤ sizeLine ∧ ∀ p, H1 p = none → Q (.ref p) (upd H1 p (.lst xs))
theorem pe_tup {x1} (h : PA X es t) : PE X (.Tuple es x1 pos) (tTup t) := by
  intro pins s σ H Q I hq
  refine wpAny_Tuple_spliced (thn (h pos pins s σ H _ I hq) fun us s1 ⟨xs, H1, I1, r, z, q⟩ => ⟨by rw [← r.length]; exact z, ?_⟩)
  have hf : H1 s1.heap.objs.size = none := I1.hok.fresh (Nat.le_refl _)
  refine ⟨.ref s1.heap.objs.size, upd H1 s1.heap.objs.size (.tup xs), I1.laid (t' := s1.toks) (fun b u e => Heap.get?_push_of_some _ e) (Nat.le_refl _) ?_, rfl, q _ hf⟩
  exact ⟨z, us, r, ⟨_, Heap.get?_push_size _ rfl, rfl, _, rfl⟩⟩
theorem pe_lst (h : PA X es t) : PE X (.List es pos) (tLst t) := by
  intro pins s σ H Q I hq
  refine wpAny_List_spliced (thn (h pos pins s σ H _ I hq) fun us s1 ⟨xs, H1, I1, r, z, q⟩ => ⟨by rw [← r.length]; exact z, ?_⟩)
  have hf : H1 s1.heap.objs.size = none := I1.hok.fresh (Nat.le_refl _)
  refine ⟨.ref s1.heap.objs.size, upd H1 s1.heap.objs.size (.lst xs), I1.laid (t' := s1.toks) (fun b u e => Heap.get?_push_of_some _ e) (Nat.le_refl _) ?_, rfl, q _ hf⟩
  exact ⟨z, us, 0, r, Heap.get?_push_size _ rfl⟩
end
noncomputable abbrev Sp := List V → Hp → VK → XK → Prop
noncomputable abbrev CXT := List Env → Hp → Shared → XK → Value → Shared → Prop
structure Env0 (P : Program) (w : World) (K : PySem.W.Frag) (mg : Str → Option Value) (base : Heap) (A : Around) (outer : List Env) (s : Shared) (H : Hp) : Prop where
  frames : A.frames = some outer
  mod : Mod K mg base
  bs : ∀ b o, base.get? b = some o → s.heap.get? b = some o ∧ H b = none
  bsz : base.objs.size ≤ s.heap.objs.size
  funs : s.heap.FunFrames base outer
  frf : ∀ b ∈ frs outer, H b = none
  hok : HOk P w H s.heap
  bare : AllBare s.gens
noncomputable def CE (outer : List Env) (P : Program) (w : World) (H : Hp) (s : Shared) (Q : VK) (u : Value) (s' : Shared) : Prop :=
  ∃ v H', s'.os = s.os ∧ AllBare s'.gens ∧ Un (frs outer) [] H H' s.heap s'.heap ∧ HOk P w H' s'.heap ∧ RelV v u ∧ Q v H'
noncomputable def CR (CX : CXT) (outer : List Env) (P : Program) (w : World) (H : Hp) (s : Shared) (Q : VK) (E : XK) (r : Result) (s' : Shared) : Prop :=
  match r with
  | .ok (.ret u) => CE outer P w H s Q u s'
  | .ok _ => False
  | .error e => CX outer H s E e s'
structure FnOk (P : Program) (w : World) (K : PySem.W.Frag) (mg : Str → Option Value) (base : Heap) (CX : CXT) (k : Nat) (f : Addr) (fd : FuncData) (ps : List Str) (sp : Sp) : Prop where
  len : ∀ vs H Q E, sp vs H Q E → vs.length = ps.length
  run : ∀ (A : Around) (outer : List Env) (s : Shared) (H : Hp) (args : Args) (us : List Value) (vs : List V) (Q : VK) (E : XK), Room k A → Env0 P w K mg base A outer s H → BindsTo s fd args (ps.zip us) → Vals vs us → sp vs H Q E →
    codeAny (model P w) A (.call (.ref f) args) (CR CX outer P w H s Q E) s
section
variable {X : Cx} {pins : List (Addr × Obj)} {σ : St} {H : Hp} {s s' : Shared}
theorem Inv.env0 (I : Inv X pins σ H s) : Env0 X.prog X.w X.K X.mg X.base X.A X.stack s H :=
  ⟨I.ok.frames, I.ok.mod, I.bs, Nat.le_trans I.ok.bsz I.sz, I.stack, I.stkFree, I.hok, I.bare⟩
theorem Inv.after {Q : VK} {u : Value} (I : Inv X pins σ H s) (h : CE X.stack X.prog X.w H s Q u s') : EP X pins σ Q u s' := by
  obtain ⟨v, H', os, bare, un, hok, r, q⟩ := h
  obtain ⟨hh, g, d, t, os'⟩ := s'
  obtain rfl : os' = s.os := os
  exact ⟨v, H', I.call (h' := hh) (g' := g) (d' := d) (t' := t) (ch := []) un hok bare (fun b z => absurd z (by simp)), r, q⟩
end
noncomputable def tCall (sp : Sp) (dvs : List V) (E : XK) (t : TA) : TE := fun σ H Q => t σ H fun vs H1 => sp (vs ++ dvs) H1 Q E
noncomputable def Binds (K : PySem.W.Frag) (fd : FuncData) (ps : List Str) (ds : List Value) : Prop :=
  ∀ (s : Shared) (us : List Value), K.In s.heap → (us ++ ds).length = ps.length → BindsTo s fd ⟨us, []⟩ (ps.zip (us ++ ds))
theorem Binds.all {K : PySem.W.Frag} {fd : FuncData} {ps : List Str} (h : ∀ us : List Value, us.length = ps.length → bindArgs fd ⟨us, []⟩ = pure (ps.zip us)) : Binds K fd ps [] := fun s us _ hl => by
  rw [List.append_nil] at hl ⊢
  exact .of_eq (h us hl)
noncomputable def Passes (CX : CXT) (X : Cx) (E : XK) : Prop := ∀ (pins : List (Addr × Obj)) (σ : St) (H : Hp) (s : Shared) (e : Value) (s' : Shared), Inv X pins σ H s → CX X.stack H s E e s' → X.xe e s'
section
variable {X : Cx} {CX : CXT} {k : Nat} {f C : Addr} {fd : FuncData} {ps : List Str} {sp : Sp} {dvs : List V} {ds : List Value} {E : XK} {x m : Str} {p pos apos : Pos} {e o : Expr} {es : List Expr} {ta : TE} {t : TA}
theorem run_fn {pins : List (Addr × Obj)} {σ : St} {H : Hp} {s : Shared} {Q : VK} {us : List Value} {vs : List V} (F : FnOk X.prog X.w X.K X.mg X.base CX k f fd ps sp) (hr : Room k X.A) (hb : Binds X.K fd ps ds) (hd : Vals dvs ds) (hx : Passes CX X E)
    (I : Inv X pins σ H s) (r : Vals vs us) (h : sp (vs ++ dvs) H Q E) : wpAny (model X.prog X.w) X.A (call (.ref f) us) (EP X pins σ Q) X.xe s := by
  have r2 : Vals (vs ++ dvs) (us ++ ds) := r.append hd
  have hl : (us ++ ds).length = ps.length := by rw [← r2.length]; exact F.len _ _ _ _ h
  refine wpAny_call (codeAny_mono (F.run X.A X.stack s H ⟨us, []⟩ (us ++ ds) (vs ++ dvs) Q E hr I.env0 (hb s us I.kIn hl) r2 h) fun r s' hq => ?_)
  cases r with
  | error e => exact hx pins σ H s e s' I hq
  | ok fl =>
    cases fl with
    | ret u => exact I.after hq
    | next => exact False.elim hq
    | brk => exact False.elim hq
    | cont => exact False.elim hq
theorem pe_call (F : FnOk X.prog X.w X.K X.mg X.base CX k f fd ps sp) (hr : Room k X.A) (hg : Gl X x) (hm : X.mg x = some (.ref f)) (hk : PySem.W.keepIn X.K (.ref f) = true) (hb : Binds X.K fd ps ds) (hd : Vals dvs ds) (hx : Passes CX X E)
    (ha : PA X (e :: es) t) (hdb : (x == ("__debug__" : Str)) = false := by decide) (he : starEach (e :: es) X.env = (false, eval e X.env) :: starEach es X.env := by rfl) (hpl : (backTo pos (starEach es X.env)).any (·.1) = false := by rfl) :
    PE X (.Call (.Name x p) (e :: es) [] pos) (tCall sp dvs E t) := by
  intro pins s σ H Q I h
  refine wpAny_Call_Name_kw (ld_glob I hg hm ?_ hdb)
  refine PySem.W.callWith_K (h₀ := X.base) I.ok.mod.kin hk (thn (ha pos pins s σ H _ I h) fun us s1 ⟨vs, H1, I1, r, q⟩ => ⟨I1.kIn, ?_⟩) he hpl
  exact run_fn F hr hb hd hx I1 r q
structure Mk (K : PySem.W.Frag) (C f : Addr) : Prop where
  makes : PySem.W.makesIn K C = true
  init : PySem.W.findIn K (.ref C) "__init__" = some (some (.ref f))
  fn : PySem.W.isFn K (.ref f) = true
  kp : PySem.W.keepIn K (.ref C) = true
end
section
variable {X : Cx} {CX : CXT} {k : Nat} {f C : Addr} {fd : FuncData} {ps ks : List Str} {sp : Sp} {E : XK} {x m : Str} {p pos apos kpos : Pos} {e o : Expr} {es : List Expr} {kws : List Keyword} {te ta : TE} {t tk : TA} {nm : Option Str}
structure KBinds (K : PySem.W.Frag) (fd : FuncData) (ps ks : List Str) (g : List Value → List Value → List Value) (gV : List V → List V → List V) : Prop where
  to : ∀ (s : Shared) (us ws : List Value), K.In s.heap → (g us ws).length = ps.length → BindsTo s fd ⟨us, ks.zip ws⟩ (ps.zip (g us ws))
  rel : ∀ {vs : List V} {us : List Value} {zs : List V} {ws : List Value}, Vals vs us → Vals zs ws → Vals (gV vs zs) (g us ws)
variable {g : List Value → List Value → List Value} {gV : List V → List V → List V}
end
structure FnScope (N P : List Str) (sc : Scope) : Prop where
  kind : sc.kind = .function
  co : sc.isCoroutine = false
  gen : sc.isGenerator = false
  nd : N.Nodup
  pre : N.take P.length = P
  par : ∀ x ∈ P, sc.names.lookup x = some .local ∨ sc.names.lookup x = some .cell
  nofree : ∀ y ∈ sc.names, y.2 ≠ .free
theorem bindL_out {kindOf : Str → Option NameKind} {x : Str} : ∀ {binds : List (Str × Value)} {m : Str → Option Value}, (∀ v, (x, v) ∉ binds) → bindL kindOf binds m x = m x
  | [], _, _ => rfl
  | (n, v) :: r, m, h => by
    unfold bindL
    rw [bindL_out fun w hw => h w (List.mem_cons_of_mem _ hw)]
    split
    · have : x ≠ n := by rintro rfl; exact h v List.mem_cons_self
      simp [this]
    · rfl
theorem bindC_out {kindOf : Str → Option NameKind} {x : Str} : ∀ {binds : List (Str × Value)} {m : Str → Option Value}, (∀ v, (x, v) ∉ binds) → bindC kindOf binds m x = m x
  | [], _, _ => rfl
  | (n, v) :: r, m, h => by
    unfold bindC
    rw [bindC_out fun w hw => h w (List.mem_cons_of_mem _ hw)]
    split
    · rfl
    · have : x ≠ n := by rintro rfl; exact h v List.mem_cons_self
      simp [this]
theorem bindL_get {kindOf : Str → Option NameKind} {x : Str} {v : Value} : ∀ {P : List Str} {vs : List Value} {i : Nat} {m : Str → Option Value}, P.Nodup → P[i]? = some x → vs[i]? = some v → kindOf x = some .local →
    bindL kindOf (P.zip vs) m x = some v
  | [], _, _, _, _, h, _, _ => by simp at h
  | _ :: _, [], _, _, _, _, h, _ => by simp at h
  | p :: P, w :: vs, 0, m, nd, h1, h2, hk => by
    simp at h1 h2; subst h1; subst h2
    show bindL kindOf ((p, w) :: P.zip vs) m p = _
    unfold bindL
    rw [bindL_out fun v hv => (List.nodup_cons.mp nd).1 (List.of_mem_zip hv).1, if_pos hk]
    simp
  | p :: P, w :: vs, i + 1, m, nd, h1, h2, hk => by
    show bindL kindOf ((p, w) :: P.zip vs) m x = _
    unfold bindL
    exact bindL_get (i := i) (List.nodup_cons.mp nd).2 (by simpa using h1) (by simpa using h2) hk
theorem bindC_get {kindOf : Str → Option NameKind} {x : Str} {v : Value} : ∀ {P : List Str} {vs : List Value} {i : Nat} {m : Str → Option Value}, P.Nodup → P[i]? = some x → vs[i]? = some v → kindOf x ≠ some .local →
    bindC kindOf (P.zip vs) m x = some v
  | [], _, _, _, _, h, _, _ => by simp at h
  | _ :: _, [], _, _, _, _, h, _ => by simp at h
  | p :: P, w :: vs, 0, m, nd, h1, h2, hk => by
    simp at h1 h2; subst h1; subst h2
    show bindC kindOf ((p, w) :: P.zip vs) m p = _
    unfold bindC
    rw [bindC_out fun v hv => (List.nodup_cons.mp nd).1 (List.of_mem_zip hv).1, if_neg hk]
    simp
  | p :: P, w :: vs, i + 1, m, nd, h1, h2, hk => by
    show bindC kindOf ((p, w) :: P.zip vs) m x = _
    unfold bindC
    exact bindC_get (i := i) (List.nodup_cons.mp nd).2 (by simpa using h1) (by simpa using h2) hk
noncomputable def start (N : List Str) (vs : List V) : St := vs.map some ++ List.replicate (N.length - vs.length) none
noncomputable def cxOf (CX : CXT) (P : Program) (w : World) (K : PySem.W.Frag) (mg : Str → Option Value) (base : Heap) (N : List Str) (qual : Str) (scope : Scope) (f : Addr) (cd : Value) (A : Around) (outer : List Env) (s : Shared) (H : Hp) (E : XK) : Cx where
  prog := P
  w := w
  K := K
  mg := mg
  base := base
  A := A.deeper (envOfC qual scope s.heap.objs.size f cd)
  N := N
  s₀ := s
  H₀ := H
  env := envOfC qual scope s.heap.objs.size f cd
  outer := outer
  stack := envOfC qual scope s.heap.objs.size f cd :: outer
  ex := []
  calm := true
  fn := fun _ => true
  pn := []
  xe := fun e s' => wpAny (model P w) (A.deeper (envOfC qual scope s.heap.objs.size f cd)) (leaving (envOfC qual scope s.heap.objs.size f cd) e) (fun _ s'' => CX outer H s E e s'') (fun e' s'' => CX outer H s E e' s'') s'
theorem cell_has {sc : Scope} {n : Nat} {x : Str} (h : sc.names.lookup x = some .cell) : ∃ c, (cellsFrom n sc.names []).lookup x = some c := by
  have q := PySem.W.cellsFrom_some sc.names n [] (.inl h)
  exact Option.isSome_iff_exists.mp q
theorem inv_start {CX : CXT} {P : Program} {w : World} {K : PySem.W.Frag} {mg : Str → Option Value} {base : Heap} {N ps : List Str} {qual : Str} {scope : Scope} {f : Addr} {cd : Value} {A : Around} {outer : List Env} {s s1 : Shared} {H : Hp} {E : XK} {us : List Value} {vs : List V}
    (S : FnScope N ps scope) (hd : A.handled = none) (e0 : Env0 P w K mg base A outer s H) (hl : vs.length = ps.length) (r : Vals vs us)
    (x : InCallC s s.heap.objs.size (bindL (envOfC qual scope s.heap.objs.size f cd).kindOf (ps.zip us) fun _ => none) (cellsFrom (s.heap.objs.size + 1) scope.names []) (bindC (envOfC qual scope s.heap.objs.size f cd).kindOf (ps.zip us) fun _ => none) s1) :
    Inv (cxOf CX P w K mg base N qual scope f cd A outer s H E) [] (start N vs) H s1 := by
  have hpl : ps.length ≤ N.length := by have := congrArg List.length S.pre; rw [List.length_take] at this; trivial
  obtain ⟨h1, tk, rfl, hk⟩ := x.done
  have noA : ∀ b : Addr, b ∉ (cxOf CX P w K mg base N qual scope f cd A outer s H E).ex := fun b z => absurd (show b ∈ ([] : List Addr) from z) (by simp)
  refine ⟨⟨e0.mod, S.kind, rfl, rfl, Nat.le_refl _, fun y z c h1 h2 => ?_, fun y hy => ?_, fun y c _ h => ?_, fun _ => hd, Around.frames_deeper e0.frames, .inr ⟨rfl, rfl⟩, fun b z => absurd z (noA b), e0.bs, e0.bsz, fun b _ _ => noA b, fun b z => absurd z (noA b), e0.funs, e0.frf⟩,
    rfl, e0.bare, Un.kept hk, ⟨_, x.toInCall.ns, fun i y v h1 h2 h3 => ?_⟩, fun y c h => ⟨_, x.cell y c h⟩, e0.hok.fresh (Nat.le_refl _), fun y c h => ?_, fun p hp => absurd (show p ∈ ([] : List (Addr × Obj)) from hp) (by simp), e0.hok.kept hk, ?_⟩
  · exact name_of_addr x.apart (PySem.mem_of_lookup h1) (PySem.mem_of_lookup h2)
  · have hy : scope.names.lookup y = some .cell ∨ scope.names.lookup y = some .free := hy
    rcases hy with hy | hy
    · exact cell_has hy
    · exact absurd rfl (S.nofree _ (PySem.mem_of_lookup hy))
  · exact Nat.le_of_lt (x.above y c (PySem.mem_of_lookup h))
  · have hi : i < vs.length := by
      unfold start at h2
      by_cases hi : i < vs.length
      · exact hi
      · rw [List.getElem?_append_right (by simpa using hi)] at h2
        rw [List.getElem?_replicate] at h2
        split at h2 <;> cases h2
    have ha : vs[i]? = some v := by
      unfold start at h2
      rw [List.getElem?_append_left (by simpa using hi), List.getElem?_map] at h2
      cases e : vs[i]? with
      | none => rw [e] at h2; cases h2
      | some a => rw [e] at h2; cases h2; rfl
    obtain ⟨u, hu, rv⟩ := r.get ha
    have hp : ps[i]? = some y := by
      rw [← S.pre, List.getElem?_take_of_lt (by trivial)]; exact h1
    have ndP : ps.Nodup := by rw [← S.pre]; exact S.nd.sublist (List.take_sublist _ _)
    refine ⟨u, rv, ?_⟩
    rcases S.par y (List.mem_of_getElem? hp) with k | k
    · exact .inl ⟨k, bindL_get ndP hp hu k⟩
    · obtain ⟨c, e⟩ := cell_has (n := s.heap.objs.size + 1) k
      refine .inr ⟨.inl k, c, e, ?_⟩
      have q := x.cell y c e
      rw [bindC_get ndP hp hu (by show scope.names.lookup y ≠ _; rw [k]; decide)] at q
      exact q
  · exact e0.hok.fresh (Nat.le_of_lt (x.above y c (PySem.mem_of_lookup h)))
  · unfold start
    show _ = N.length
    rw [List.length_append, List.length_map, List.length_replicate]
    trivial
theorem fn_of {CX : CXT} {P : Program} {w : World} {K : PySem.W.Frag} {mg : Str → Option Value} {base : Heap} {k : Nat} {f : Addr} {name qual : Str} {params : Arguments} {body : List Stmt} {scope : Scope} {dV kV doc pm cdv ct oc : Value} {an od : Option Addr}
    {osl : Array (Option Value)} {N ps : List Str} {sp : Sp} (lk : K.lookup f = some ⟨oc, od, .func (PySem.W.fnOf name qual params body scope dV kV doc pm an cdv ct), osl⟩) (hcd : PySem.W.codeIn K cdv qual = true) (S : FnScope N ps scope)
    (len : ∀ vs H Q E, sp vs H Q E → vs.length = ps.length)
    (hbody : ∀ (A : Around) (outer : List Env) (s : Shared) (H : Hp) (vs : List V) (Q : VK) (E : XK), Room k (A.deeper (envOfC qual scope s.heap.objs.size f cdv)) → sp vs H Q E →
      ∃ t, PSs (cxOf CX P w K mg base N qual scope f cdv A outer s H E) body t ∧ t { nx := fun _ H' => Q .non H', rt := Q } (start N vs) H) :
    FnOk P w K mg base CX (k + 1) f (PySem.W.fnOf name qual params body scope dV kV doc pm an cdv ct) ps sp := by
  refine ⟨len, fun A outer s H args us vs Q E hr e0 hb r hsp => ?_⟩
  have hl := len _ _ _ _ hsp
  have KX : K.In s.heap := e0.mod.kin.keeps fun b o e => (e0.bs b o e).1
  have lim : s.heap.NoLimit := e0.mod.nolimit.keeps fun b o e => (e0.bs b o e).1
  have hkind : ∀ y ∈ ps.zip us, scope.names.lookup y.1 = some .local ∨ (scope.names.lookup y.1 = some .cell ∧ ((cellsFrom (s.heap.objs.size + 1) scope.names []).lookup y.1).isSome = true) := fun ⟨n, v⟩ hy => by
    rcases S.par n (List.of_mem_zip hy).1 with q | q
    · exact .inl q
    · exact .inr ⟨q, PySem.W.cellsFrom_some _ _ _ (.inl q)⟩
  refine codeAny_call_function hr.depth (KX _ _ lk) rfl S.co S.gen rfl (PySem.W.codeRec_of KX hcd) (hb _ _ _ _ ?_)
  refine wpAny_newFunctionEnv_cells S.kind hkind fun env he s1 x => ?_
  subst he
  refine ⟨lim.keeps x.toInCall.keep, codeAny_func ?_⟩
  obtain ⟨t, ht, hq⟩ := hbody A outer s H vs Q E (hr.deeper _) hsp
  have I : Inv (cxOf CX P w K mg base N qual scope f cdv A outer s H E) [] (start N vs) H s1 := inv_start S hr.hd e0 hl r x
  refine wpAny_mono (ht [] s1 (start N vs) H _ I hq) (fun fl s' hs => ?_) fun e s' hs => hs
  have fin : ∀ {σ' : St} {H' : Hp} {v : V} {u : Value}, Inv (cxOf CX P w K mg base N qual scope f cdv A outer s H E) [] σ' H' s' → RelV v u → Q v H' → CE outer P w H s Q u s' :=
    fun {σ' H' v u} J rv q => ⟨v, H', J.os, J.bare, J.base, J.hok, rv, q⟩
  cases fl with
  | ret u =>
    obtain ⟨v, σ', H', J, rv, q⟩ := hs
    exact fin J rv q
  | next =>
    obtain ⟨σ', H', J, q⟩ := hs
    exact fin (v := V.non) (u := Value.none) J rfl q
  | brk =>
    obtain ⟨_, _, _, q⟩ := hs
    exact False.elim q
  | cont =>
    obtain ⟨_, _, _, q⟩ := hs
    exact False.elim q
end L2
namespace L2
open PySem PySem.Spec PyProof.Rows
section
variable {X : Cx} {x : Str} {p pos : Pos} {e : Expr} {es : List Expr} {t : TA} {id T : String} {r : List V → Hp → VK → Prop}
noncomputable def tCB (r : List V → Hp → VK → Prop) (t : TA) : TE := fun σ H Q => t σ H fun vs H1 => r vs H1 Q
theorem pe_callB (hc : CallR X (.builtin id) r) (hg : Gl X x) (hm : X.mg x = none) (hv : bootBuiltins x = some (.builtin id)) (ha : PA X (e :: es) t) (hn : x ≠ "__name__" := by decide) (hdb : (x == ("__debug__" : Str)) = false := by decide)
    (he : starEach (e :: es) X.env = (false, eval e X.env) :: starEach es X.env := by rfl) (hpl : (backTo pos (starEach es X.env)).any (·.1) = false := by rfl) : PE X (.Call (.Name x p) (e :: es) [] pos) (tCB r t) := by
  intro pins s σ H Q I h
  refine wpAny_Call_Name_kw (ld_blt I hg hm hv ?_ hn hdb)
  exact PyProof.Rows.callWith_builtin1 (thn (ha pos pins s σ H _ I h) fun us s1 ⟨vs, H1, I1, r1, q1⟩ => hc pins s1 σ H1 vs us Q I1 r1 q1) he hpl
theorem pe_callTy (hc : CallR X (.type T) r) (hg : Gl X x) (hm : X.mg x = none) (hv : bootBuiltins x = some (.type T)) (ha : PA X (e :: es) t) (hn : x ≠ "__name__" := by decide) (hdb : (x == ("__debug__" : Str)) = false := by decide)
    (he : starEach (e :: es) X.env = (false, eval e X.env) :: starEach es X.env := by rfl) (hpl : (backTo pos (starEach es X.env)).any (·.1) = false := by rfl) : PE X (.Call (.Name x p) (e :: es) [] pos) (tCB r t) := by
  intro pins s σ H Q I h
  refine wpAny_Call_Name_kw (ld_blt I hg hm hv ?_ hn hdb)
  exact PyProof.Rows.callWith_type1 (thn (ha pos pins s σ H _ I h) fun us s1 ⟨vs, H1, I1, r1, q1⟩ => hc pins s1 σ H1 vs us Q I1 r1 q1) he hpl
end
end L2
namespace HT
open PySem PyProof.Rows
section
open PySem.SeqAt
open PySem.AutoSeq1 (wpAny_loadPart')
open PySem.MeetsSeq PySem.MeetsSeq2 PySem.MeetsSeq3
end
section
variable {prog : Program} {w : World} {A : Around} {E : Value → Shared → Prop} {s : Shared}
noncomputable def sIx (n d : Nat) : Option Int → Nat
  | none => d
  | some v => if v < 0 then (v + (n : Int)).toNat else min v.toNat n
theorem sIx_none (n d : Nat) : sIx n d none = d := rfl
theorem sIx_nat (n d k : Nat) : sIx n d (some (k : Int)) = min k n := by
  show (if (k : Int) < 0 then ((k : Int) + (n : Int)).toNat else min (k : Int).toNat n) = min k n
  rw [if_neg (by trivial), Int.toNat_natCast]
end
end HT
namespace L2
open PySem PySem.Spec PyProof.Rows
noncomputable abbrev TO := St → Hp → (Option Int → Hp → Prop) → Prop
noncomputable def PO (X : Cx) (e : Option Expr) (t : TO) : Prop :=
  ∀ (pins : List (Addr × Obj)) (s : Shared) (σ : St) (H : Hp) (Q : Option Int → Hp → Prop), Inv X pins σ H s → t σ H Q →
    wpAny (model X.prog X.w) X.A (evalPart e X.env) (fun u s' => ∃ o H', Inv X pins σ H' s' ∧ IsPart u o ∧ Q o H') X.xe s
noncomputable def tNoPart : TO := fun _ H Q => Q none H
noncomputable def tPart (t : TE) : TO := fun σ H Q => t σ H fun x H1 => ∃ i, x = .int i ∧ Q (some i) H1
section
variable {X : Cx} {e : Expr} {te : TE} {lo hi : Option Expr} {tl th : TO} {pos p2 : Pos}
theorem po_none : PO X none tNoPart := by
  intro pins s σ H Q I h
  rw [evalPart_none]
  exact wpAny_pure ⟨none, H, I, .none, h⟩
theorem po_some (h : PE X e te) : PO X (some e) (tPart te) := by
  intro pins s σ H Q I hw
  rw [evalPart_some]
  refine thn (h pins s σ H _ I hw) fun u s1 ⟨x, H1, I1, r1, q1⟩ => ?_
  obtain ⟨i, rfl, q⟩ := q1
  obtain ⟨t, rfl⟩ := r1
  exact ⟨some i, H1, I1, .int i t, q⟩
noncomputable def SlR (X : Cx) (r : V → Option Int → Option Int → Hp → VK → Prop) : Prop :=
  ∀ (pins : List (Addr × Obj)) (s : Shared) (σ : St) (H : Hp) (x : V) (v vl vu : Value) (lo hi : Option Int) (sl : Addr) (Q : VK), Inv X pins σ H s → RelV x v → s.heap.IsSliceOf sl vl vu .none → IsPart vl lo → IsPart vu hi → r x lo hi H Q →
    ∃ T id, typeLookup (.type T) "__getitem__" = pure (some (.builtin id)) ∧ s.TypeIs v T ∧ wpAny (model X.prog X.w) X.A (getItem v (.ref sl)) (EP X pins σ Q) X.xe s
noncomputable def tSl (r : V → Option Int → Option Int → Hp → VK → Prop) (te : TE) (tl th : TO) : TE := fun σ H Q => te σ H fun x H1 => tl σ H1 fun l H2 => th σ H2 fun u H3 => r x l u H3 Q
theorem pe_slice {r : V → Option Int → Option Int → Hp → VK → Prop} (hr : SlR X r) (he : PE X e te) (hl : PO X lo tl) (hu : PO X hi th) : PE X (.Subscript e (.Slice lo hi none p2) pos) (tSl r te tl th) := by
  intro pins s σ H Q I h
  refine Subscript_ (thn (he pins s σ H _ I h) fun v s1 ⟨x, H1, I1, r1, q1⟩ => ?_)
  refine wpAny_Slice (thn (hl pins s1 σ H1 _ I1 q1) fun vl s2 ⟨l, H2, I2, pl, q2⟩ => thn (hu pins s2 σ H2 _ I2 q2) fun vu s3 ⟨u, H3, I3, pu, q3⟩ => ?_)
  rw [evalPart_none]
  refine wpAny_pure ?_
  have I4 : Inv X pins σ H3 { s3 with heap := s3.heap.push { cls := .type "slice", data := .fields #[vl, vu, .none] } } := I3.kept (t' := s3.toks) fun b ob q => Heap.get?_push_of_some _ q
  obtain ⟨T, id, hT, ht, hg⟩ := hr pins { s3 with heap := s3.heap.push { cls := .type "slice", data := .fields #[vl, vu, .none] } } σ H3 x v vl vu l u s3.heap.objs.size Q I4 r1 (Heap.IsSliceOf.new ..) pl pu q3
  show wpAny (model X.prog X.w) X.A (subscriptTail e (.Slice lo hi none p2) v (.ref s3.heap.objs.size)) (EP X pins σ Q) X.xe { s3 with heap := s3.heap.push { cls := .type "slice", data := .fields #[vl, vu, .none] } }
  exact tail_any (ops := [.ref s3.heap.objs.size, v]) ht hT hg (by with_unfolding_all rfl)
noncomputable def cutV (xs : List V) (lo hi : Option Int) : List V := (xs.drop (HT.sIx xs.length 0 lo)).take (HT.sIx xs.length xs.length hi - HT.sIx xs.length 0 lo)
theorem cutV_length (xs : List V) (lo hi : Option Int) : (cutV xs lo hi).length ≤ xs.length := by
  unfold cutV
  rw [List.length_take, List.length_drop]
  trivial
end
end L2
namespace L2
open PySem PySem.Spec PyProof.Rows
noncomputable def ixN (n : Nat) (i : Int) : Option Nat := if 0 ≤ i then (if i < n then some i.toNat else none) else if -(n : Int) ≤ i then some (i + n).toNat else none
noncomputable def atI {α : Type} (xs : List α) (i : Int) : Option α := (ixN xs.length i).bind fun j => xs[j]?
theorem ixN_seq {n : Nat} {i : Int} {j : Nat} (h : ixN n i = some j) : seqIndex? i n = some j ∧ j < n ∧ -(n : Int) ≤ i ∧ i < n := by
  unfold ixN at h
  by_cases h0 : 0 ≤ i
  · rw [if_pos h0] at h
    by_cases h1 : i < n
    · rw [if_pos h1] at h
      have e : i.toNat = j := Option.some.inj h
      exact ⟨by rw [seqIndex_of h0 h1, e], by trivial, by trivial, h1⟩
    · rw [if_neg h1] at h; cases h
  · rw [if_neg h0] at h
    by_cases h1 : -(n : Int) ≤ i
    · rw [if_pos h1] at h
      have e : (i + n).toNat = j := Option.some.inj h
      exact ⟨by rw [seqIndex_neg (by trivial) h1, e], by trivial, h1, by trivial⟩
    · rw [if_neg h1] at h; cases h
theorem atI_get {α : Type} {xs : List α} {i : Int} {v : α} (h : atI xs i = some v) : ∃ j, seqIndex? i xs.length = some j ∧ xs[j]? = some v ∧ j < xs.length ∧ -(xs.length : Int) ≤ i ∧ i < xs.length := by
  unfold atI at h
  cases e : ixN xs.length i with
  | none => rw [e] at h; cases h
  | some j =>
    rw [e] at h
    obtain ⟨h1, h2, h3, h4⟩ := ixN_seq e
    exact ⟨j, h1, h, h2, h3, h4⟩
theorem atI_nat {α : Type} {xs : List α} {j : Nat} {v : α} (h : xs[j]? = some v) : atI xs (j : Int) = some v := by
  have hj : j < xs.length := (List.getElem?_eq_some_iff.mp h).1
  have e : ixN xs.length (j : Int) = some j := by
    unfold ixN
    rw [if_pos (by trivial), if_pos (by trivial)]; simp
  unfold atI; rw [e]; exact h
noncomputable def PlainIx (b : Expr) : Prop := ∀ o i, subscripted b false o i = operate [o, i] (getItem o i)
noncomputable def IxR (X : Cx) (r : R2) : Prop :=
  ∀ (value slice : Expr) (pins : List (Addr × Obj)) (s : Shared) (σ : St) (H : Hp) (x y : V) (v u : Value) (Q : VK), Inv X pins σ H s → RelV x v → RelV y u → r x y H Q →
    subscripted slice false v u = operate [v, u] (getItem v u) → wpAny (model X.prog X.w) X.A (subscriptTail value slice v u) (EP X pins σ Q) X.xe s
noncomputable def MtR (X : Cx) (id : String) (r : V → List V → Hp → VK → Prop) : Prop :=
  ∀ (pins : List (Addr × Obj)) (s : Shared) (σ : St) (H : Hp) (x : V) (xs : List V) (v : Value) (us : List Value) (Q : VK), Inv X pins σ H s → RelV x v → Vals xs us → r x xs H Q →
    wpAny (model X.prog X.w) X.A (call (.builtin id) (v :: us)) (EP X pins σ Q) X.xe s
section
variable {X : Cx} {a b : Expr} {ta tb : TE} {pos : Pos}
theorem pe_ix {r : R2} (hr : IxR X r) (ha : PE X a ta) (hb : PE X b tb) (hs : PlainIx b) : PE X (.Subscript a b pos) (tOp r ta tb) := by
  intro pins s σ H Q I h
  exact Subscript_ (binT ha hb I h fun v u s2 x y H2 I2 rx ry q => hr a b pins s2 σ H2 x y v u Q I2 rx ry q (hs _ _))
noncomputable def rIxL (K : PySem.W.Frag) : R2 := fun x y H Q => ∃ p xs i v, x = .ref p ∧ y = .int i ∧ SqL K H p xs ∧ atI xs i = some v ∧ Q v H
noncomputable def rIxT (K : PySem.W.Frag) : R2 := fun x y H Q => ∃ p xs i v, x = .ref p ∧ y = .int i ∧ SqT K H p xs ∧ atI xs i = some v ∧ Q v H
theorem ix_list : IxR X (rIxL X.K) := by
  intro value slice pins s σ H x y v u Q I rx ry h hs
  obtain ⟨p, xs, i, z, rfl, rfl, hq, he, q⟩ := h
  cases rx
  obtain ⟨t, rfl⟩ := ry
  obtain ⟨its, r, pl, hz⟩ := I.list hq
  obtain ⟨j, h1, h2, h3, h4, h5⟩ := atI_get he
  obtain ⟨w, ew, rw'⟩ := r.get h2
  have hl := r.length
  have hn := line63
  have fin : EP X pins σ Q w s := ⟨z, H, I, rw', q⟩
  by_cases h0 : 0 ≤ i
  · have hj : i.toNat = j := by
      rw [seqIndex_of h0 h5] at h1
      exact Option.some.inj h1
    exact item_listR pl.isList h0 (by trivial) (by rw [hj]; simpa using ew) fin hs
  · have hj : (i + (its.toArray.size : Int)).toNat = j := by
      rw [seqIndex_neg (by trivial) h4] at h1
      rw [List.size_toArray, ← hl]
      exact Option.some.inj h1
    exact subscriptTail_builtinR (x := w) pl.isList.typeIs slot_list_getitem.lookup
      (wpAny_getItem_list_neg (Q := fun r s' => r = w ∧ EP X pins σ Q r s') pl.isList (by trivial) (by rw [List.size_toArray] <;> trivial) (by trivial) (by rw [hj]; simpa using ew) ⟨rfl, fin⟩) hs
theorem ix_tup : IxR X (rIxT X.K) := by
  intro value slice pins s σ H x y v u Q I rx ry h hs
  obtain ⟨p, xs, i, z, rfl, rfl, hq, he, q⟩ := h
  cases rx
  obtain ⟨t, rfl⟩ := ry
  obtain ⟨its, r, pl, hz⟩ := I.tuple hq
  obtain ⟨j, h1, h2, h3, h4, h5⟩ := atI_get he
  obtain ⟨w, ew, rw'⟩ := r.get h2
  have hl := r.length
  have hn := line63
  have fin : EP X pins σ Q w s := ⟨z, H, I, rw', q⟩
  exact subscriptTail_builtinR (x := w) pl.typeIs slot_tuple_getitem.lookup
    (getItem_tuple (j := j) (Q := fun r s' => r = w ∧ EP X pins σ Q r s') pl (by trivial) (by trivial) (by rw [List.size_toArray, ← hl]; exact h1) (by simpa using ew) ⟨rfl, fin⟩) hs
theorem slice_bounds (lo hi : Option Int) (n : Nat) : (sliceBounds lo hi none n).1 = ((HT.sIx n 0 lo : Nat) : Int) ∧ (sliceBounds lo hi none n).2.1 = ((HT.sIx n n hi : Nat) : Int) ∧ (sliceBounds lo hi none n).2.2 = 1 := by
  refine ⟨?_, ?_, rfl⟩
  · cases lo with
    | none => simp [sliceBounds, HT.sIx]
    | some i =>
      simp only [sliceBounds, HT.sIx, Option.getD_none, show (1 : Int) > 0 by decide, if_true]
      by_cases h : i < 0
      · simp only [h, if_true] <;> trivial
      · simp only [h, if_false] <;> trivial
  · cases hi with
    | none => simp [sliceBounds, HT.sIx]
    | some i =>
      simp only [sliceBounds, HT.sIx, Option.getD_none, show (1 : Int) > 0 by decide, if_true]
      by_cases h : i < 0
      · simp only [h, if_true] <;> trivial
      · simp only [h, if_false] <;> trivial
theorem slicePick_cut (its : List Value) (lo hi : Option Int) : slicePick its.toArray lo hi none = ((its.drop (HT.sIx its.length 0 lo)).take (HT.sIx its.length its.length hi - HT.sIx its.length 0 lo)).toArray := by
  obtain ⟨h1, h2, h3⟩ := slice_bounds lo hi its.toArray.size
  unfold slicePick
  rw [h1, h2, h3]
  simp only [sliceRange_one, pick_run, List.size_toArray] <;> rfl
noncomputable def rSlL (K : PySem.W.Frag) : V → Option Int → Option Int → Hp → VK → Prop := fun x lo hi H Q => ∃ a xs, x = .ref a ∧ SqL K H a xs ∧ ∀ p, H p = none → Q (.ref p) (upd H p (.lst (cutV xs lo hi)))
theorem sl_list : SlR X (rSlL X.K) := by
  intro pins s σ H x v vl vu lo hi sl Q I rx hs pl pu h
  obtain ⟨a, xs, rfl, hx, q⟩ := h
  cases rx
  obtain ⟨its, r, ht, hz⟩ := I.list hx
  have hlen := r.length
  refine ⟨"list", _, slot_list_getitem.lookup, ht.isList.typeIs, ?_⟩
  refine wpAny_getItem_list_slice ht.isList hs pl pu .none (by simp) ?_ (by rw [List.size_toArray] <;> trivial)
  rw [slicePick_cut, ← hlen]
  refine ⟨.ref s.heap.objs.size, _, I.laid (t' := s.toks) (o := .lst (cutV xs lo hi)) (fun b ob q => Heap.get?_push_of_some _ q) (Nat.le_refl _) ?_, rfl, q _ (I.hok.fresh (Nat.le_refl _))⟩
  exact ⟨Nat.le_trans (cutV_length xs lo hi) hz, _, 0, (r.drop (HT.sIx xs.length 0 lo)).take (HT.sIx xs.length xs.length hi - HT.sIx xs.length 0 lo), Heap.get?_push_size _ rfl⟩
noncomputable def flatV : V → Bool
  | .non => true
  | .bl _ => true
  | .int _ => true
  | .str _ => true
  | _ => false
noncomputable def eqV : V → V → Bool
  | .non, .non => true
  | .bl a, .bl b => a == b
  | .bl a, .int b => (if a then 1 else 0) == b
  | .int a, .bl b => a == (if b then 1 else 0)
  | .int a, .int b => a == b
  | .str a, .str b => a == b
  | _, _ => false
theorem eqAt_V {A : Around} {s : Shared} {y x : V} {u v : Value} (ry : RelV y u) (rx : RelV x v) (fy : flatV y = true) (fx : flatV x = true) : SeqAt.EqAt A s u v (eqV y x) := by
  cases y with
  | non =>
    cases ry
    cases x with
    | non => cases rx; exact SeqAt.EqAt.same _
    | bl b => cases rx; exact SeqAt.EqAt.none_bool b
    | int b => obtain ⟨t, rfl⟩ := rx; exact SeqAt.EqAt.none_int b t
    | str b => obtain ⟨t, rfl⟩ := rx; exact SeqAt.EqAt.none_str b t
    | _ => exact absurd (show false = true from fx) Bool.false_ne_true
  | bl a =>
    cases ry
    cases x with
    | non => cases rx; exact SeqAt.EqAt.bool_none a
    | bl b => cases rx; exact SeqAt.EqAt.bool_bool a b
    | int b => obtain ⟨t, rfl⟩ := rx; exact SeqAt.EqAt.bool_int a b t
    | str b => obtain ⟨t, rfl⟩ := rx; exact SeqAt.EqAt.bool_str a b t
    | _ => exact absurd (show false = true from fx) Bool.false_ne_true
  | int a =>
    obtain ⟨t', rfl⟩ := ry
    cases x with
    | non => cases rx; exact SeqAt.EqAt.int_none a t'
    | bl b => cases rx; exact SeqAt.EqAt.int_bool a t' b
    | int b => obtain ⟨t, rfl⟩ := rx; exact SeqAt.EqAt.int_int a t' b t
    | str b => obtain ⟨t, rfl⟩ := rx; exact SeqAt.EqAt.int_str a t' b t
    | _ => exact absurd (show false = true from fx) Bool.false_ne_true
  | str a =>
    obtain ⟨t', rfl⟩ := ry
    cases x with
    | non => cases rx; exact SeqAt.EqAt.str_none a t'
    | bl b => cases rx; exact SeqAt.EqAt.str_bool a t' b
    | int b => obtain ⟨t, rfl⟩ := rx; exact SeqAt.EqAt.str_int a t' b t
    | str b => obtain ⟨t, rfl⟩ := rx; exact SeqAt.EqAt.str_str a t' b t
    | _ => exact absurd (show false = true from fx) Bool.false_ne_true
  | _ => exact absurd (show false = true from fy) Bool.false_ne_true
noncomputable def eqU (x : V) (u : Value) : Bool := match u with
  | .none => eqV .non x
  | .bool b => eqV (.bl b) x
  | .int i _ => eqV (.int i) x
  | .str z _ => eqV (.str z) x
  | _ => false
theorem eqU_of {x y : V} {u : Value} (r : RelV y u) (f : flatV y = true) : eqU x u = eqV y x := by
  cases y with
  | non => cases r; rfl
  | bl b => cases r; rfl
  | int i => obtain ⟨t, rfl⟩ := r; rfl
  | str z => obtain ⟨t, rfl⟩ := r; rfl
  | _ => exact absurd (show false = true from f) Bool.false_ne_true
theorem any_eqU {x : V} : ∀ {xs : List V} {us : List Value}, Vals xs us → xs.all flatV = true → us.any (eqU x) = xs.any fun y => eqV y x
  | _, _, .nil, _ => rfl
  | y :: xs, u :: us, .cons r t, f => by
    rw [List.all_cons, Bool.and_eq_true] at f
    rw [List.any_cons, List.any_cons, eqU_of r f.1, any_eqU t f.2]
theorem mem_eqAt {A : Around} {s : Shared} {x : V} {v : Value} (rx : RelV x v) (fx : flatV x = true) : ∀ {xs : List V} {us : List Value}, Vals xs us → xs.all flatV = true → ∀ u ∈ us, SeqAt.EqAt A s u v (eqU x u)
  | _, _, .nil, _ => fun u hu => by cases hu
  | y :: xs, u :: us, .cons r t, f => fun u' hu => by
    rw [List.all_cons, Bool.and_eq_true] at f
    rcases List.mem_cons.mp hu with rfl | hu
    · rw [eqU_of r f.1]; exact eqAt_V r rx f.1 fx
    · exact mem_eqAt rx fx t f.2 u' hu
noncomputable def inV (x : V) (xs : List V) : Bool := xs.any fun y => eqV y x
noncomputable def rIn (K : PySem.W.Frag) (neg : Bool) : R2 := fun x y H Q => ∃ p xs, y = .ref p ∧ (SqL K H p xs ∨ SqT K H p xs) ∧ flatV x = true ∧ xs.all flatV = true ∧ Q (.bl (if neg then !inV x xs else inV x xs)) H
theorem op_notIn_seq : OpR X (compareOp .NotIn) (rIn X.K true) := by
  intro pins s σ H x y v u Q I rx ry h
  obtain ⟨p, xs, rfl, hq, fx, fs, q⟩ := h
  cases ry
  rcases hq with hq | hq
  · obtain ⟨its, r, pl, hz⟩ := I.list hq
    refine SeqAt.notIn_listAt (eqU x) pl.isList (fun w hw => mem_eqAt rx fx r fs w (by simpa using hw)) ⟨.bl _, H, I, rfl, ?_⟩
    rw [show its.toArray.any (eqU x) = its.any (eqU x) by simp, any_eqU r fs]
    exact q
  · obtain ⟨its, r, pl, hz⟩ := I.tuple hq
    refine SeqAt.notIn_tupleAt (eqU x) pl (fun w hw => mem_eqAt rx fx r fs w (by simpa using hw)) ⟨.bl _, H, I, rfl, ?_⟩
    rw [show its.toArray.any (eqU x) = its.any (eqU x) by simp, any_eqU r fs]
    exact q
theorem call_len_seq : CallR X (.builtin "len") (fun xs H Q => ∃ p ys, xs = [.ref p] ∧ (SqL X.K H p ys ∨ SqT X.K H p ys) ∧ Q (.int ys.length) H) := by
  intro pins s σ H xs us Q I r h
  obtain ⟨p, ys, rfl, hq, q⟩ := h
  obtain ⟨u, rfl, rx⟩ := vals1 r
  cases rx
  have hn := line63
  rcases hq with hq | hq
  · obtain ⟨its, r', pl, hz⟩ := I.list hq
    have hlen := r'.length
    exact Calls.call_len_list pl.isList (by simp only [List.size_toArray] <;> trivial) ⟨.int ys.length, H, I.tok _, ⟨s.toks + 1, by rw [List.size_toArray, hlen]⟩, q⟩
  · obtain ⟨its, r', pl, hz⟩ := I.tuple hq
    have hlen := r'.length
    exact len_tuple pl (by simp only [List.size_toArray] <;> trivial) ⟨.int ys.length, H, I.tok _, ⟨s.toks + 1, by rw [List.size_toArray, hlen]⟩, q⟩
theorem call_list_of : CallR X (.type "list") (fun xs H Q => ∃ p ys, xs = [.ref p] ∧ (SqL X.K H p ys ∨ SqT X.K H p ys) ∧ ∀ l, H l = none → Q (.ref l) (upd H l (.lst ys))) := by
  intro pins s σ H xs us Q I r h
  obtain ⟨p, ys, rfl, hq, q⟩ := h
  obtain ⟨u, rfl, rx⟩ := vals1 r
  cases rx
  have fin : ∀ (its : List Value), Vals ys its → ys.length ≤ sizeLine → ∀ (h' : Heap) (c' : Nat), (∀ b o', s.heap.get? b = some o' → h'.get? b = some o') →
      h'.get? s.heap.objs.size = some { cls := .type "list", dict := none, data := .seq its.toArray c', slots := #[] } → EP X pins σ Q (.ref s.heap.objs.size) { s with heap := h' } := fun its r' hz h' c' kp e =>
    ⟨.ref s.heap.objs.size, _, I.laid (t' := s.toks) kp (Nat.le_refl _) (show ObjOk X.prog X.w _ h' _ (.lst ys) from ⟨hz, its, c', r', e⟩), rfl, q _ (I.hok.fresh (Nat.le_refl _))⟩
  rcases hq with hq | hq
  · obtain ⟨its, r', pl, hz⟩ := I.list hq
    have hlen := r'.length
    obtain ⟨o, ho, hc, n, hd⟩ := pl.isList
    exact call_list_seq p (.inl rfl) ho hc hd (fun h' c' kp e => fin its r' hz h' c' kp e) (by simp only [List.size_toArray] <;> trivial)
  · obtain ⟨its, r', pl, hz⟩ := I.tuple hq
    have hlen := r'.length
    obtain ⟨o, ho, hc, n, hd⟩ := pl
    exact call_list_seq p (.inr rfl) ho hc hd (fun h' c' kp e => fin its r' hz h' c' kp e) (by simp only [List.size_toArray] <;> trivial)
noncomputable def tyV (K : PySem.W.Frag) (T : String) (x : V) (H : Hp) : Prop := match x with
  | .str _ => T = "str"
  | .int _ => T = "int"
  | .ref p => (T = "list" ∧ ∃ xs, SqL K H p xs) ∨ (T = "tuple" ∧ ∃ o, K.lookup p = some o ∧ o.cls = .type "tuple" ∧ o.dict = none) ∨
      (T = "dict" ∧ ((∃ kvs, H p = some (.dK kvs)) ∨ ∃ kvs, H p = some (.dT kvs))) ∨ (T = "set" ∧ ∃ S n, H p = some (.set S n))
  | _ => False
theorem tyV_is {pins : List (Addr × Obj)} {σ : St} {H : Hp} {s : Shared} {T : String} {x : V} {v : Value} (I : Inv X pins σ H s) (r : RelV x v) (ty : tyV X.K T x H) :
    s.TypeIs v T ∧ ∀ a, v = .ref a → ∃ ob, s.heap.get? a = some ob ∧ ob.dict = none := by
  cases x with
  | str z =>
    obtain ⟨t, rfl⟩ := r
    cases (show T = "str" from ty)
    exact ⟨typeIs_str s z t, fun _ e => nomatch e⟩
  | int i =>
    obtain ⟨t, rfl⟩ := r
    cases (show T = "int" from ty)
    exact ⟨typeIs_int s i t, fun _ e => nomatch e⟩
  | ref p =>
    cases r
    rcases ty with ⟨rfl, xs, hq⟩ | ⟨rfl, o, hk, hc, hd⟩ | ⟨rfl, hk⟩ | ⟨rfl, S, n, hk⟩
    · obtain ⟨its, _, pl, _⟩ := I.list hq
      refine ⟨pl.isList.typeIs, fun a e => ?_⟩
      cases e
      obtain ⟨o, n, e, c, hd, _⟩ := pl
      exact ⟨o, e, hd⟩
    · refine ⟨⟨o, I.kIn p o hk, hc⟩, fun a e => ?_⟩
      cases e
      exact ⟨o, I.kIn _ o hk, hd⟩
    · have z : ∃ o, s.heap.get? p = some o ∧ o.ExactDict := by
        rcases hk with ⟨kvs, hk⟩ | ⟨kvs, hk⟩
        · obtain ⟨_, _, _, _, o, _, _, e, ex, _⟩ := I.hok p _ hk
          exact ⟨o, e, ex⟩
        · obtain ⟨_, _, _, _, o, _, _, e, ex, _⟩ := I.hok p _ hk
          exact ⟨o, e, ex⟩
      obtain ⟨o, e, ex⟩ := z
      refine ⟨⟨o, e, ex.1⟩, fun a e2 => ?_⟩
      cases e2
      exact ⟨o, e, ex.2.1⟩
    · obtain ⟨o, _, _, _, e, ex, _⟩ := I.hok p _ hk
      refine ⟨⟨o, e, ex.1⟩, fun a e2 => ?_⟩
      cases e2
      exact ⟨o, e, ex.2.1⟩
  | _ => exact False.elim ty
noncomputable def tBM (K : PySem.W.Frag) (T : String) (r : V → List V → Hp → VK → Prop) (to : TE) (t : TA) : TE := fun σ H Q => to σ H fun x H1 => tyV K T x H1 ∧ t σ H1 fun xs H2 => r x xs H2 Q
variable {o e : Expr} {es : List Expr} {to : TE} {t : TA} {name : Str} {apos cpos : Pos} {T id : String} {r : V → List V → Hp → VK → Prop}
theorem pe_bm (pa : PlainAttrs T) (slot : Slot T name id) (hty : typeOf (.builtin id) = pure (.type "method_descriptor")) (hm : MtR X id r) (ho : PE X o to) (ha : PA X (e :: es) t)
    (hbase : attributeBase o name X.env (eval o X.env) = eval o X.env := by rfl)
    (hfew : ((backTo cpos (starEach (e :: es) X.env)).all (fun x => !x.1) && (backToKw cpos (keywordEach [] X.env)).all (fun x => x.1.isSome)
      && decide ((e :: es).length + ([] : List Keyword).length + (if ([] : List Keyword).isEmpty then 0 else 1) < 30)) = true := by rfl)
    (hline : (apos.endLine == cpos.line) = true := by rfl) (hs : starEach (e :: es) X.env = (false, eval e X.env) :: starEach es X.env := by rfl) (hplain : (backTo cpos (starEach es X.env)).any (·.1) = false := by rfl) :
    PE X (.Call (.Attribute o name apos) (e :: es) [] cpos) (tBM X.K T r to t) := by
  intro pins s σ H Q I h
  refine wpAny_Call_method_late hbase hfew hline rfl (thn (ho pins s σ H _ I h) fun v s1 ⟨x, H1, I1, r1, ty, q1⟩ => ?_)
  obtain ⟨h1, h2⟩ := tyV_is I1 r1 ty
  refine ⟨T, id, pa, slot, hty, h1, h2, ?_⟩
  have hA := ha cpos pins s1 σ H1 _ I1 q1
  rw [hs] at hA ⊢
  refine Calls.callWith_builtin (by show (false || (backTo cpos (starEach es X.env)).any (·.1)) = false; rw [hplain] <;> rfl) (Calls.evalArgs_plain ?_)
  exact thn hA fun us s2 ⟨vs, H2, I2, r2, q2⟩ => hm pins s2 σ H2 x vs v us Q I2 r1 r2 q2
/- xs.append(e), list.index on a module's tuple .. are MtR facts of 06m -/
end
end L2
namespace L2
open PySem PySem.Spec PyProof.Rows
noncomputable def MtM (X : Cx) (id : String) (r : V → List V → Hp → VK → Prop) : Prop :=
  ∀ (pins : List (Addr × Obj)) (s : Shared) (σ : St) (H : Hp) (x : V) (xs : List V) (v : Value) (us : List Value) (Q : VK), Inv X pins σ H s → RelV x v → Vals xs us → r x xs H Q →
    wpAny (model X.prog X.w) X.A (call (.builtin id) (v :: us)) (EP X pins σ Q) X.xe s
theorem Vals.one : ∀ {x : V} {us : List Value}, Vals [x] us → ∃ u, us = [u] ∧ RelV x u
  | _, _, .cons r .nil => ⟨_, rfl, r⟩
theorem Vals.two : ∀ {x y : V} {us : List Value}, Vals [x, y] us → ∃ u v, us = [u, v] ∧ RelV x u ∧ RelV y v
  | _, _, _, .cons r (.cons q .nil) => ⟨_, _, rfl, r, q⟩
theorem Vals.rep {xs : List V} {us : List Value} (h : Vals xs us) : ∀ k : Nat, Vals (List.replicate k xs).flatten (List.replicate k us).flatten
  | 0 => .nil
  | k + 1 => by
    rw [List.replicate_succ, List.replicate_succ, List.flatten_cons, List.flatten_cons]
    exact Vals.append h (Vals.rep h k)
theorem foldl_rep (its : List Value) : ∀ (k : Nat) (acc : List Value),
    List.foldl (fun x1 x2 => x1 ++ x2) acc.toArray (List.replicate k its.toArray) = (acc ++ (List.replicate k its).flatten).toArray
  | 0, acc => by simp
  | k + 1, acc => by
    have e : acc.toArray ++ its.toArray = (acc ++ its).toArray := by simp
    have e2 : (acc ++ its) ++ (List.replicate k its).flatten = acc ++ (List.replicate (k + 1) its).flatten := by
      rw [List.replicate_succ, List.flatten_cons, List.append_assoc]
    rw [← e2, ← foldl_rep its k (acc ++ its), ← e, List.replicate_succ, List.foldl_cons]
section
variable {X : Cx} {pins : List (Addr × Obj)} {σ : St} {H : Hp} {s : Shared} {l b : Addr} {xs ys zs : List V}
theorem Inv.lset {its its' : List Value} {n : Nat} {f : Array Value → Array Value} {t' : Nat} (I : Inv X pins σ H s) (hH : H l = some (.lst xs))
    (e : s.heap.get? l = some { cls := .type "list", data := .seq its.toArray n }) (hf : f its.toArray = its'.toArray) (hv : Vals ys its') (hz : ys.length ≤ sizeLine) :
    Inv X pins σ (upd H l (.lst ys)) { s with heap := s.heap.update l (Obj.mapSeq f), toks := t' } := by
  have q := PySem.IsL.update e f
  rw [hf] at q
  refine I.write (x := l) (e := l) (by rw [hH]; exact trivial) (.inl rfl) (fun b' u hb hu => (Heap.get?_update_other s.heap (Obj.mapSeq f) (Ne.symm hb)).trans hu) ⟨_, q⟩ ?_
  exact ⟨hz, its', _, hv, q⟩
theorem Inv.lnew {its : List Value} {t' : Nat} (I : Inv X pins σ H s) (hv : Vals ys its) (hz : ys.length ≤ sizeLine) :
    Inv X pins σ (upd H s.heap.objs.size (.lst ys)) { s with heap := s.heap.push { cls := .type "list", data := .seq its.toArray }, toks := t' } :=
  I.laid (fun _ _ q => Heap.get?_push_of_some _ q) (Nat.le_refl _) ⟨hz, its, 0, hv, Heap.get?_push_size _ rfl⟩
theorem Inv.fresh (I : Inv X pins σ H s) : H s.heap.objs.size = none := I.hok.fresh (Nat.le_refl _)
theorem Inv.lstM (I : Inv X pins σ H s) (hH : H l = some (.lst xs)) : xs.length ≤ sizeLine ∧ ∃ (its : List Value) (n : Nat), Vals xs its ∧ xs.length = its.length ∧ s.heap.get? l = some { cls := .type "list", data := .seq its.toArray n } := by
  obtain ⟨z, its, n, r, e⟩ := I.hok l _ hH
  exact ⟨z, its, n, r, r.length, e⟩
theorem notLongL {n : Nat} (h : n ≤ sizeLine) : Builtin.List.listTooLong n = false := by
  unfold Builtin.List.listTooLong
  exact decide_eq_false (by trivial)
end
section
variable {X : Cx}
noncomputable def rAppend : V → List V → Hp → VK → Prop := fun x vs H Q => ∃ l xs y, x = .ref l ∧ vs = [y] ∧ H l = some (.lst xs) ∧ xs.length < sizeLine ∧ Q .non (upd H l (.lst (xs ++ [y])))
theorem mt_append : MtM X "list.append" rAppend := by
  intro pins s σ H x vs v us Q I rx rv h
  obtain ⟨l, xs, y, rfl, rfl, hH, hz, q⟩ := h
  cases rx
  obtain ⟨u, rfl, ru⟩ := rv.one
  obtain ⟨z, its, n, r, hl, e⟩ := I.lstM hH
  refine call_meets F.slot_list_append ⟨_, e, rfl⟩ F.entry_list_append (F.args_list_append_2 _ _) (PySem.list_append l its.toArray n u (by rw [List.size_toArray]; trivial)) ⟨e, ?_⟩
  refine ⟨.non, _, I.lset (its' := its ++ [u]) hH e (by simp) (r.append (.cons ru .nil)) ?_, rfl, q⟩
  rw [List.length_append, List.length_singleton]
  trivial
noncomputable def rExtend : V → List V → Hp → VK → Prop := fun x vs H Q => ∃ l b xs zs, x = .ref l ∧ vs = [.ref b] ∧ H l = some (.lst xs) ∧ H b = some (.lst zs) ∧ xs.length + zs.length ≤ sizeLine ∧ Q .non (upd H l (.lst (xs ++ zs)))
theorem mt_extend : MtM X "list.extend" rExtend := by
  intro pins s σ H x vs v us Q I rx rv h
  obtain ⟨l, b, xs, zs, rfl, rfl, hH, hB, hz, q⟩ := h
  cases rx
  obtain ⟨u, rfl, ru⟩ := rv.one
  cases ru
  obtain ⟨z, its, n, r, hl, e⟩ := I.lstM hH
  obtain ⟨z2, its2, n2, r2, hl2, e2⟩ := I.lstM hB
  have hsz : its.toArray.size + its2.toArray.size ≤ sizeLine := by rw [List.size_toArray, List.size_toArray]; trivial
  have hlong : ¬ (!its.toArray.isEmpty && Builtin.List.listTooLong (its.toArray.size + its2.toArray.size)) = true := by
    rw [notLongL hsz, Bool.and_false]
    exact Bool.false_ne_true
  refine call_meets F.slot_list_extend ⟨_, e, rfl⟩ F.entry_list_extend (F.args_list_extend_2 _ _)
    (AutoSeq1.list_extend_list_list_0 l its.toArray n b its2.toArray n2 hlong (by rw [List.size_toArray]; trivial) (by trivial)) ⟨e, e2, ?_⟩
  refine ⟨.non, _, I.lset (its' := its ++ its2) hH e (by simp) (r.append r2) ?_, rfl, q⟩
  rw [List.length_append]
  trivial
noncomputable def rCat : R2 := fun x y H Q => ∃ l b xs zs, x = .ref l ∧ y = .ref b ∧ H l = some (.lst xs) ∧ H b = some (.lst zs) ∧ xs.length + zs.length ≤ sizeLine ∧ ∀ p, H p = none → Q (.ref p) (upd H p (.lst (xs ++ zs)))
theorem op_cat : OpR X (binaryOp .Add) rCat := by
  intro pins s σ H x y v u Q I rx ry h
  obtain ⟨l, b, xs, zs, rfl, rfl, hH, hB, hz, q⟩ := h
  cases rx
  cases ry
  obtain ⟨z, its, n, r, hl, e⟩ := I.lstM hH
  obtain ⟨z2, its2, n2, r2, hl2, e2⟩ := I.lstM hB
  refine PySem.P.add_list e e2 ?_ (by rw [List.size_toArray, List.size_toArray]; trivial)
  have ea : its.toArray ++ its2.toArray = (its ++ its2).toArray := by simp
  rw [ea]
  exact ⟨.ref _, _, I.lnew (t' := s.toks) (r.append r2) (by rw [List.length_append]; trivial), rfl, q _ I.fresh⟩
noncomputable def rRep : R2 := fun x y H Q => ∃ l k xs, x = .ref l ∧ y = .int k ∧ H l = some (.lst xs) ∧ -(2 ^ 63) ≤ k ∧ k < 2 ^ 63 ∧ xs.length * k.toNat ≤ sizeLine ∧
  ∀ p, H p = none → Q (.ref p) (upd H p (.lst (List.replicate k.toNat xs).flatten))
theorem len_rep {α : Type} (xs : List α) (k : Nat) : (List.replicate k xs).flatten.length = k * xs.length := by
  induction k with
  | zero => simp
  | succ k ih => rw [List.replicate_succ, List.flatten_cons, List.length_append, ih, Nat.succ_mul, Nat.add_comm]
theorem op_rep : OpR X (binaryOp .Mult) rRep := by
  intro pins s σ H x y v u Q I rx ry h
  obtain ⟨l, k, xs, rfl, rfl, hH, h1, h2, hz, q⟩ := h
  cases rx
  obtain ⟨t, rfl⟩ := ry
  obtain ⟨z, its, n, r, hl, e⟩ := I.lstM hH
  have hlen : its.toArray.size * k.toNat ≤ sizeLine := by rw [List.size_toArray, ← hl]; exact hz
  have hcap : ¬ its.toArray.size * k.toNat > (2 ^ 63 - 1) / 8 := by
    have : (sizeLine : Nat) ≤ (2 ^ 63 - 1) / 8 := by decide
    trivial
  have hfit : ¬ (!Builtin.List.listFitsIndex k) = true := by
    rw [fitsIndex_both h1 h2]
    exact Bool.false_ne_true
  have hlong : ¬ Builtin.List.listTooLong (its.toArray.size * k.toNat) = true := by
    rw [notLongL hlen]
    exact Bool.false_ne_true
  have hnew : List.foldl (fun x1 x2 => x1 ++ x2) #[] (List.replicate (if its.toArray.isEmpty = true then 0 else k.toNat) its.toArray) = (List.replicate k.toNat its).flatten.toArray := by
    have f0 : ∀ m : Nat, List.foldl (fun x1 x2 => x1 ++ x2) #[] (List.replicate m its.toArray) = (List.replicate m its).flatten.toArray := fun m => by
      have := foldl_rep its m []
      rw [List.nil_append] at this
      exact this
    rw [f0]
    cases its with
    | nil => simp
    | cons a r' => rw [if_neg (by simp)]
  refine wpAny_binaryOp_repeat_ref (T := "list") (U := "int") (by decide) ⟨_, e, rfl⟩ (fun s' => typeIs_int s' k t) noFill_list_mul F.fills_int_mul F.slot_int_rmul repeat_list F.slot_int_index.lookup
    (call_meets F.slot_int_rmul (typeIs_int s k t) F.entry_int_rmul (F.args_int_rmul_2 _ _) (int___rmul___int_list k t l its.toArray n)
      ⟨e, rfl, ⟨_, e, rfl⟩, call_meets F.slot_list_mul ⟨_, e, rfl⟩ F.entry_list_mul (F.args_list_mul_2 _ _) (AutoListH.list___mul___list_int_3 l its.toArray n k t hfit hcap hlong) ⟨e, ?_⟩⟩)
  rw [hnew]
  exact ⟨.ref _, _, I.lnew (t' := s.toks) (r.rep k.toNat) (by rw [len_rep, Nat.mul_comm]; exact hz), rfl, q _ I.fresh⟩
end
section
variable {prog : Program} {w : World} {A : Around} {E : Value → Shared → Prop} {s : Shared}
theorem bounds_run {a c n : Nat} (hac : a ≤ c) (hc : c ≤ n) : sliceBounds (some (a : Int)) (some (c : Int)) none n = ((a : Int), (c : Int), 1) := by
  simp only [sliceBounds, Option.getD_none]
  have h1 : ¬ ((a : Int) < 0) := by trivial
  have h2 : ¬ ((c : Int) < 0) := by trivial
  simp only [h1, h2, if_false, show (1 : Int) > 0 by decide, if_true]
  congr 1
  · trivial
  · congr 1; trivial
set_option maxRecDepth 100000 in
theorem setItem_slice {l b sl : Addr} {items new : Array Value} {n n2 : Nat} {vl vu : Value} {a c : Nat} {Q : Unit → Shared → Prop}
    (e : s.heap.get? l = some { cls := .type "list", data := .seq items n }) (e2 : s.heap.get? b = some { cls := .type "list", data := .seq new n2 }) (hne : l ≠ b)
    (hs : s.heap.IsSliceOf sl vl vu .none) (pl : IsPart vl (some (a : Int))) (pu : IsPart vu (some (c : Int))) (hac : a ≤ c) (hc : c ≤ items.size)
    (hsz : items.size + new.size ≤ sizeLine) (h : Q () { s with heap := s.heap.update l (Obj.mapSeq fun xs => xs.extract 0 a ++ new ++ xs.extract c xs.size) }) :
    wpAny (model prog w) A (setItem (.ref l) (.ref sl) (.ref b)) Q E s := by
  have hl : s.heap.IsList l items := PySem.IsL.isList e
  have hb : s.heap.IsList b new := PySem.IsL.isList e2
  obtain ⟨os, hos, hcs, hds⟩ := id hs
  have hTs : s.TypeIs (.ref sl) "slice" := ⟨os, hos, hcs⟩
  have hstep : ¬ ((rawPart none == rawInt 0) = true) := Bool.false_ne_true
  have hsame : Builtin.List.listSameRef (.ref l) (.ref b) = false := by
    unfold Builtin.List.listSameRef
    exact beq_eq_false_iff_ne.mpr hne
  have hmax : (max (a : Int) (c : Int)).toNat = c := by trivial
  have hz' : ((fun xs : Array Value => xs.extract 0 a ++ new ++ xs.extract c xs.size) items).size ≤ sizeLine + 1 := by
    simp only [Array.size_append, Array.size_extract]
    trivial
  unfold setItem
  try with_reducible refine wpAny_holding ?_
  first | refine wpAny_bind (wpAny_pure ?_) | skip
  refine wpAny_bind (wpAny_sequenceKey hl.typeIs (by decide) ?_)
  refine wpAny_bind (wpAny_callSpecial?_slot (name := Str.ofString "__setitem__") hl.typeIs slot_list_setitem
    (wpAny_call_entry slot_list_setitem hl.typeIs entry_list_setitem ?_ (args_list_setitem _ _ _)))
  show wpAny _ _ (Builtin.List.listSubscript? (.ref sl) >>= _) _ _ s
  refine wpAny_bind ?_
  unfold Builtin.List.listSubscript?
  refine wpAny_bind (wpAny_specialOf hTs slice_no_index ?_)
  simp only [Option.isNone_none, if_true]
  refine wpAny_pure ?_
  show wpAny _ _ (typeOf (.ref sl) >>= _) _ _ s
  refine wpAny_bind (wpAny_typeOf hTs ?_)
  first
    | rw [if_neg (by decide)]
    | refine PySem.W.KFB.if_not (by decide) ?_
  rw [listSliceParts_eq]
  refine wpAny_bind (wpAny_bind (wpAny_field hos hds (x := .none) rfl (wpAny_bind (wpAny_listPart .none ?_))))
  rw [if_neg hstep]
  refine wpAny_bind (wpAny_field hos hds (x := vl) rfl (wpAny_bind (wpAny_listPart pl ?_)))
  refine wpAny_bind (wpAny_field hos hds (x := vu) rfl (wpAny_bind (wpAny_listPart pu (wpAny_pure ?_))))
  first
    | simp only [hsame, Bool.false_eq_true, if_false]
    | refine PySem.W.KFB.if_not hsame ?_
    | (dsimp only
       rw [if_neg (by rw [hsame]; exact Bool.false_ne_true)])
  refine wpAny_bind (m := Builtin.List.listAllItems (.ref b) "must assign iterable to extended slice") ?_
  unfold Builtin.List.listAllItems
  refine wpAny_bind (wpAny_typeOf hb.typeIs ?_)
  first
    | refine PySem.W.KFB.if_so (by decide) ?_
    | rw [if_pos (by decide)]
    | simp only [beq_self_eq_true, Bool.true_or, if_true]
  unfold Builtin.List.listItems
  refine wpAny_bind (wpAny_seqItems e2 rfl (wpAny_pure ?_))
  refine wpAny_bind (wpAny_bind (wpAny_seqItems e rfl (wpAny_pure ?_)))
  refine wpAny_bind (wpAny_of_eq ((sliceIndices_raw (some (a : Int)) (some (c : Int)) none items.size (by simp)).trans (congrArg (pure : Int × Int × Int → Sem (Int × Int × Int)) (bounds_run hac hc))) ?_)
  show wpAny _ _ (if ((1 : Int) == 1) = true then _ else _) _ _ s
  rw [if_pos (by decide)]
  refine wpAny_bind (wpAny_rule ?_)
  first
    | simp only [notLongL hsz, Bool.false_eq_true, if_false]
    | refine PySem.W.KFB.if_not (notLongL hsz) ?_
  first | refine wpAny_bind (wpAny_pure ?_) | skip
  show wpAny _ _ (updateSeq l (fun xs => xs.extract 0 ((a : Int)).toNat ++ new ++ xs.extract (max (a : Int) (c : Int)).toNat xs.size) >>= _) _ _ s
  rw [hmax, Int.toNat_natCast]
  refine wpAny_bind (wpAny_updateSeq (hz := Nat.le_trans (Nat.le_add_right _ _) hsz) (_hz' := hz') e rfl ?_)
  refine wpAny_bind (wpAny_letGo ?_)
  first
    | exact wpAny_bind (wpAny_pure (wpAny_pure ⟨.none, rfl, wpAny_pure h⟩))
    | exact wpAny_pure ⟨.none, rfl, wpAny_pure h⟩
end
section
variable {X : Cx}
end
end L2
namespace Att
open PySem PySem.W PySem.Calls PyProof.Rows
theorem ints_of_wellAll {P : Params} {h : Heap} : ∀ (ns : List Int) (vs : List Value), WellAll P h vs (ns.map WData.int) → IntsAre vs ns := by
  intro ns
  induction ns with
  | nil =>
    intro vs w
    rw [List.map_nil] at w
    cases w
    exact .nil
  | cons n ns ih =>
    intro vs w
    rw [List.map_cons] at w
    cases w with
    | cons a b =>
      cases a
      exact .cons _ _ (ih _ b)
theorem script_of {l : OpenLaw} {n : Nat} (hn : l.most = some n) {P : Params} {h : Heap} {args : List WData} {vals : List Value}
    (hpre : l.row.toRowW.claim.pre args = true) (hwl : WellAll P h vals args) :
    ∃ a vs ns, vals = [Value.ref a] ∧ args = [WData.list (ns.map WData.int)] ∧ h.get? a = some { cls := .type "list", data := .seq vs.toArray } ∧ IntsAre vs ns ∧ ns.length ≤ n := by
  have hsh : WShape.hasAll [] args [.list .int] = true := (pre_splitW hpre).1
  have hc : l.pre.holds [] { args := args } = true := (pre_splitW hpre).2
  obtain ⟨d, r, rfl, h1, h2⟩ := hasAllW_cons hsh
  obtain rfl := hasAllW_nil h2
  obtain ⟨xs, rfl, h3⟩ := hasW_list h1
  obtain ⟨ns, rfl⟩ := items_int h3
  have hlen : ns.length ≤ n := by
    unfold OpenLaw.pre at hc
    have h4 : (WTm.not (.lt (.lit (.int (n : Int))) (.len (.arg 0)))).holds [] { args := [.list (ns.map .int)] } = true := by
      have h4 := (holds_andW hc).1
      rw [hn] at h4
      exact h4
    have h5 := condW_of h4 (w_not (w_lt w_lit (w_len_list (w_arg rfl))))
    rw [List.length_map] at h5
    refine Nat.le_of_not_lt fun q => ?_
    have q' : (n : Int) < ((ns.length : Nat) : Int) := by trivial
    first
      | (rw [decide_eq_true q'] at h5; exact absurd h5 (by decide))
      | (simp at h5; trivial)
  cases hwl with
  | cons w1 w2 =>
    cases w2
    cases w1 with
    | list ho hall => exact ⟨_, _, ns, rfl, rfl, ho, ints_of_wellAll ns _ hall, hlen⟩
theorem post_true (l : OpenLaw) (args : List WData) : l.row.toRowW.claim.post args (.bool true) args = true :=
  postW_of (r := l.row.toRowW) (X := (true == true))
    (show WShape.has [] (.bool true) .bool = true by first | rfl | decide | simp [WShape.has, WShape.arms, WShape.armsAll])
    (show (WTm.eq .res (.lit (.bool true))).value [] { args := args, res := some (.bool true), after := args } = some (.bool (true == true)) from w_eq_bool (w_res rfl) w_lit) rfl
theorem attach_call {l : OpenLaw} {n : Nat} {q : Program} {loose : List Str} {XP : (Str → Option Value) → Heap → Prop} {YP : World → Heap → Prop} {d : DefRec}
    (hn : l.most = some n) (hdf : d.params.defaults = [])
    (call : ∀ (w : World) (s₀ s₁ : Shared) (mg mb : Str → Option Value) (fa : Addr) (o : Obj) (pm cd doc : Value) (a : Addr) (vs : List Value) (ns : List Int),
      Ground q loose [] XP w s₀ mg mb s₁.heap → YP w s₁.heap →
      s₁.heap.get? fa = some o → o.data = .func (docDef d.name d.params d.body d.scope pm cd doc) → s₁.heap.CodeRec cd d.name → mg d.name = some (.ref fa) →
      s₁.heap.get? a = some { cls := .type "list", data := .seq vs.toArray } → IntsAre vs ns → ns.length ≤ n → s₁.gens = #[] →
      codeAny (model l.prog w) callerA (.call (.ref fa) ⟨[.ref a], []⟩) (fun r s' => r = .ok (.ret (.bool true)) ∧ OldK s₁.heap s'.heap ∧ s'.os = s₁.os ∧ AllBare s'.gens) s₁) :
    WalkO q loose XP YP l.row.toRowW d [] (fun f vs => PySem.call f vs) := by
  intro w s₀ s₁ mg mb G Y fa o pm cd doc dV kV ho hd hcd hD hmg hg args vals as hpre hlay hrd hwl hlo
  obtain rfl : dV = .none := Dflts.none hD hdf
  obtain rfl : kV = .none := Dflts.noKw hD
  obtain ⟨a, vs, ns, rfl, rfl, hobj, hints, hlen⟩ := script_of hn hpre hwl
  refine enter_call (codeAny_mono (call w s₀ s₁ mg mb fa o pm cd doc a vs ns G Y ho (fd_plain hd) hcd hmg hobj hints hlen hg) fun r s' hq => ?_)
  obtain ⟨rfl, h2, h3, h4⟩ := hq
  exact ⟨.inl ⟨.bool true, .bool true, [], rfl, fun _ => rfl, .bool true, post_true l _, fun _ => ⟨List.Pairwise.nil, fun _ hm => (nomatch hm)⟩⟩, h2, h3, h4⟩
section
variable {prog : Program} {w : World} {A : Around} {E : Value → Shared → Prop} {s : Shared} {K : Frag}
end
end Att
namespace L2
open PySem PySem.Spec PyProof.Rows
theorem vals_ints : ∀ {vs : List Value} {ns : List Int}, IntsAre vs ns → Vals (ns.map V.int) vs
  | _, _, .nil => .nil
  | _, _, .cons n t h => .cons ⟨t, rfl⟩ (vals_ints h)
noncomputable def Only (H : Hp) : Prop := ∀ b, H b = none ∨ ∃ o xs, H b = some (.frz o (.lst xs))
theorem law_call {P : Program} {w : World} {K : PySem.W.Frag} {mg mb : Str → Option Value} {CX : CXT} {k : Nat} {fa a : Addr} {fd : FuncData} {x : Str} {sp : Sp} {s₁ : Shared} {vs : List Value} {ns : List Int}
    (KX : K.In s₁.heap) (hns : s₁.heap.Ns mainGlobals mg) (hb : s₁.heap.Ns builtinsNs mb) (hbb : ∀ x : Str, x ≠ "__name__" → mb x = bootBuiltins x) (hlim : s₁.heap.NoLimit) (hg : s₁.gens = #[])
    (ha : s₁.heap.get? a = some { cls := .type "list", data := .seq vs.toArray }) (hi : IntsAre vs ns) (hl : ns.length ≤ sizeLine) (hr : Room k callerA)
    (F : ∀ base : Heap, K.In base → base.Ns mainGlobals mg → FnOk P w K mg base CX k fa fd [x] sp) (hbind : ∀ (s : Shared) (u : Value), BindsTo s fd ⟨[u], []⟩ [(x, u)])
    (hsp : ∀ H : Hp, Only H → SqL K H a (ns.map V.int) → sp [.ref a] H (fun v _ => v = .bl true) fun _ _ _ => False)
    (hCX : ∀ H e s', CX [] H s₁ (fun _ _ _ => False) e s' → False) :
    codeAny (model P w) callerA (.call (.ref fa) ⟨[.ref a], []⟩) (fun r s' => r = .ok (.ret (.bool true)) ∧ OldK s₁.heap s'.heap ∧ s'.os = s₁.os ∧ AllBare s'.gens) s₁ := by
  have rv := vals_ints hi
  have lenV := hi.length
  -- from an abstract heap in which nothing but the script may be tracked
  have core : ∀ H : Hp, Only H → SqL K H a (ns.map V.int) → HOk P w H s₁.heap → (∀ b, H b ≠ none → b = a) → (H a ≠ none → K.lookup a = none) →
      codeAny (model P w) callerA (.call (.ref fa) ⟨[.ref a], []⟩) (fun r s' => r = .ok (.ret (.bool true)) ∧ OldK s₁.heap s'.heap ∧ s'.os = s₁.os ∧ AllBare s'.gens) s₁ := by
    intro H hO hS hok hA hK
    have base_of : ∀ {b : Addr} {o : Obj}, s₁.heap.get? b = some o → H b = none → (hidT s₁.heap H).get? b = some o := fun e n => hidT_get e n
    have noA : ∀ {b : Addr} {o : Obj} {es : Array DictEntry} {ep : Nat}, s₁.heap.get? b = some o → o.data = .dict es ep → H b = none := fun {b o es ep} e d => by
      cases q : H b with
      | none => rfl
      | some u =>
        have e' : b = a := hA b (by rw [q]; simp)
        subst e'
        rw [ha] at e; cases e
        have d' : Data.seq vs.toArray _ = Data.dict es ep := d
        cases d'
    have nsK : ∀ {b : Addr} {m : Str → Option Value}, s₁.heap.Ns b m → (hidT s₁.heap H).Ns b m := fun {b m} ⟨o, es, ep, e, d, r⟩ => ⟨o, es, ep, base_of e (noA e d), d, r⟩
    have hKb : K.In (hidT s₁.heap H) := fun b o e => base_of (KX b o e) (by
      cases q : H b with
      | none => rfl
      | some u =>
        have e' : b = a := hA b (by rw [q]; simp)
        subst e'
        rw [hK (by rw [q]; simp)] at e; cases e)
    have hM : Mod K mg (hidT s₁.heap H) := ⟨hKb, nsK hns, ⟨mb, nsK hb, hbb⟩, let ⟨mc, h1, h2⟩ := hlim; ⟨mc, nsK h1, h2⟩⟩
    have e0 : Env0 P w K mg (hidT s₁.heap H) callerA [] s₁ H := ⟨rfl, hM, fun b o e => of_hidT e, Nat.le_of_eq (hidT_size _ _), trivial, fun b hb => absurd (show b ∈ ([] : List Addr) from hb) (by simp), hok, .of_eq hg⟩
    refine codeAny_mono ((F _ hKb (nsK hns)).run callerA [] s₁ H ⟨[.ref a], []⟩ [.ref a] [.ref a] _ _ hr e0 (hbind s₁ (.ref a)) (.cons rfl .nil) (hsp H hO hS)) fun r s' h => ?_
    cases r with
    | error e => exact (hCX H e s' h).elim
    | ok fl =>
      cases fl with
      | next => exact False.elim h
      | brk => exact False.elim h
      | cont => exact False.elim h
      | ret u =>
        obtain ⟨v, H', os, bare, un, hok', r', q⟩ := h
        have q' : v = .bl true := q
        subst q'
        obtain rfl : u = Value.bool true := r'
        refine ⟨rfl, OldK.of_keep fun b o e => ?_, os, bare⟩
        cases q : H b with
        | none => exact un.keep b o e q (by intro z; exact absurd (show b ∈ ([] : List Addr) from z) (by simp)) (by simp)
        | some u =>
          rcases hO b with z | ⟨ob, xs, z⟩
          · rw [q] at z; cases z
          · have z2 := un.frzs b ob _ z
            obtain ⟨e1, _⟩ := hok b _ z
            obtain ⟨e2, _⟩ := hok' b _ z2
            rw [e] at e1; cases e1
            exact e2
  cases hk : K.lookup a with
  | some o =>
    -- the script is one of the module's own objects
    have e := KX a o hk
    rw [ha] at e
    cases e
    refine core (fun _ => none) (fun _ => .inl rfl) (.inr ⟨_, vs.toArray, _, hk, rfl, rfl, rfl, by rw [List.size_toArray, lenV]; exact hl, by simpa using rv⟩) (fun b u z => by have z' : (none : Option HO) = some u := z; cases z') (fun b z => absurd rfl z) fun z => absurd rfl z
  | none =>
    refine core (fun b => if b = a then some (.frz { cls := .type "list", data := .seq vs.toArray } (.lst (ns.map V.int))) else none) (fun b => ?_) (.inl (.inr ⟨{ cls := .type "list", data := .seq vs.toArray }, if_pos rfl⟩)) (fun b u z => ?_) (fun b z => ?_) fun _ => hk
    · by_cases hb : b = a
      · exact .inr ⟨_, _, if_pos hb⟩
      · exact .inl (if_neg hb)
    · by_cases hb : b = a
      · have z' := (if_pos hb).symm.trans z
        cases z'
        subst hb
        exact ⟨ha, by rw [List.length_map]; exact hl, vs, _, rv, ha⟩
      · have z' := (if_neg hb).symm.trans z
        cases z'
    · by_cases hb : b = a
      · exact hb
      · exact absurd (if_neg hb) z
end L2
namespace L2
open PySem PySem.Spec PyProof.Rows
noncomputable abbrev KOf {K : PySem.W.Frag} {h : Heap} (_ : K.In h) : PySem.W.Frag := K
theorem walk_of {l : PySem.W.OpenLaw} {n k : Nat} {q : Program} {loose : List Str} {XP : (Str → Option Value) → Heap → Prop} {YP : World → Heap → Prop} {d : DefRec} {K : Params → PySem.W.Frag} {CX : World → CXT} {sp : World → Sp} {x : Str}
    (hn : l.most = some n) (hn2 : n ≤ sizeLine) (hdf : d.params.defaults = []) (hr : Room k callerA)
    (hY : ∀ (w : World) (h : Heap), YP w h → (K w.params).In h)
    (F : ∀ (w : World) (mg : Str → Option Value) (fa : Addr) (h : Heap), (K w.params).In h → h.Ns mainGlobals mg → mg d.name = some (.ref fa) →
      ∃ fd : FuncData, (∀ (s : Shared) (u : Value), BindsTo s fd ⟨[u], []⟩ [(x, u)]) ∧
        ∀ base : Heap, (K w.params).In base → base.Ns mainGlobals mg → FnOk l.prog w (K w.params) mg base (CX w) k fa fd [x] (sp w))
    (hsp : ∀ (w : World) (H : Hp) (a : Addr) (ns : List Int), ns.length ≤ n → Only H → SqL (K w.params) H a (ns.map V.int) → sp w [.ref a] H (fun v _ => v = .bl true) fun _ _ _ => False)
    (hCX : ∀ (w : World) (H : Hp) (s : Shared) (e : Value) (s' : Shared), CX w [] H s (fun _ _ _ => False) e s' → False) :
    PySem.W.WalkO q loose XP YP l.row.toRowW d [] (fun f vs => PySem.call f vs) := by
  refine Att.attach_call hn hdf fun w s₀ s₁ mg mb fa o pm cd doc a vs ns G Y ho hd hcd hmg hobj hints hlen hg => ?_
  have KX := hY w _ Y
  obtain ⟨fd, hb, hF⟩ := F w mg fa _ KX G.T.g hmg
  exact law_call KX G.T.g G.T.b G.T.builtins G.T.nolimit hg hobj hints (Nat.le_trans hlen hn2) hr hF hb (fun H hO hS => hsp w H a ns hlen hO hS) fun H e s' => hCX w H s₁ e s'
end L2
/- THE LAST THEOREM (shape; LID, My.* are yours):
   My.Adr: a structure of the addresses that your layer names (classes, functions); My.Txt K t: a structure (Prop) of the equations over K;
   My.txt_mk : {K} {implicit addresses ..} (e1 : nsIn K mainGlobals "law" = some (some (.ref f))) (e2 : K.lookup f = some ⟨oc, od, .func (fnOf "law" "law" params body scope dV kV doc pm an cdv ct), sl⟩) (e3 : codeIn K cdv "law" = true) .. : ∃ t, My.Txt K t
set_option maxRecDepth 100000 in
set_option maxHeartbeats 0 in
theorem PySem.Challenge.cw_LID_holds : PySem.Challenge.rw_LID.Holds := by
  w_on; o_law; k_head; (case hw => w_witness2)
  k_fill
  refine L2.walk_of (l := PySem.Challenge.rw_LID) (n := 63) (k := 40) (x := "script") (CX := fun w => ..) (sp := fun _ => My.sp_law) rfl (by decide) rfl ⟨rfl, by decide, by decide⟩ (fun w h Y => PySem.W.kIn_of Y) ?F ?S ?C
  case F =>
    intro w mg fa h KX G hmg
    have T : ∃ t, My.Txt (L2.KOf KX) t := by
      dsimp only [L2.KOf]                          -- K must stand as «<heap const> w.params» for k_is
      refine' My.txt_mk ?e1 ?e2 ?e3 ..
      (case e1 => PySem.W.k_is)                    -- in the order: a name -> its address -> its object -> its parts
      (case e2 => PySem.W.k_is)
      ..
    obtain ⟨t, T⟩ := T
    have e0 := hmg.symm.trans (PySem.W.mg_of KX G T.law)
    cases e0                                       -- fa is the law's own address
    exact ⟨_, fun s u => .of_eq rfl, fun base kb nb => My.law_fn T kb nb⟩     -- if «.of_eq rfl» comes too early: refine' ⟨_, ?b, fun base kb nb => My.law_fn T kb nb⟩; exact fun s u => .of_eq rfl
  case S => exact fun w H a ns hl hO hS => ..
  case C => exact ..
(the tactic k_is has no namespace: write k_is) -/
namespace L2
open PySem PySem.Spec PyProof.Rows
noncomputable def defArgs (s : Stmt) : Arguments := match s with
  | .FunctionDef _ a _ _ _ _ _ _ _ _ => a
  | _ => { posonlyargs := [], args := [], vararg := none, kwonlyargs := [], kw_defaults := [], kwarg := none, defaults := [] }
noncomputable def defBody (s : Stmt) : List Stmt := match s with
  | .FunctionDef _ _ b _ _ _ _ _ _ _ => b
  | _ => []
noncomputable def defScope (s : Stmt) : Scope := match s with
  | .FunctionDef _ _ _ _ _ _ sc _ _ _ => sc
  | _ => { kind := .function, names := [], isGenerator := false, isCoroutine := false }
noncomputable abbrev CX0 : CXT := fun _ _ _ _ _ _ => False
noncomputable abbrev E0 : XK := fun _ _ _ => False
structure Fun (K : PySem.W.Frag) (x qual : Str) (st : Stmt) (f : Addr) (fd : FuncData) : Prop where
  ex : ∃ (oc : Value) (od : Option Addr) (kV doc pm : Value) (an : Option Addr) (cdv ct : Value) (osl : Array (Option Value)),
    fd = PySem.W.fnOf x qual (defArgs st) (defBody st) (defScope st) .none kV doc pm an cdv ct ∧ K.lookup f = some ⟨oc, od, .func fd, osl⟩ ∧ PySem.W.codeIn K cdv qual = true
  kp : PySem.W.keepIn K (.ref f) = true
section
variable {P : Program} {w : World} {K : PySem.W.Frag} {mg : Str → Option Value} {base : Heap}
theorem Fun.ok {x qual : Str} {st : Stmt} {f : Addr} {fd : FuncData} {N ps : List Str} {k : Nat} {sp : Sp} (F : Fun K x qual st f fd) (S : FnScope N ps (defScope st)) (len : ∀ vs H Q E, sp vs H Q E → vs.length = ps.length)
    (hbody : ∀ (cdv : Value) (A : Around) (outer : List Env) (s : Shared) (H : Hp) (vs : List V) (Q : VK) (E : XK), Room k (A.deeper (envOfC qual (defScope st) s.heap.objs.size f cdv)) → sp vs H Q E →
      ∃ t, PSs (cxOf CX0 P w K mg base N qual (defScope st) f cdv A outer s H E).nox (defBody st) t ∧ t { nx := fun _ H' => Q .non H', rt := Q } (start N vs) H) : FnOk P w K mg base CX0 (k + 1) f fd ps sp := by
  obtain ⟨oc, od, kV, doc, pm, an, cdv, ct, osl, rfl, lk, hcd⟩ := F.ex
  refine fn_of lk hcd S len fun A outer s H vs Q E hr hsp => ?_
  obtain ⟨t, h, q⟩ := hbody cdv A outer s H vs Q E hr hsp
  exact ⟨t, h.nox, q⟩
theorem Fun.binds {x qual : Str} {st : Stmt} {f : Addr} {fd : FuncData} {ps : List Str} (F : Fun K x qual st f fd)
    (h : ∀ (kV doc pm : Value) (an : Option Addr) (cdv ct : Value) (us : List Value), us.length = ps.length → bindArgs (PySem.W.fnOf x qual (defArgs st) (defBody st) (defScope st) .none kV doc pm an cdv ct) ⟨us, []⟩ = pure (ps.zip us)) : Binds K fd ps [] := by
  obtain ⟨oc, od, kV, doc, pm, an, cdv, ct, osl, rfl, lk, hcd⟩ := F.ex
  exact .all (h kV doc pm an cdv ct)
theorem fun_mk {x qual : Str} {st : Stmt} {f : Addr} {oc : Value} {od an : Option Addr} {osl : Array (Option Value)} {kV doc pm cdv ct : Value} (l : K.lookup f = some ⟨oc, od, .func (PySem.W.fnOf x qual (defArgs st) (defBody st) (defScope st) .none kV doc pm an cdv ct), osl⟩)
    (c : PySem.W.codeIn K cdv qual = true) (k : PySem.W.keepIn K (.ref f) = true) : Fun K x qual st f (PySem.W.fnOf x qual (defArgs st) (defBody st) (defScope st) .none kV doc pm an cdv ct) := ⟨⟨oc, od, kV, doc, pm, an, cdv, ct, osl, rfl, l, c⟩, k⟩
end
theorem hu_of {A : Around} {k : Nat} (hr : Room k A) : A.units + 1 < cLine := Nat.lt_of_le_of_lt (Nat.add_le_add_left (by decide : 1 ≤ 64) _) hr.units
section
variable {X : Cx}
theorem pv (i : Nat) {x : Str} {pos : Pos} (hN : X.N[i]? = some x := by rfl) (hv : Vis X.env.scope x := by first | exact Or.inl rfl | exact Or.inr (Or.inl rfl) | exact Or.inr (Or.inr rfl)) (hd : (x == ("__debug__" : Str)) = false := by decide)
    (hcd : (x == ("__classdict__" : Str)) = false := by decide) : PE X (.Name x pos) (tVar i) := pe_var hN hv hd hcd
end
theorem iteF {A B : Prop} (h : B) : if false = true then A else B := by
  rw [if_neg Bool.false_ne_true]
  exact h
theorem iteT {A B : Prop} (h : A) : if true = true then A else B := by
  rw [if_pos rfl]
  exact h
theorem ite2 {c A B : Prop} [Decidable c] (h1 : c → A) (h2 : ¬ c → B) : if c then A else B := by
  by_cases h : c
  · rw [if_pos h]
    exact h1 h
  · rw [if_neg h]
    exact h2 h
theorem iteNS {c A B : Prop} [Decidable c] (hc : c) (h : B) : if (!decide c) = true then A else B := by
  rw [decide_eq_true hc]
  exact iteF h
noncomputable def Same (H H' : Hp) : Prop := ∀ b o, H b = some o → H' b = some o
theorem Same.refl (H : Hp) : Same H H := fun _ _ h => h
theorem Same.trans {H H1 H2 : Hp} (a : Same H H1) (b : Same H1 H2) : Same H H2 := fun c o h => b c o (a c o h)
theorem Same.free {H H' : Hp} (e : Same H H') {l : Addr} (h : H' l = Option.none) : H l = Option.none := by
  cases q : H l with
  | none => rfl
  | some o =>
    rw [e l o q] at h
    cases h
theorem Same.seq {K : PySem.W.Frag} {H H' : Hp} {a : Addr} {xs : List V} (e : Same H H') (h : SqL K H a xs) : SqL K H' a xs := by
  rcases h with (h | ⟨o, h⟩) | h
  · exact .inl (.inl (e _ _ h))
  · exact .inl (.inr ⟨o, e _ _ h⟩)
  · exact .inr h
end L2
set_option Elab.async false
set_option linter.all false
set_option maxRecDepth 100000
namespace L2
open PySem PySem.Spec PyProof.Rows
noncomputable def clos (cells : List (Str × Addr)) : List (Str × NameKind) → List (Str × Addr) → List (Str × Addr)
  | [], cs => cs
  | (n, k) :: r, cs => if (k == NameKind.free) = true then (match cells.lookup n with | some c => clos cells r ((n, c) :: cs) | none => clos cells r cs) else clos cells r cs
theorem clos_for {env : Env} : ∀ (l : List (Str × NameKind)) (cs : List (Str × Addr)), (∀ x ∈ l, x.2 = .free → ∃ c, env.cells.lookup x.1 = some c) →
    (forIn (m := Sem) l cs fun x r => match x with
      | (name, kind) => if (kind == NameKind.free) = true then do let c ← cellOf env name; pure (ForInStep.yield ((name, c) :: r)) else pure (ForInStep.yield r)) = pure (clos env.cells l cs)
  | [], cs, _ => by rfl
  | (n, k) :: r, cs, h => by
    have ih := fun cs => clos_for r cs fun x hx => h x (List.mem_cons_of_mem _ hx)
    rw [List.forIn_cons]
    unfold clos
    by_cases hk : (k == NameKind.free) = true
    · obtain ⟨c, hc⟩ := h (n, k) List.mem_cons_self (by simpa using hk)
      have hc' : env.cells.lookup n = some c := hc
      simp only [hk, if_true, hc']
      have e : cellOf env n = pure c := by unfold cellOf; rw [hc']
      rw [e]
      simp only [pure_bind]
      exact ih _
    · have hk' : (k == NameKind.free) = false := by simpa using hk
      simp only [hk', Bool.false_eq_true, if_false, pure_bind]
      exact ih _
theorem clos_eq {scope : Scope} {env : Env} (h : ∀ x ∈ scope.names, x.2 = .free → ∃ c, env.cells.lookup x.1 = some c) : closureFor scope env = pure (clos env.cells scope.names []) := by
  unfold closureFor
  have := clos_for (env := env) scope.names [] h
  simp only [this, pure_bind]
theorem clos_sub {cells : List (Str × Addr)} {x : Str} {c : Addr} : ∀ (l : List (Str × NameKind)) (cs : List (Str × Addr)), (∀ y d, cs.lookup y = some d → cells.lookup y = some d) → (clos cells l cs).lookup x = some c → cells.lookup x = some c
  | [], cs, h, e => h x c e
  | (n, k) :: r, cs, h, e => by
    unfold clos at e
    split at e
    · split at e
      · rename_i d hd
        refine clos_sub r _ (fun y z q => ?_) e
        rw [List.lookup_cons] at q
        split at q
        · rename_i hy
          cases q
          rw [eq_of_beq hy]; exact hd
        · exact h y z q
      · exact clos_sub r cs h e
    · exact clos_sub r cs h e
theorem clos_keep {cells : List (Str × Addr)} {x : Str} : ∀ (l : List (Str × NameKind)) (cs : List (Str × Addr)), (∃ c, cs.lookup x = some c) → ∃ c, (clos cells l cs).lookup x = some c
  | [], cs, h => h
  | (n, k) :: r, cs, h => by
    unfold clos
    split
    · split
      · refine clos_keep r _ ?_
        rw [List.lookup_cons]
        split
        · exact ⟨_, rfl⟩
        · exact h
      · exact clos_keep r cs h
    · exact clos_keep r cs h
theorem clos_has {cells : List (Str × Addr)} {x : Str} : ∀ (l : List (Str × NameKind)) (cs : List (Str × Addr)), (x, NameKind.free) ∈ l → (∃ c, cells.lookup x = some c) → ∃ c, (clos cells l cs).lookup x = some c
  | [], _, h, _ => nomatch h
  | (n, k) :: r, cs, h, ⟨c, hc⟩ => by
    unfold clos
    rcases List.mem_cons.mp h with e | h
    · cases e
      rw [if_pos (by rfl), hc]
      refine clos_keep r _ ⟨c, ?_⟩
      simp [List.lookup_cons]
    · split
      · split
        · exact clos_has r _ h ⟨c, hc⟩
        · exact clos_has r _ h ⟨c, hc⟩
      · exact clos_has r _ h ⟨c, hc⟩
theorem relabel_free {env : Env} : ∀ {names : List (Str × NameKind)} {x : Str}, names.lookup x = some .free →
    (names.map fun (n, k) => if (k == NameKind.free && env.scope.kind == .function && env.kindOf n == some .cell) then (n, NameKind.cell) else (n, k)).lookup x = some .cell ∨
    (names.map fun (n, k) => if (k == NameKind.free && env.scope.kind == .function && env.kindOf n == some .cell) then (n, NameKind.cell) else (n, k)).lookup x = some .free
  | [], _, h => by simp at h
  | (n, k) :: r, x, h => by
    have ih := @relabel_free env r x
    by_cases hc : (k == NameKind.free && env.scope.kind == .function && env.kindOf n == some .cell) = true
    · simp only [List.map_cons, if_pos hc, List.lookup_cons]
      cases hx : x == n with
      | true => exact .inl rfl
      | false =>
        simp only [List.lookup_cons, hx] at h
        exact ih h
    · simp only [List.map_cons, if_neg hc, List.lookup_cons]
      cases hx : x == n with
      | true =>
        simp only [List.lookup_cons, hx] at h
        cases h
        exact .inr rfl
      | false =>
        simp only [List.lookup_cons, hx] at h
        exact ih h
theorem relabel_back {env : Env} : ∀ {names : List (Str × NameKind)} {x : Str}, (∀ y ∈ names, y.2 ≠ .cell) →
    ((names.map fun (n, k) => if (k == NameKind.free && env.scope.kind == .function && env.kindOf n == some .cell) then (n, NameKind.cell) else (n, k)).lookup x = some .cell ∨
    (names.map fun (n, k) => if (k == NameKind.free && env.scope.kind == .function && env.kindOf n == some .cell) then (n, NameKind.cell) else (n, k)).lookup x = some .free) → (x, NameKind.free) ∈ names
  | [], _, _, h => by simp at h
  | (n, k) :: r, x, hn, h => by
    have ih := @relabel_back env r x fun y hy => hn y (List.mem_cons_of_mem _ hy)
    by_cases hc : (k == NameKind.free && env.scope.kind == .function && env.kindOf n == some .cell) = true
    · simp only [List.map_cons, if_pos hc, List.lookup_cons] at h
      have hk : k = .free := by
        simp only [Bool.and_eq_true] at hc
        exact eq_of_beq hc.1.1
      cases hx : x == n with
      | true => rw [eq_of_beq hx, hk]; exact List.mem_cons_self
      | false =>
        simp only [hx] at h
        exact List.mem_cons_of_mem _ (ih h)
    · simp only [List.map_cons, if_neg hc, List.lookup_cons] at h
      cases hx : x == n with
      | true =>
        simp only [hx] at h
        rcases h with h | h
        · have e : k = .cell := Option.some.inj h
          exact absurd e (hn (n, k) List.mem_cons_self)
        · have e : k = .free := Option.some.inj h
          rw [eq_of_beq hx, e]; exact List.mem_cons_self
      | false =>
        simp only [hx] at h
        exact List.mem_cons_of_mem _ (ih h)
noncomputable def compCx (X : Cx) (N : List Str) (scope : Scope) (C : Addr) (s : Shared) (H : Hp) (fp : List Addr) : Cx where
  prog := X.prog
  w := X.w
  K := X.K
  mg := X.mg
  base := X.base
  A := X.A
  N := N
  s₀ := s
  H₀ := H
  env := compEnvC scope (clos X.env.cells scope.names []) C X.env
  outer := X.stack
  stack := X.stack
  ex := fp
  fn := fun _ => false
  calm := X.calm
  pn := []
  xe := fun _ _ => False
structure CompScope (X : Cx) (N : List Str) (js : List (Option Nat)) (scope : Scope) : Prop where
  kind : scope.kind = .function
  nocell : ∀ y ∈ scope.names, y.2 ≠ .cell
  locs : ∀ y ∈ scope.names, y.2 = .local → scope.names.lookup y.1 = some .local
  free : ∀ y ∈ scope.names, y.2 = .free → X.env.kindOf y.1 = some .cell ∨ X.env.kindOf y.1 = some .free
  len : js.length = N.length
  js : ∀ (i j : Nat) (x : Str), js[i]? = some (some j) → N[i]? = some x → X.N[j]? = some x ∧ scope.names.lookup x = some .free
noncomputable def innerSt (js : List (Option Nat)) (σ : St) : St := js.map fun j => (j.bind fun j => σ[j]?).join
section
variable {X : Cx} {pins : List (Addr × Obj)} {σ : St} {H : Hp} {s : Shared} {N : List Str} {js : List (Option Nat)} {scope : Scope} {fp : List Addr} {C D : Addr} {h₁ : Heap} {m : Str → Option Value} {tk : Nat}
theorem lookup_mem {α β : Type} [BEq α] [LawfulBEq α] {x : α} {y : β} : ∀ {l : List (α × β)}, l.lookup x = some y → (x, y) ∈ l
  | [], h => by simp at h
  | (a, b) :: r, h => by
    rw [List.lookup_cons] at h
    split at h
    · rename_i hx
      cases h
      rw [eq_of_beq hx]; exact List.mem_cons_self
    · exact List.mem_cons_of_mem _ (lookup_mem h)
theorem inv_comp (S : CompScope X N js scope) (I : Inv X pins σ H s) (f2 : ∀ b ∈ fp, FpOk X pins H b) (hfp : ∀ b ∈ fp, b < s.heap.objs.size) (keep : ∀ b o, s.heap.get? b = some o → h₁.get? b = some o)
    (hD0 : s.heap.objs.size ≤ D) (hC0 : s.heap.objs.size ≤ C) (hDC : D ≠ C) (hD : ∃ n, h₁.get? D = some { cls := .type "list", data := .seq ([] : List Value).toArray n }) (hns : h₁.Ns C m) :
    Inv (compCx X N scope C s H fp) [] (innerSt js σ) (upd H D (.lst [])) { s with heap := h₁, toks := tk } := by
  have hc : ∀ x ∈ scope.names, x.2 = .free → ∃ c, X.env.cells.lookup x.1 = some c := fun x hx e => I.ok.has _ (S.free x hx e)
  have sub : ∀ x c, (clos X.env.cells scope.names []).lookup x = some c → X.env.cells.lookup x = some c := fun x c e => clos_sub _ _ (fun _ _ z => by simp at z) e
  have clt : ∀ x c, X.env.cells.lookup x = some c → c < s.heap.objs.size := fun x c e => by obtain ⟨v, q⟩ := I.cell x c e; exact q.lt
  have hasF : ∀ x, (x, NameKind.free) ∈ scope.names → ∃ c, (clos X.env.cells scope.names []).lookup x = some c := fun x hx => clos_has _ _ hx (hc (x, .free) hx rfl)
  have fD : H D = none := I.hok.fresh hD0
  have fC : H C = none := I.hok.fresh hC0
  refine ⟨⟨I.ok.mod, S.kind, I.ok.glob, I.ok.blt, hC0, fun x y c h1 h2 => I.ok.inj x y c (sub _ _ h1) (sub _ _ h2), fun x hx => ?_, fun x c h _ => (Bool.noConfusion h), I.ok.hd, I.ok.frames, .inl rfl, fun b hb => ⟨?_, fun x c e => (f2 b hb).2.2.2.2.1 x c (sub _ _ e)⟩, I.bs,
      Nat.le_trans I.ok.bsz I.sz, fun b o e hb => ?_, fun b hb z => ?_, I.stack, I.stkFree⟩,
    rfl, I.bare, Un.laid keep hD0 fD, ⟨m, hns, fun i x v h1 h2 h3 => ?_⟩, fun x c e => ?_, ?_, fun x c e => ?_, fun p hp => absurd hp (by simp [compCx]), I.hok.laid keep hD0 ?_, ?_⟩
  · exact hasF x (relabel_back S.nocell hx)
  · exact Nat.ne_of_lt (Nat.lt_of_lt_of_le (hfp b hb) hC0)
  · rcases (f2 b hb).2.2.2.1 with q | q
    · exact I.ok.noex b o e q
    · exact absurd (Nat.lt_of_lt_of_le (Heap.lt_size e) (Nat.le_trans I.ok.bsz q)) (Nat.lt_irrefl _)
  · rcases List.mem_cons.mp (I.stkSub b z) with q | q
    · exact (f2 b hb).2.1 q
    · exact (f2 b hb).2.2.1 q
  · have h2' : (js[i]?.map fun j => (j.bind fun j => σ[j]?).join) = some (some v) := by rw [← List.getElem?_map]; exact h2
    cases ej : js[i]? with
    | none => rw [ej] at h2'; cases h2'
    | some j =>
      rw [ej] at h2'
      cases j with
      | none => simp at h2'
      | some j =>
        have e2 : σ[j]? = some (some v) := by
          simp only [Option.map_some, Option.bind_some, Option.some.injEq] at h2'
          cases q : σ[j]? with
          | none => rw [q] at h2'; simp at h2'
          | some z => rw [q] at h2'; simp at h2'; rw [h2']
        obtain ⟨n1, n2⟩ := S.js i j x ej h1
        have hx := lookup_mem n2
        have hk := S.free _ hx rfl
        obtain ⟨m0, _, hl⟩ := I.loc
        obtain ⟨u, r, l⟩ := hl j x v n1 e2 (hk.elim (fun z => .inr (.inl z)) fun z => .inr (.inr z))
        refine ⟨u, r, ?_⟩
        rcases l with ⟨k, _⟩ | ⟨_, c, e, z⟩
        · have k' : X.env.kindOf x = some .local := k
          rcases hk with q | q <;> (rw [show X.env.kindOf x = _ from q] at k'; cases k')
        · obtain ⟨c', e'⟩ := hasF x hx
          have := sub _ _ e'
          rw [e] at this; cases this
          exact .inr ⟨relabel_free n2, c, e', z.keeps keep⟩
  · obtain ⟨v, q⟩ := I.cell x c (sub _ _ e)
    exact ⟨v, q.keeps keep⟩
  · show upd H D _ C = none
    rw [upd_ne (Ne.symm hDC)]; exact fC
  · show upd H D _ c = none
    have hlt := clt x c (sub _ _ e)
    rw [upd_ne (Nat.ne_of_lt (Nat.lt_of_lt_of_le hlt hD0))]
    exact I.freeC x c (sub _ _ e)
  · obtain ⟨n, hD⟩ := hD
    exact ⟨Nat.zero_le _, [], n, .nil, hD⟩
  · show (innerSt js σ).length = N.length
    unfold innerSt
    rw [List.length_map, S.len]
end
noncomputable def PIfs (X : Cx) (ifs : List Expr) (t : TT) : Prop :=
  ∀ (pins : List (Addr × Obj)) (s : Shared) (σ : St) (H : Hp) (Q : Bool → Hp → Prop), Inv X pins σ H s → t σ H Q →
    wpAny (model X.prog X.w) X.A (forIn ifs true fun c r => if r = true then do let ok ← isTrue c X.env (eval c X.env); pure (ForInStep.yield ok) else pure (ForInStep.yield r)) (TP X pins σ Q) X.xe s
noncomputable def tTrue : TT := fun _ H Q => Q true H
theorem pif_nil {X : Cx} : PIfs X [] tTrue := fun _ _ _ H _ I h => wpAny_tests_nil ⟨H, I, h⟩
theorem pif_one {X : Cx} {c : Expr} {t : TT} (h : PT X c t) : PIfs X [c] t := fun pins s σ H Q I hw => wpAny_tests_one (h pins s σ H Q I hw)
theorem compLoop_gen {prog : Program} {w : World} {A : Around} {R : Result → Shared → Prop} {s : Shared} {elt target iter : Expr} {ifs : List Expr} {scope : Scope} {pos : Pos} {it acc : Value} {env : Env} (I : Nat → Shared → Prop)
    (turn : ∀ n s, I n s → wpAny (model prog w) A (pyNext it) (fun r s₁ => match r with
      | none => R (.ok .next) s₁
      | some v => wpAny (model prog w) A (letOwnedTupleGo target it v) (fun _ s₁' => wpAny (model prog w) A (assign target env v) (fun _ s₂ =>
          wpAny (model prog w) A (forIn ifs true fun c r => if r = true then do let ok ← isTrue c env (eval c env); pure (ForInStep.yield ok) else pure (ForInStep.yield r)) (fun ok s₃ =>
            if ok = true then wpAny (model prog w) A (eval elt env) (fun x s₄ =>
              wpAny (model prog w) A (call (.builtin "list.append") [acc, x]) (fun _ s₅ => ∃ m, m < n ∧ I m s₅) (fun _ _ => False) s₄) (fun _ _ => False) s₃
            else ∃ m, m < n ∧ I m s₃) (fun _ _ => False) s₂) (fun _ _ => False) s₁') (fun _ _ => False) s₁) (fun _ _ => False) s)
    (n : Nat) (h : I n s) :
    codeAny (model prog w) A (.compLoop (.ListComp elt [⟨target, iter, ifs, 0⟩] scope pos) 0 it acc env) R s := by
  refine codeAny_loop rfl I (fun n s hI => ?_) n h
  show wpAny _ A ((compTurn (.ListComp elt [⟨target, iter, ifs, 0⟩] scope pos) 0 it acc env).onRaise (fun x => do noteFrame x env; theTreesLotGoes x)) _ _ s
  refine wpAny_noted ?_
  rw [compTurn_list]
  refine wpAny_bind (wpAny_standAt (wpAny_bind (wpAny_mono (turn n s hI) (fun r s₁ h₁ => ?_) fun _ _ h' => h'.elim)))
  cases r with
  | none => exact wpAny_pure h₁
  | some v =>
    refine wpAny_bind (wpAny_mono h₁ (fun _ s₁' h₁' => ?_) fun _ _ h' => h'.elim)
    refine wpAny_bind (wpAny_mono h₁' (fun _ s₂ h₂ => wpAny_bind (wpAny_mono h₂ (fun ok s₃ h₃ => ?_) fun _ _ h' => h'.elim)) fun _ _ h' => h'.elim)
    cases ok with
    | false => exact wpAny_pure ⟨rfl, h₃⟩
    | true =>
      exact wpAny_bind (wpAny_bind (wpAny_mono h₃ (fun x s₄ h₄ => wpAny_bind (wpAny_mono h₄ (fun _ s₅ h₅ => wpAny_pure (wpAny_pure ⟨rfl, h₅⟩)) fun _ _ h' => h'.elim)) fun _ _ h' => h'.elim))
noncomputable def tComp (js : List (Option Nat)) (wi : TI) (g : TG) (tc : TT) (te : TE) : TE := fun σ H Q =>
  wi σ H fun J H1 => ∀ D, H1 D = none → ∃ W : Nat → Nat → St → Hp → Prop, (∃ m, W 0 m (innerSt js σ) (upd H1 D (.lst []))) ∧
    ∀ i m σ' H', W i m σ' H' → (J.stop i H' ∧ Q (.ref D) H') ∨ (J.go i H' ∧ ∀ x H2, J.yld i H' x H2 → g x σ' H2 fun σ2 H3 => tc σ2 H3 fun b H4 =>
      if b = true then te σ2 H4 fun v H5 => rAppend (.ref D) [v] H5 fun _ H6 => ∃ m', m' < m ∧ W (i + 1) m' σ2 H6 else ∃ m', m' < m ∧ W (i + 1) m' σ2 H4)
theorem pe_comp {X : Cx} {elt tg iter : Expr} {ifs : List Expr} {scope : Scope} {pos : Pos} {N : List Str} {js : List (Option Nat)} {wi : TI} {g : TG} {tc : TT} {te : TE} (hcalm : X.calm = true) (S : CompScope X N js scope)
    (hi : PI X tg iter wi) (hg : ∀ C s H fp, PG (compCx X N scope C s H fp) tg g) (ht : ∀ C s H fp, PIfs (compCx X N scope C s H fp) ifs tc) (he : ∀ C s H fp, PE (compCx X N scope C s H fp) elt te)
    (hs : ∀ x, foldedSetIterable iter X.env x = pure x := by intro _; rfl) : PE X (.ListComp elt [⟨tg, iter, ifs, 0⟩] scope pos) (tComp js wi g tc te) := by
  intro pins s σ H Q I h
  have hc : ∀ x ∈ scope.names, x.2 = .free → ∃ c, X.env.cells.lookup x.1 = some c := fun x hx e => I.ok.has _ (S.free x hx e)
  rw [eval_ListComp]
  refine wpAny_comprehension_free (use := none) rfl hs (clos_eq hc) S.kind S.locs (thn (hi pins s σ H _ I h) fun v s1 h1 => thn h1 fun itv s2 h2 => ?_)
  obtain ⟨it, fp, tn, J, H2, e, I2, T, st2, f2, q⟩ := h2
  subst e
  refine wpAny_newObj_type (wpAny_newFunctionEnv S.nocell (by intro y hy; simp at hy) (fun h₁ hns₁ hsb₁ => ?_) S.kind)
  dsimp only at hns₁ hsb₁ ⊢
  generalize hH2 : s2.heap.push { cls := .type "list", dict := none, data := .seq ([] : List Value).toArray } = G2 at hns₁ hsb₁ ⊢
  have hC : G2.objs.size = s2.heap.objs.size + 1 := by rw [← hH2, Heap.size_push]
  have hDC : s2.heap.objs.size ≠ G2.objs.size := by rw [hC]; exact Nat.ne_of_lt (Nat.lt_succ_self _)
  have hC0 : s2.heap.objs.size ≤ G2.objs.size := by rw [hC]; exact Nat.le_succ _
  have below : ∀ b, b < s2.heap.objs.size → b ≠ G2.objs.size := fun b hb => by rw [hC]; exact Nat.ne_of_lt (Nat.lt_succ_of_lt hb)
  have old : ∀ b o, s2.heap.get? b = some o → h₁.get? b = some o := fun b o e => hsb₁.extBut b o (below b (Heap.lt_size e)) (Heap.get?_push_of_some _ (hH2 ▸ Heap.get?_push_of_some _ e))
  have hacc : h₁.get? s2.heap.objs.size = some { cls := .type "list", data := .seq ([] : List Value).toArray } := hsb₁.extBut _ _ hDC (Heap.get?_push_of_some _ (hH2 ▸ Heap.get?_push_size _ rfl))
  have hfp : ∀ b ∈ fp, b < s2.heap.objs.size := fun b hb => by obtain ⟨o, e, _⟩ := T.obj 0 _ st2 b hb; exact Heap.lt_size e
  obtain ⟨W, ⟨m0, w0⟩, turn⟩ := q s2.heap.objs.size (I2.hok.fresh (Nat.le_refl _))
  have stat : ∀ {H' : Hp}, (∀ b ∈ fp, H' b = none) → ∀ b ∈ fp, FpOk (compCx X N scope G2.objs.size s2 H2 fp) [] H' b := fun {H'} hn b hb =>
    ⟨hn b hb, below b (hfp b hb), fun z => by
      rcases List.mem_cons.mp (I2.stkSub b z) with q | q
      · exact (f2 b hb).2.1 q
      · exact (f2 b hb).2.2.1 q, .inl hb, fun x c e => (f2 b hb).2.2.2.2.1 x c (clos_sub _ _ (fun _ _ z => by simp at z) e), fun p hp => absurd hp (by simp [compCx])⟩
  have loop : ∀ s3 : Shared, s3 = { s2 with heap := h₁, toks := s2.toks + ([] : List (Str × Value)).length } →
      codeAny (model X.prog X.w) X.A (.compLoop (.ListComp elt [⟨tg, iter, ifs, 0⟩] scope pos) 0 (.ref it) (.ref s2.heap.objs.size) (compEnvC scope (clos X.env.cells scope.names []) G2.objs.size X.env))
        (compPost (model X.prog X.w) X.A X.xe none (EP X pins σ Q) (.ref s2.heap.objs.size) G2.objs.size) s3 := by
    rintro s3 rfl
    have I3 : Inv (compCx X N scope G2.objs.size s2 H2 fp) [] (innerSt js σ) (upd H2 s2.heap.objs.size (.lst [])) { s2 with heap := h₁, toks := s2.toks + ([] : List (Str × Value)).length } :=
      inv_comp S I2 f2 hfp old (Nat.le_refl _) hC0 hDC ⟨_, hacc⟩ hns₁
    refine compLoop_gen (fun n s' => ∃ i σ' H', Inv (compCx X N scope G2.objs.size s2 H2 fp) [] σ' H' s' ∧ tn i s'.heap ∧ (∀ b ∈ fp, H' b = none) ∧ W i n σ' H') ?_ m0
      ⟨0, _, _, I3, T.keep 0 _ _ st2 fun b _ o e => old b o e, fun b hb => by rw [upd_ne (Nat.ne_of_lt (hfp b hb))]; exact (f2 b hb).1, w0⟩
    rintro n s4 ⟨i, σ4, H4, I4, st4, fr4, w4⟩
    rcases turn i n σ4 H4 w4 with ⟨stop, qn⟩ | ⟨go, step⟩
    · refine thn (T.done (compCx X N scope G2.objs.size s2 H2 fp) rfl rfl rfl hcalm i [] s4 σ4 H4 (fun _ _ => False) I4 (stat fr4) st4 stop) fun r s5 ⟨hr, I5⟩ => ?_
      subst hr
      obtain ⟨m5, n5, _⟩ := I5.loc
      refine ⟨m5, n5, fun h' sb => ?_⟩
      have hos : s5.os = s2.os := I5.os
      obtain ⟨hh, gg, dd, tt, os5⟩ := s5
      obtain rfl : os5 = s2.os := hos
      have un : Un (frs X.stack) fp H2 H4 s2.heap h' := by
        have u := I5.base
        have nC : ∀ b o, s2.heap.get? b = some o → b ≠ G2.objs.size := fun b o e => below b (Heap.lt_size e)
        exact ⟨fun b o e n hf hx => sb.extBut b o (nC b o e) (u.keep b o e n hf hx), fun b o e n hf hx => by
            obtain ⟨sl, z⟩ := u.slot b o e n hf hx
            exact ⟨sl, sb.extBut b _ (nC b o e) z⟩, u.free, fun b o e hx => by
            obtain ⟨o', z⟩ := u.there b o e hx
            exact ⟨o', sb.extBut b _ (nC b o e) z⟩, u.tups, u.frzs, u.tbls⟩
      have hok : HOk X.prog X.w H4 h' := fun b ob e => (I5.hok b ob e).stay (fun c v hcv z => sb.extBut c v (fun q => by
        rcases hcv with hcv | hcv
        · rw [← hcv, q] at e
          have := I5.free
          have this' : H4 G2.objs.size = none := this
          rw [e] at this'; cases this'
        · rw [q] at hcv
          have this' : H4 G2.objs.size = none := I5.free
          rw [hcv] at this'; cases this') z) (fun _ z => z) fun _ _ z => z
      have IE := I2.call (h' := h') (g' := gg) (d' := dd) (t' := tt) (ch := fp) un hok I5.bare fun b hb => ⟨(f2 b hb).2.2.2.1, (f2 b hb).2.1, (f2 b hb).2.2.2.2.1, (f2 b hb).2.2.2.2.2⟩
      exact ⟨.ref s2.heap.objs.size, H4, IE, rfl, qn⟩
    · refine thn (T.item (compCx X N scope G2.objs.size s2 H2 fp) rfl rfl rfl hcalm i [] s4 σ4 H4 (fun _ _ => False) I4 (stat fr4) st4 go) fun r s5 ⟨u, hr, h5⟩ => ?_
      subst hr
      refine thn h5 fun _ s6 ⟨x, H6, I6, r6, y6, st6, fr6⟩ => ?_
      have I6' := I6.pinned (stat fr6) (T.obj _ _ st6)
      refine thn (hg _ _ _ _ _ s6 σ4 H6 x u _ I6' r6 (step x H6 y6)) fun _ s7 ⟨σ7, H7, I7, q7⟩ => ?_
      refine thn (ht _ _ _ _ _ s7 σ7 H7 _ I7 q7) fun b s8 ⟨H8, I8, q8⟩ => ?_
      have again : ∀ {s9 : Shared} {H9 : Hp}, Inv (compCx X N scope G2.objs.size s2 H2 fp) ([] ++ pinsAt fp s6.heap) σ7 H9 s9 → (∃ m', m' < n ∧ W (i + 1) m' σ7 H9) → ∃ m, m < n ∧ ∃ i σ' H', Inv (compCx X N scope G2.objs.size s2 H2 fp) [] σ' H' s9 ∧ tn i s9.heap ∧ (∀ b ∈ fp, H' b = none) ∧ W i m σ' H' := fun {s9 H9} I9 ⟨m', hm, w9⟩ => by
        refine ⟨m', hm, i + 1, σ7, H9, I9.unpinned, T.keep _ _ _ st6 fun b hb o e => (I9.pin (b, o) (List.mem_append_right _ (List.mem_append_right _ (mem_pinsAt hb e)))).1, fun b hb => ?_, w9⟩
        obtain ⟨o, e, d⟩ := T.obj _ _ st6 b hb
        exact (I9.pin (b, o) (List.mem_append_right _ (List.mem_append_right _ (mem_pinsAt hb e)))).2.1
      cases b with
      | false =>
        rw [if_neg Bool.false_ne_true] at q8 ⊢
        exact again I8 q8
      | true =>
        rw [if_pos rfl] at q8 ⊢
        refine thn (he _ _ _ _ _ s8 σ7 H8 _ I8 q8) fun xv s9 ⟨xx, H9, I9, r9, q9⟩ => ?_
        refine thn (mt_append _ s9 σ7 H9 (.ref s2.heap.objs.size) [xx] (.ref s2.heap.objs.size) [xv] _ I9 rfl (.cons r9 .nil) q9) fun _ s10 ⟨_, H10, I10, _, q10⟩ => ?_
        exact again I10 q10
  exact codeAny_compStart_list (loop _ rfl) (T.self _ _ _ _ _ (T.keep 0 _ _ st2 fun b _ o e => old b o e) (loop _ rfl))
end L2
set_option Elab.async false
set_option linter.all false
set_option maxRecDepth 100000
namespace L2
open PySem PySem.Spec PyProof.Rows
theorem ObjOk.obj {P : Program} {w : World} {H : Hp} {h : Heap} {a : Addr} {o : HO} (x : ObjOk P w H h a o) : ∃ ob, h.get? a = some ob := by
  cases o with
  | lst xs => obtain ⟨_, _, _, _, e⟩ := x; exact ⟨_, e⟩
  | tup xs => obtain ⟨_, _, _, o, e, _⟩ := x; exact ⟨_, e⟩
  | dK kvs => obtain ⟨_, _, _, _, o, _, _, e, _⟩ := x; exact ⟨_, e⟩
  | dT kvs => obtain ⟨_, _, _, _, o, _, _, e, _⟩ := x; exact ⟨_, e⟩
  | set S n => obtain ⟨o, _, _, _, e, _⟩ := x; exact ⟨_, e⟩
  | ins C dx fs => obtain ⟨_, _, _, e, _⟩ := x; exact ⟨_, e⟩
  | own y => exact x
  | xd fs => obtain ⟨_, ⟨_, _, _, e, _⟩, _⟩ := x; exact ⟨_, e⟩
  | rng lo hi => obtain ⟨_, _, _, e⟩ := x; exact ⟨_, e⟩
  | frz ob u => obtain ⟨e, _⟩ := x; exact ⟨_, e⟩
  | tbl ps => exact ⟨_, (show h.get? a = some _ from x)⟩
  | met f y => exact ⟨_, (show h.get? a = some _ from x)⟩
  | ext φ => obtain ⟨_, e, _⟩ := x; exact e
noncomputable def CXW (P : Program) (w : World) : CXT := fun outer H s E e s' => ∃ (a : Addr) (cls a0 : Value) (H' : Hp) (B : Heap), e = .ref a ∧ s'.os = s.os ∧ AllBare s'.gens ∧ Un (frs outer) [] H H' s.heap s'.heap ∧ HOk P w H' B ∧
  Heap.FlyingW B outer a cls a0 s'.heap ∧ (∀ b o, s.heap.get? b = some o → H b = none → b ∉ frs outer → B.get? b = some o) ∧ (∀ b o, s.heap.get? b = some o → b ∉ frs outer → ∃ o', B.get? b = some o') ∧ E cls none H'
theorem passN {P : Program} {w : World} {X : Cx} : Passes (CXW P w) X E0 := fun _ _ _ _ _ _ _ h => by
  obtain ⟨_, _, _, _, _, _, _, _, _, _, _, _, _, hE⟩ := h
  exact hE.elim
section
variable {P : Program} {w : World} {K : PySem.W.Frag} {mg : Str → Option Value} {base : Heap} {N : List Str} {qual : Str} {scope : Scope} {f : Addr} {cd : Value} {A : Around} {outer : List Env} {s : Shared} {H : Hp} {E : XK}
  {pins : List (Addr × Obj)} {σ : St} {H1 : Hp} {s1 : Shared}
end
section
variable {P : Program} {w : World} {K : PySem.W.Frag} {mg : Str → Option Value} {base : Heap}
theorem Fun.okX {x qual : Str} {st : Stmt} {f : Addr} {fd : FuncData} {N ps : List Str} {k : Nat} {sp : Sp} (F : Fun K x qual st f fd) (S : FnScope N ps (defScope st)) (len : ∀ vs H Q E, sp vs H Q E → vs.length = ps.length)
    (hbody : ∀ (cdv : Value) (A : Around) (outer : List Env) (s : Shared) (H : Hp) (vs : List V) (Q : VK) (E : XK), Room k (A.deeper (envOfC qual (defScope st) s.heap.objs.size f cdv)) → sp vs H Q E →
      ∃ t, PSs (cxOf (CXW P w) P w K mg base N qual (defScope st) f cdv A outer s H E) (defBody st) t ∧ t { nx := fun _ H' => Q .non H', rt := Q } (start N vs) H) : FnOk P w K mg base (CXW P w) (k + 1) f fd ps sp := by
  obtain ⟨oc, od, kV, doc, pm, an, cdv, ct, osl, rfl, lk, hcd⟩ := F.ex
  exact fn_of lk hcd S len fun A outer s H vs Q E hr hsp => hbody cdv A outer s H vs Q E hr hsp
theorem Fun.okN {x qual : Str} {st : Stmt} {f : Addr} {fd : FuncData} {N ps : List Str} {k : Nat} {sp : Sp} (F : Fun K x qual st f fd) (S : FnScope N ps (defScope st)) (len : ∀ vs H Q E, sp vs H Q E → vs.length = ps.length)
    (hbody : ∀ (cdv : Value) (A : Around) (outer : List Env) (s : Shared) (H : Hp) (vs : List V) (Q : VK) (E : XK), Room k (A.deeper (envOfC qual (defScope st) s.heap.objs.size f cdv)) → sp vs H Q E →
      ∃ t, PSs (cxOf (CXW P w) P w K mg base N qual (defScope st) f cdv A outer s H E).nox (defBody st) t ∧ t { nx := fun _ H' => Q .non H', rt := Q } (start N vs) H) : FnOk P w K mg base (CXW P w) (k + 1) f fd ps sp :=
  F.okX S len fun cdv A outer s H vs Q E hr hsp => by
    obtain ⟨t, h, q⟩ := hbody cdv A outer s H vs Q E hr hsp
    exact ⟨t, h.nox, q⟩
end
end L2
set_option Elab.async false
set_option linter.all false
set_option maxRecDepth 100000
namespace L2
open PySem PySem.Spec PyProof.Rows PySem.W
structure ExcC (K : Frag) (C : Addr) : Prop where
  ga : findIn K (.ref C) "__getattribute__" = some (some (.builtin "BaseException.__getattribute__"))
  gt : findIn K (.ref C) "__getattr__" = some none
  ca : findIn K (.ref C) "__class__" = some (some (.builtin "object.__class__"))
  ob : mroIn K C (.type "object") = some true
  be : mroIn K C (.type "BaseException") = some true
  ty : typeIn K (.ref C) = some (.type "type")
theorem ExcC.cls {K : Frag} {C : Addr} (T : ExcC K C) : (clsIn K C).isSome = true := by
  have h := T.ob
  unfold mroIn at h
  cases e : clsIn K C with
  | none => rw [e] at h; cases h
  | some cd => rfl
noncomputable def ExcAt (a C : Addr) (h : Heap) : Prop := ∃ o vs, h.get? a = some o ∧ o.cls = .ref C ∧ o.data = .fields vs
section
variable {prog : Program} {w : World} {A : Around} {E : Value → Shared → Prop} {h : Heap} {g : Array GenState} {d : Drawn} {t : Nat} {os : OsState} {a C : Addr} {o : Obj} {K : Frag}
theorem exc_class_get {R : Result → Shared → Prop} (X : K.In h) (T : ExcC K C) (hx : h.get? a = some o) (hc : o.cls = .ref C) (hq : R (.ok (.ret (.ref C))) ⟨h, g, d, t, os⟩) :
    codeAny (model prog w) A (.call (.builtin "getset_descriptor.__get__") ⟨[.builtin "object.__class__", .ref a, .ref C], []⟩) R ⟨h, g, d, t, os⟩ := by
  have hT5 : (⟨h, g, d, t, os⟩ : Shared).TypeIs (.builtin "object.__class__") "getset_descriptor" := F.typeOf_object_class
  have L1 := looks_mroIn (M := model prog w) X T.ob
  refine codeAny_call_builtin F.slot_gs_get.plain F.entry_gs_get (F.slot_gs_get.check _ _ _ _ _ _ _ _ hT5 (F.args_gs_get _ _ _) ?_)
  repeat (any_goals (first | assumption | (with_reducible refine wpAny_loadPart_at hx ?_; rw [hc]) | (rw [F.owner_object_class]; with_reducible refine L1.at ?_) | wp_step))
  refine ⟨Code.quiet_builtin _ (by decide +kernel), codeAny_builtin F.entry_object_class ?_⟩
  repeat (any_goals (first | assumption | (with_reducible refine wpAny_loadPart_at hx ?_; rw [hc]) | wp_step))
theorem exc_class_entry {tk : Tok} {Q : Fin → Shared → Prop} (X : K.In h) (T : ExcC K C) (hx : h.get? a = some o) (hc : o.cls = .ref C) (hq : Q (.done (.ret (.ref C))) ⟨h, g, d, t, os⟩) :
    wpAny (model prog w) A (Builtin.«object.__getattribute__» ⟨[.ref a, .str "__class__" tk], []⟩) Q E ⟨h, g, d, t, os⟩ := by
  have hT5 : (⟨h, g, d, t, os⟩ : Shared).TypeIs (.builtin "object.__class__") "getset_descriptor" := F.typeOf_object_class
  have f5 := F.typeOf_object_class
  have f6 := F.slot_gs_get.lookup
  have f7 := F.slot_gs_set.lookup
  have L1 := looks_findIn (M := model prog w) X T.ca
  repeat (any_goals (first | assumption | (with_reducible refine wpAny_loadPart_at hx ?_; rw [hc]) | with_reducible refine L1.at ?_ | wp_step))
  refine exc_class_get X T hx hc ?_
  repeat (any_goals (first | assumption | wp_step))
theorem exc_check_ga {M : Model} {nameV : Value} {Q : Unit → Shared → Prop} (X : K.In h) (T : ExcC K C) (hx : h.get? a = some o) (hc : o.cls = .ref C) (hq : Q () ⟨h, g, d, t, os⟩) :
    wpAny M A (checkBuiltinCall "BaseException.__getattribute__" ⟨[.ref a, nameV], []⟩) Q E ⟨h, g, d, t, os⟩ := by
  have hk : builtinKind "BaseException.__getattribute__" = some .slot := by decide +kernel
  have hsplit : splitId "BaseException.__getattribute__" = some ("BaseException", "__getattribute__") := by decide +kernel
  have ha := F.args_bexc_ga (.ref a) nameV
  have L1 := looks_mroIn (M := M) X T.be
  simp only [checkBuiltinCall, hk, hsplit]
  refine wpAny_bind ?_
  · unfold isInstance
    repeat (first | (with_reducible refine wpAny_loadPart_at hx ?_; rw [hc]) | with_reducible refine L1.at ?_ | wp_step)
    exact hq
theorem exc_class_by {tk : Tok} {Q : Value → Shared → Prop} (X : K.In h) (T : ExcC K C) (hx : h.get? a = some o) (hc : o.cls = .ref C) (hq : Q (.ref C) ⟨h, g, d, t, os⟩) :
    wpAny (model prog w) A (getAttrBy (.ref a) (.str "__class__" tk) false) Q E ⟨h, g, d, t, os⟩ := by
  have FB := PySem.F.attrBase_ValueError
  have f3 := FB.ga.bind (.ref a)
  have hx0 : (false && onTheHeap (Value.builtin "BaseException.__getattribute__")) = false := rfl
  have hx2 : (Value.builtin "BaseException.__getattribute__" == Value.builtin "object.__getattribute__") = false := by decide +kernel
  have hx1 : (onTheHeap (Value.ref C) && Value.builtin "BaseException.__getattribute__" == Value.builtin "object.__getattribute__") = false := by rw [hx2]; rfl
  have L1 := looks_findIn (M := model prog w) X T.ga
  have L2 := looks_findIn (M := model prog w) X T.gt
  repeat (any_goals (first | assumption | (with_reducible refine wpAny_loadPart_at hx ?_; rw [hc]) | with_reducible refine L1.at ?_ | with_reducible refine L2.at ?_ | wp_step))
  refine codeAny_call_builtin FB.ga.plain F.entry_bexc_ga (exc_check_ga X T hx hc (exc_class_entry X T hx hc ?_))
  repeat (any_goals (first | assumption | wp_step))
theorem exc_class_attr {Q : Option Value → Shared → Prop} (X : K.In h) (T : ExcC K C) (hx : h.get? a = some o) (hc : o.cls = .ref C) (hq : Q (some (.ref C)) ⟨h, g, d, t + 1, os⟩) :
    wpAny (model prog w) A (getAttr? (.ref a) "__class__") Q E ⟨h, g, d, t, os⟩ := by
  unfold getAttr? getAttrBy?
  repeat (any_goals (first | assumption | with_reducible apply exc_class_by X T hx hc | wp_step))
end
theorem kitx_exc {K : Frag} {a C : Addr} (T : ExcC K C) : KitX K (.ref a) (.ref C) (ExcAt a C) where
  ty := fun M h _ p => by
    obtain ⟨o, vs, h1, h2, _⟩ := p
    exact h2 ▸ (Looks.ld h1).andThen .now
  it := fun _ _ X _ => by
    obtain ⟨cdD, hcD⟩ := Option.isSome_iff_exists.mp T.cls
    unfold clsIn at hcD
    split at hcD
    · rename_i c' d' cd' sl' ho
      intro A' Q' E' s' k q
      unfold isType loadHead
      exact wpAny_bind (wpAny_loadPart (k _ _ (X _ _ ho)) (wpAny_pure q))
    · cases hcD
  ne := fun h tp dd its n sl X htp => by
    obtain ⟨cdD, hcD⟩ := Option.isSome_iff_exists.mp T.cls
    refine Bool.eq_false_iff.mpr fun q => ?_
    have e : C = tp := Value.ref.inj (beq_iff_eq.mp q)
    subst e
    unfold clsIn at hcD
    split at hcD
    · rename_i c' d' cd' sl' ho
      have z := (X _ _ ho).symm.trans htp
      cases z
    · cases hcD
  ca := fun {_ _ _ _ _ s} X p k => by
    obtain ⟨o, vs, h1, h2, _⟩ := p
    obtain ⟨hh, g, d, t, os⟩ := s
    exact exc_class_attr X T h1 h2 k
noncomputable def excO (a C : Addr) : HO := .ext (ExcAt a C)
inductive TyX (K : Frag) (H : Hp) : V → Value → Prop where
  | of {x : V} {t : Value} (h : TyOf K H x t) : TyX K H x t
  | exc {a C : Addr} (T : ExcC K C) (e : H a = some (excO a C)) : TyX K H (.ref a) (.ref C)
theorem isinst_x {X : Cx} {pins : List (Addr × Obj)} {σ : St} {H : Hp} {s : Shared} {A : Around} {E : Value → Shared → Prop} {Q : Value → Shared → Prop} {c : Value} {b : Bool} {x : V} {u t : Value} (I : Inv X pins σ H s) (rx : RelV x u) (ty : TyX X.K H x t)
    (e : kitOne X.K t c = some b) (h : ∀ tk, Q (.bool b) { s with toks := tk }) : wpAny (model X.prog X.w) A (call (.builtin "isinstance") [u, c]) Q E s := by
  cases ty with
  | of ty => exact isinst_ok I rx ty e h
  | @exc a C T ea =>
    cases (show u = Value.ref a from rx)
    obtain ⟨p, _, _⟩ := (show ObjOk X.prog X.w H s.heap a (excO a C) from I.hok a _ ea)
    exact kia_one (kitx_exc T) I.kIn p e (fun z => nomatch z) h
noncomputable def clsV : V → Option Value
  | .ref a => some (.ref a)
  | .ty n => some (.type n)
  | _ => none
theorem clsV_rel {x : V} {c u : Value} (h : clsV x = some c) (r : RelV x u) : u = c := by
  cases x with
  | ref a => cases h; exact r
  | ty n => cases h; exact r
  | _ => cases h
noncomputable def rIsi (K : Frag) : List V → Hp → VK → Prop := fun xs H Q => ∃ x t vc c b, xs = [x, vc] ∧ TyX K H x t ∧ clsV vc = some c ∧ kitOne K t c = some b ∧ Q (.bl b) H
theorem call_isi {X : Cx} : CallR X (.builtin "isinstance") (rIsi X.K) := by
  intro pins s σ H xs us Q I rv h
  obtain ⟨x, t, vc, c, b, rfl, ty, rc, e, q⟩ := h
  obtain ⟨u, v, rfl, r1, r2⟩ := rv.two
  rw [clsV_rel rc r2]
  exact isinst_x I r1 ty e fun tk => ⟨.bl b, H, I.tok _, rfl, q⟩
end L2
set_option Elab.async false
set_option linter.all false
set_option maxRecDepth 100000
namespace L2
open PySem PySem.Spec PyProof.Rows PySem.W
section
variable {X : Cx} {CX : CXT} {k : Nat} {f : Addr} {fd : FuncData} {ps : List Str} {sp : Sp} {dvs : List V} {ds : List Value} {E : XK} {x : Str} {p pos : Pos} {e : Expr} {es : List Expr} {te : TE} {t : TA} {pins : List (Addr × Obj)} {σ : St} {ta tb : TS}
end
noncomputable abbrev hdCx (X : Cx) (a : Addr) : Cx := { X with A := X.A.mark (some (.ref a)), calm := false, xe := fun _ _ => False }
theorem Inv.hd {X : Cx} {pins : List (Addr × Obj)} {σ : St} {H : Hp} {s : Shared} {a : Addr} (I : Inv X pins σ H s) : Inv (hdCx X a) pins σ H s :=
  ⟨⟨I.ok.mod, I.ok.kind, I.ok.glob, I.ok.blt, I.ok.above, I.ok.inj, I.ok.has, I.ok.cab, fun z => Bool.noConfusion z, I.ok.frames, I.ok.stk, I.ok.exf, I.ok.bs, I.ok.bsz, I.ok.noex, I.ok.exfs, I.ok.funs, I.ok.frf⟩, I.os, I.bare, I.base, I.loc, I.cell, I.free, I.freeC, I.pin, I.hok, I.len⟩
end L2
set_option Elab.async false
set_option linter.all false
set_option maxRecDepth 100000
namespace L2
open PySem PySem.Spec PyProof.Rows PySem.W
inductive DV where
  | non | bl (b : Bool) | int (i : Int) | str (x : Str) | lst (xs : List DV) | tup (xs : List DV)
mutual
noncomputable def eqD : DV → DV → Bool
  | .non, .non => true
  | .bl a, .bl b => a == b
  | .bl a, .int b => (if a then 1 else 0) == b
  | .int a, .bl b => a == (if b then 1 else 0)
  | .int a, .int b => a == b
  | .str a, .str b => a == b
  | .lst a, .lst b => eqDs a b
  | .tup a, .tup b => eqDs a b
  | _, _ => false
noncomputable def eqDs : List DV → List DV → Bool
  | [], [] => true
  | a :: r, b :: t => eqD a b && eqDs r t
  | _, _ => false
end
mutual
noncomputable def ht : DV → Nat
  | .lst xs => hts xs + 1
  | .tup xs => hts xs + 1
  | _ => 0
noncomputable def hts : List DV → Nat
  | [] => 0
  | a :: r => max (ht a) (hts r)
end
theorem ht_lst (ds : List DV) : ht (.lst ds) = hts ds + 1 := by unfold ht; rfl
theorem ht_tup (ds : List DV) : ht (.tup ds) = hts ds + 1 := by unfold ht; rfl
mutual
inductive Deep (K : Frag) (H : Hp) : V → DV → Prop where
  | non : Deep K H .non .non
  | bl (b : Bool) : Deep K H (.bl b) (.bl b)
  | int (i : Int) : Deep K H (.int i) (.int i)
  | str (x : Str) : Deep K H (.str x) (.str x)
  | lst {a : Addr} {xs : List V} {ds : List DV} (h : SqL K H a xs) (t : Deeps K H xs ds) : Deep K H (.ref a) (.lst ds)
  | tup {a : Addr} {xs : List V} {ds : List DV} (h : SqT K H a xs) (t : Deeps K H xs ds) : Deep K H (.ref a) (.tup ds)
inductive Deeps (K : Frag) (H : Hp) : List V → List DV → Prop where
  | nil : Deeps K H [] []
  | cons {x : V} {d : DV} {xs : List V} {ds : List DV} (h : Deep K H x d) (t : Deeps K H xs ds) : Deeps K H (x :: xs) (d :: ds)
end
theorem Deeps.length {K : Frag} {H : Hp} : ∀ {xs : List V} {ds : List DV}, Deeps K H xs ds → xs.length = ds.length
  | _, _, .nil => rfl
  | _, _, .cons _ t => by rw [List.length_cons, List.length_cons, Deeps.length t]
theorem Deeps.get {K : Frag} {H : Hp} : ∀ {xs : List V} {ds : List DV} {i : Nat} {d : DV}, Deeps K H xs ds → ds[i]? = some d → ∃ x, xs[i]? = some x ∧ Deep K H x d
  | _, _, _, _, .nil, e => by simp at e
  | _, _, 0, _, .cons h _, e => by simp at e; subst e; exact ⟨_, rfl, h⟩
  | _, _, i + 1, d, .cons _ t, e => by
    obtain ⟨x, h1, h2⟩ := Deeps.get (i := i) (d := d) t (by simpa using e)
    exact ⟨x, by simpa using h1, h2⟩
theorem Deeps.ints {K : Frag} {H : Hp} : ∀ ns : List Int, Deeps K H (ns.map V.int) (ns.map DV.int)
  | [] => .nil
  | n :: r => .cons (.int n) (Deeps.ints r)
theorem eqDs_len : ∀ {a b : List DV}, eqDs a b = true → a.length = b.length
  | [], [], _ => rfl
  | a :: r, b :: t, h => by
    unfold eqDs at h
    rw [Bool.and_eq_true] at h
    rw [List.length_cons, List.length_cons, eqDs_len h.2]
  | [], _ :: _, h => by unfold eqDs at h; cases h
  | _ :: _, [], h => by unfold eqDs at h; cases h
noncomputable def eAt (ds es : List DV) (j : Nat) : Bool := match ds[j]?, es[j]? with
  | some d, some e => eqD d e
  | _, _ => true
theorem all_eAt : ∀ (ds es : List DV), ds.length = es.length → (List.range ds.length).all (eAt ds es) = eqDs ds es
  | [], [], _ => by unfold eqDs; rfl
  | d :: r, e :: t, h => by
    have ih := all_eAt r t (by simpa using h)
    rw [List.length_cons, List.range_succ_eq_map, List.all_cons, List.all_map]
    unfold eqDs
    rw [← ih]
    congr 1
  | [], _ :: _, h => by cases h
  | _ :: _, [], h => by cases h
theorem all_eAt_min : ∀ (ds es : List DV), ((List.range (min ds.length es.length)).all (eAt ds es) && ds.length == es.length) = eqDs ds es := fun ds es => by
  by_cases h : ds.length = es.length
  · rw [h, Nat.min_self, ← h, all_eAt ds es h]; simp
  · have h1 : (ds.length == es.length) = false := by simpa using h
    rw [h1, Bool.and_false]
    cases q : eqDs ds es with
    | false => rfl
    | true => exact absurd (eqDs_len q) h
theorem hts_get : ∀ {ds : List DV} {i : Nat} {d : DV}, ds[i]? = some d → ht d ≤ hts ds
  | [], _, _, e => by simp at e
  | a :: r, 0, d, e => by simp at e; subst e; unfold hts; exact Nat.le_max_left _ _
  | a :: r, i + 1, d, e => by
    have := hts_get (ds := r) (i := i) (d := d) (by simpa using e)
    unfold hts; exact Nat.le_trans this (Nat.le_max_right _ _)
section
variable {X : Cx} {pins : List (Addr × Obj)} {σ : St} {H : Hp} {s : Shared}
theorem lt_ne {a : Addr} {xs ys : List V} (I : Inv X pins σ H s) (h1 : SqL X.K H a xs) (h2 : SqT X.K H a ys) : False := by
  obtain ⟨its, _, p, _⟩ := I.list h1
  obtain ⟨its2, _, q, _⟩ := I.tuple h2
  exact SeqAt.ne_of_list_tuple p.isList (show s.heap.IsTuple a its2.toArray from q) rfl
mutual
theorem Deep.inj (I : Inv X pins σ H s) : ∀ {d : DV} {x : V} {e : DV}, Deep X.K H x d → Deep X.K H x e → d = e
  | .non, _, _, .non, h => by cases h; rfl
  | .bl b, _, _, .bl _, h => by cases h; rfl
  | .int b, _, _, .int _, h => by cases h; rfl
  | .str b, _, _, .str _, h => by cases h; rfl
  | .lst ds, _, _, .lst h t, h' => by
    cases h' with
    | lst h2 t2 =>
      have e := I.list_inj h h2
      subst e
      rw [Deeps.inj I t t2]
    | tup h2 t2 => exact (lt_ne I h h2).elim
  | .tup ds, _, _, .tup h t, h' => by
    cases h' with
    | tup h2 t2 =>
      have e := I.tuple_inj h h2
      subst e
      rw [Deeps.inj I t t2]
    | lst h2 t2 => exact (lt_ne I h2 h).elim
theorem Deeps.inj (I : Inv X pins σ H s) : ∀ {ds : List DV} {xs : List V} {es : List DV}, Deeps X.K H xs ds → Deeps X.K H xs es → ds = es
  | [], _, _, .nil, h => by cases h; rfl
  | d :: ds, _, _, .cons h t, h' => by
    cases h' with
    | cons h2 t2 => rw [Deep.inj I h h2, Deeps.inj I t t2]
end
mutual
theorem eqD_refl : ∀ d : DV, eqD d d = true
  | .non => by unfold eqD; rfl
  | .bl b => by unfold eqD; simp
  | .int b => by unfold eqD; simp
  | .str b => by unfold eqD; simp
  | .lst ds => by unfold eqD; exact eqDs_refl ds
  | .tup ds => by unfold eqD; exact eqDs_refl ds
theorem eqDs_refl : ∀ ds : List DV, eqDs ds ds = true
  | [] => by unfold eqDs; rfl
  | d :: r => by unfold eqDs; rw [eqD_refl d, eqDs_refl r]; rfl
end
theorem items_eq {A : Around} {xs ys : List V} {us vs : List Value} {ds es : List DV} (rx : Vals xs us) (ry : Vals ys vs) (t1 : Deeps X.K H xs ds) (t2 : Deeps X.K H ys es)
    (ih : ∀ d ∈ ds, ∀ (e : DV) (x y : V) (u v : Value), Deep X.K H x d → Deep X.K H y e → RelV x u → RelV y v → SeqAt.EqAt A s u v (eqD d e)) (j : Nat) (h1 : j < us.toArray.size) (h2 : j < vs.toArray.size) :
    SeqAt.EqAt A s us.toArray[j] vs.toArray[j] (eAt ds es j) := by
  have l1 := rx.length
  have l2 := ry.length
  have m1 := t1.length
  have m2 := t2.length
  simp only [List.size_toArray] at h1 h2
  have g1 : ds[j]? = some ds[j] := List.getElem?_eq_getElem (by trivial)
  have g2 : es[j]? = some es[j] := List.getElem?_eq_getElem (by trivial)
  obtain ⟨x, ex, dx⟩ := t1.get g1
  obtain ⟨y, ey, dy⟩ := t2.get g2
  obtain ⟨u, eu, ru⟩ := rx.get ex
  obtain ⟨v, ev, rv⟩ := ry.get ey
  have e1 : us.toArray[j] = u := by
    rw [List.getElem_toArray]
    exact Option.some.inj ((List.getElem?_eq_getElem h1).symm.trans eu)
  have e2 : vs.toArray[j] = v := by
    rw [List.getElem_toArray]
    exact Option.some.inj ((List.getElem?_eq_getElem h2).symm.trans ev)
  have e3 : eAt ds es j = eqD ds[j] es[j] := by unfold eAt; rw [g1, g2]
  rw [e1, e2, e3]
  exact ih _ (List.getElem_mem _) _ x y u v dx dy ru rv
theorem rc_deep (I : Inv X pins σ H s) {A : Around} (d e : DV) (x y : V) (u v : Value) (hx : Deep X.K H x d) (hy : Deep X.K H y e) (rx : RelV x u) (ry : RelV y v) (hu : A.units < cLine)
    (ih : ∀ (d' : DV), ht d' < ht d → ∀ (e : DV) (x y : V) (u v : Value), Deep X.K H x d' → Deep X.K H y e → RelV x u → RelV y v → SeqAt.EqAt A.in1 s u v (eqD d' e)) : SeqAt.RcAt A s u v (eqD d e) := by
  have hlt : ∀ {ds : List DV} {d' : DV}, d' ∈ ds → ht d' < hts ds + 1 := fun {ds d'} hm => by
    obtain ⟨i, hi, e⟩ := List.getElem_of_mem hm
    exact Nat.lt_succ_of_le (hts_get (i := i) (by rw [List.getElem?_eq_getElem hi, e]))
  cases hx with
  | non =>
    cases (show u = Value.none from rx)
    cases hy with
    | non => cases (show v = Value.none from ry); unfold eqD; exact SeqAt.RcAt.none_none
    | bl b => cases (show v = Value.bool b from ry); unfold eqD; exact SeqAt.RcAt.none_bool b
    | int b => obtain ⟨t, rfl⟩ := ry; unfold eqD; exact SeqAt.RcAt.none_int b t
    | str b => obtain ⟨t, rfl⟩ := ry; unfold eqD; exact SeqAt.RcAt.none_str b t
    | lst h t => cases ry; obtain ⟨its, r, p, _⟩ := I.list h; unfold eqD; exact SeqAt.RcAt.none_list p.isList hu
    | tup h t => cases ry; obtain ⟨its, r, p, _⟩ := I.tuple h; unfold eqD; exact SeqAt.RcAt.none_tuple (show s.heap.IsTuple _ its.toArray from p) hu
  | bl a =>
    cases (show u = Value.bool a from rx)
    cases hy with
    | non => cases (show v = Value.none from ry); unfold eqD; exact SeqAt.RcAt.bool_none a
    | bl b => cases (show v = Value.bool b from ry); unfold eqD; exact SeqAt.RcAt.bool_bool a b
    | int b => obtain ⟨t, rfl⟩ := ry; unfold eqD; exact SeqAt.RcAt.bool_int a b t
    | str b => obtain ⟨t, rfl⟩ := ry; unfold eqD; exact SeqAt.RcAt.bool_str a b t
    | lst h t => cases ry; obtain ⟨its, r, p, _⟩ := I.list h; unfold eqD; exact SeqAt.RcAt.bool_list a p.isList hu
    | tup h t => cases ry; obtain ⟨its, r, p, _⟩ := I.tuple h; unfold eqD; exact SeqAt.RcAt.bool_tuple a (show s.heap.IsTuple _ its.toArray from p) hu
  | int a =>
    obtain ⟨t', rfl⟩ := rx
    cases hy with
    | non => cases (show v = Value.none from ry); unfold eqD; exact SeqAt.RcAt.int_none a t'
    | bl b => cases (show v = Value.bool b from ry); unfold eqD; exact SeqAt.RcAt.int_bool a t' b
    | int b => obtain ⟨t, rfl⟩ := ry; unfold eqD; exact SeqAt.RcAt.int_int a t' b t
    | str b => obtain ⟨t, rfl⟩ := ry; unfold eqD; exact SeqAt.RcAt.int_str a t' b t
    | lst h t => cases ry; obtain ⟨its, r, p, _⟩ := I.list h; unfold eqD; exact SeqAt.RcAt.int_list a t' p.isList hu
    | tup h t => cases ry; obtain ⟨its, r, p, _⟩ := I.tuple h; unfold eqD; exact SeqAt.RcAt.int_tuple a t' (show s.heap.IsTuple _ its.toArray from p) hu
  | str a =>
    obtain ⟨t', rfl⟩ := rx
    cases hy with
    | non => cases (show v = Value.none from ry); unfold eqD; exact SeqAt.RcAt.str_none a t'
    | bl b => cases (show v = Value.bool b from ry); unfold eqD; exact SeqAt.RcAt.str_bool a t' b
    | int b => obtain ⟨t, rfl⟩ := ry; unfold eqD; exact SeqAt.RcAt.str_int a t' b t
    | str b => obtain ⟨t, rfl⟩ := ry; unfold eqD; exact SeqAt.RcAt.str_str a t' b t
    | lst h t => cases ry; obtain ⟨its, r, p, _⟩ := I.list h; unfold eqD; exact SeqAt.RcAt.str_list a t' p.isList hu
    | tup h t => cases ry; obtain ⟨its, r, p, _⟩ := I.tuple h; unfold eqD; exact SeqAt.RcAt.str_tuple a t' (show s.heap.IsTuple _ its.toArray from p) hu
  | @lst a xs ds h t1 =>
    cases rx
    obtain ⟨its, r, p, _⟩ := I.list h
    cases hy with
    | non => cases (show v = Value.none from ry); unfold eqD; exact SeqAt.RcAt.list_none p.isList hu
    | bl b => cases (show v = Value.bool b from ry); unfold eqD; exact SeqAt.RcAt.list_bool b p.isList hu
    | int b => obtain ⟨t, rfl⟩ := ry; unfold eqD; exact SeqAt.RcAt.list_int b t p.isList hu
    | str b => obtain ⟨t, rfl⟩ := ry; unfold eqD; exact SeqAt.RcAt.list_str b t p.isList hu
    | @lst b ys es h2 t2 =>
      cases ry
      obtain ⟨its2, r2, p2, _⟩ := I.list h2
      have l1 := r.length
      have l2 := r2.length
      have m1 := t1.length
      have m2 := t2.length
      have it := items_eq (A := A.in1) r r2 t1 t2 fun d' hd' e x y u v a b c d => ih d' (by rw [ht_lst]; exact hlt hd') e x y u v a b c d
      unfold eqD
      by_cases hl : ds.length = es.length
      · have q := SeqAt.RcAt.lists (e := eAt ds es) p.isList p2.isList (by simp only [List.size_toArray]; trivial) hu it
        rw [← all_eAt ds es hl]
        have e1 : its.toArray.size = ds.length := by simp only [List.size_toArray]; trivial
        rw [e1] at q
        exact q
      · have q := SeqAt.RcAt.lists_lengths (A := A) p.isList p2.isList (by simp only [List.size_toArray, bne_iff_ne]; trivial) hu
        cases z : eqDs ds es with
        | false => exact q
        | true => exact absurd (eqDs_len z) hl
    | @tup b ys es h2 t2 =>
      cases ry
      obtain ⟨its2, r2, p2, _⟩ := I.tuple h2
      unfold eqD
      exact SeqAt.RcAt.list_tuple p.isList (show s.heap.IsTuple b its2.toArray from p2) hu
  | @tup a xs ds h t1 =>
    cases rx
    obtain ⟨its, r, p, _⟩ := I.tuple h
    have p' : s.heap.IsTuple a its.toArray := p
    cases hy with
    | non => cases (show v = Value.none from ry); unfold eqD; exact SeqAt.RcAt.tuple_none p' hu
    | bl b => cases (show v = Value.bool b from ry); unfold eqD; exact SeqAt.RcAt.tuple_bool b p' hu
    | int b => obtain ⟨t, rfl⟩ := ry; unfold eqD; exact SeqAt.RcAt.tuple_int b t p' hu
    | str b => obtain ⟨t, rfl⟩ := ry; unfold eqD; exact SeqAt.RcAt.tuple_str b t p' hu
    | @lst b ys es h2 t2 =>
      cases ry
      obtain ⟨its2, r2, p2, _⟩ := I.list h2
      unfold eqD
      exact SeqAt.RcAt.tuple_list p' p2.isList hu
    | @tup b ys es h2 t2 =>
      cases ry
      obtain ⟨its2, r2, p2, _⟩ := I.tuple h2
      have p2' : s.heap.IsTuple b its2.toArray := p2
      have l1 := r.length
      have l2 := r2.length
      have m1 := t1.length
      have m2 := t2.length
      have it := items_eq (A := A.in1) r r2 t1 t2 fun d' hd' e x y u v a b c d => ih d' (by rw [ht_tup]; exact hlt hd') e x y u v a b c d
      unfold eqD
      have q := SeqAt.RcAt.tuples (e := eAt ds es) p' p2' hu it
      have e1 : its.toArray.size = ds.length := by simp only [List.size_toArray]; trivial
      have e2 : its2.toArray.size = es.length := by simp only [List.size_toArray]; trivial
      rw [e1, e2, all_eAt_min] at q
      exact q
theorem eq_deep (I : Inv X pins σ H s) : ∀ (n : Nat) {A : Around} (d : DV), ht d ≤ n → A.units + n < cLine → ∀ (e : DV) (x y : V) (u v : Value), Deep X.K H x d → Deep X.K H y e → RelV x u → RelV y v → SeqAt.EqAt A s u v (eqD d e) := by
  intro n
  induction n with
  | zero =>
    intro A d hd hu e x y u v hx hy rx ry
    have rc := rc_deep I (A := A) d e x y u v hx hy rx ry (by trivial) (fun d' h => absurd h (by trivial))
    exact eq_of_rc I hx hy rx ry rc
  | succ n ihn =>
    intro A d hd hu e x y u v hx hy rx ry
    have rc := rc_deep I (A := A) d e x y u v hx hy rx ry (by trivial) (fun d' h => ihn (A := A.in1) d' (by trivial) (by rw [Around.in1_units]; trivial))
    exact eq_of_rc I hx hy rx ry rc
where
  eq_of_rc (I : Inv X pins σ H s) {A : Around} {d e : DV} {x y : V} {u v : Value} (hx : Deep X.K H x d) (hy : Deep X.K H y e) (rx : RelV x u) (ry : RelV y v) (rc : SeqAt.RcAt A s u v (eqD d e)) : SeqAt.EqAt A s u v (eqD d e) := by
    intro prog w E Q hq
    unfold eqBool
    refine wpAny_holding ?_
    refine wpAny_ite_split (fun hab => ?_) (fun hab => ?_)
    · have e1 : x = y := by
        have e0 := eq_of_beq hab
        rw [e0] at rx
        exact rx.inj ry
      subst e1
      have e2 := Deep.inj I hx hy
      subst e2
      rw [eqD_refl] at hq
      exact wpAny_bind (wpAny_rule (wpAny_pure hq))
    · cases hx <;> cases hy <;> first
        | (cases rx; cases ry; exact wpAny_bind (rc prog w E _ (wpAny_truthy_bool hq)))
        | (obtain ⟨t, rfl⟩ := rx; cases ry; exact wpAny_bind (rc prog w E _ (wpAny_truthy_bool hq)))
        | (cases rx; obtain ⟨t, rfl⟩ := ry; exact wpAny_bind (rc prog w E _ (wpAny_truthy_bool hq)))
        | (obtain ⟨t, rfl⟩ := rx; obtain ⟨t', rfl⟩ := ry; exact wpAny_bind (rc prog w E _ (wpAny_truthy_bool hq)))
theorem rcne_deep (I : Inv X pins σ H s) {A : Around} (d e : DV) (x y : V) (u v : Value) (hx : Deep X.K H x d) (hy : Deep X.K H y e) (rx : RelV x u) (ry : RelV y v) (hu : A.units < cLine)
    (ih : ∀ (d' : DV), ht d' < ht d → ∀ (e : DV) (x y : V) (u v : Value), Deep X.K H x d' → Deep X.K H y e → RelV x u → RelV y v → SeqAt.EqAt A.in1 s u v (eqD d' e)) : SeqAt.RcNeAt A s u v (!eqD d e) := by
  have hlt : ∀ {ds : List DV} {d' : DV}, d' ∈ ds → ht d' < hts ds + 1 := fun {ds d'} hm => by
    obtain ⟨i, hi, e⟩ := List.getElem_of_mem hm
    exact Nat.lt_succ_of_le (hts_get (i := i) (by rw [List.getElem?_eq_getElem hi, e]))
  cases hx with
  | non =>
    cases (show u = Value.none from rx)
    cases hy with
    | non => cases (show v = Value.none from ry); unfold eqD; exact SeqAt.RcNeAt.none_none
    | bl b => cases (show v = Value.bool b from ry); unfold eqD; exact SeqAt.RcNeAt.none_bool b
    | int b => obtain ⟨t, rfl⟩ := ry; unfold eqD; exact SeqAt.RcNeAt.none_int b t
    | str b => obtain ⟨t, rfl⟩ := ry; unfold eqD; exact SeqAt.RcNeAt.none_str b t
    | lst h t => cases ry; obtain ⟨its, r, p, _⟩ := I.list h; unfold eqD; exact SeqAt.RcNeAt.none_list p.isList hu
    | tup h t => cases ry; obtain ⟨its, r, p, _⟩ := I.tuple h; unfold eqD; exact SeqAt.RcNeAt.none_tuple (show s.heap.IsTuple _ its.toArray from p) hu
  | bl a =>
    cases (show u = Value.bool a from rx)
    cases hy with
    | non => cases (show v = Value.none from ry); unfold eqD; exact SeqAt.RcNeAt.bool_none a
    | bl b => cases (show v = Value.bool b from ry); unfold eqD; exact SeqAt.RcNeAt.bool_bool a b
    | int b => obtain ⟨t, rfl⟩ := ry; unfold eqD; exact SeqAt.RcNeAt.bool_int a b t
    | str b => obtain ⟨t, rfl⟩ := ry; unfold eqD; exact SeqAt.RcNeAt.bool_str a b t
    | lst h t => cases ry; obtain ⟨its, r, p, _⟩ := I.list h; unfold eqD; exact SeqAt.RcNeAt.bool_list a p.isList hu
    | tup h t => cases ry; obtain ⟨its, r, p, _⟩ := I.tuple h; unfold eqD; exact SeqAt.RcNeAt.bool_tuple a (show s.heap.IsTuple _ its.toArray from p) hu
  | int a =>
    obtain ⟨t', rfl⟩ := rx
    cases hy with
    | non => cases (show v = Value.none from ry); unfold eqD; exact SeqAt.RcNeAt.int_none a t'
    | bl b => cases (show v = Value.bool b from ry); unfold eqD; exact SeqAt.RcNeAt.int_bool a t' b
    | int b => obtain ⟨t, rfl⟩ := ry; unfold eqD; exact SeqAt.RcNeAt.int_int a t' b t
    | str b => obtain ⟨t, rfl⟩ := ry; unfold eqD; exact SeqAt.RcNeAt.int_str a t' b t
    | lst h t => cases ry; obtain ⟨its, r, p, _⟩ := I.list h; unfold eqD; exact SeqAt.RcNeAt.int_list a t' p.isList hu
    | tup h t => cases ry; obtain ⟨its, r, p, _⟩ := I.tuple h; unfold eqD; exact SeqAt.RcNeAt.int_tuple a t' (show s.heap.IsTuple _ its.toArray from p) hu
  | str a =>
    obtain ⟨t', rfl⟩ := rx
    cases hy with
    | non => cases (show v = Value.none from ry); unfold eqD; exact SeqAt.RcNeAt.str_none a t'
    | bl b => cases (show v = Value.bool b from ry); unfold eqD; exact SeqAt.RcNeAt.str_bool a t' b
    | int b => obtain ⟨t, rfl⟩ := ry; unfold eqD; exact SeqAt.RcNeAt.str_int a t' b t
    | str b => obtain ⟨t, rfl⟩ := ry; unfold eqD; exact SeqAt.RcNeAt.str_str a t' b t
    | lst h t => cases ry; obtain ⟨its, r, p, _⟩ := I.list h; unfold eqD; exact SeqAt.RcNeAt.str_list a t' p.isList hu
    | tup h t => cases ry; obtain ⟨its, r, p, _⟩ := I.tuple h; unfold eqD; exact SeqAt.RcNeAt.str_tuple a t' (show s.heap.IsTuple _ its.toArray from p) hu
  | @lst a xs ds h t1 =>
    cases rx
    obtain ⟨its, r, p, _⟩ := I.list h
    cases hy with
    | non => cases (show v = Value.none from ry); unfold eqD; exact SeqAt.RcNeAt.list_none p.isList hu
    | bl b => cases (show v = Value.bool b from ry); unfold eqD; exact SeqAt.RcNeAt.list_bool b p.isList hu
    | int b => obtain ⟨t, rfl⟩ := ry; unfold eqD; exact SeqAt.RcNeAt.list_int b t p.isList hu
    | str b => obtain ⟨t, rfl⟩ := ry; unfold eqD; exact SeqAt.RcNeAt.list_str b t p.isList hu
    | @lst b ys es h2 t2 =>
      cases ry
      obtain ⟨its2, r2, p2, _⟩ := I.list h2
      have l1 := r.length
      have l2 := r2.length
      have m1 := t1.length
      have m2 := t2.length
      have it := items_eq (A := A.in1) r r2 t1 t2 fun d' hd' e x y u v a b c d => ih d' (by rw [ht_lst]; exact hlt hd') e x y u v a b c d
      unfold eqD
      by_cases hl : ds.length = es.length
      · have q := SeqAt.RcNeAt.lists (e := eAt ds es) p.isList p2.isList (by simp only [List.size_toArray]; trivial) hu it
        rw [← all_eAt ds es hl]
        have e1 : its.toArray.size = ds.length := by simp only [List.size_toArray]; trivial
        rw [e1] at q
        exact q
      · have q := SeqAt.RcNeAt.lists_lengths (A := A) p.isList p2.isList (by simp only [List.size_toArray, bne_iff_ne]; trivial) hu
        cases z : eqDs ds es with
        | false => exact q
        | true => exact absurd (eqDs_len z) hl
    | @tup b ys es h2 t2 =>
      cases ry
      obtain ⟨its2, r2, p2, _⟩ := I.tuple h2
      unfold eqD
      exact SeqAt.RcNeAt.list_tuple p.isList (show s.heap.IsTuple b its2.toArray from p2) hu
  | @tup a xs ds h t1 =>
    cases rx
    obtain ⟨its, r, p, _⟩ := I.tuple h
    have p' : s.heap.IsTuple a its.toArray := p
    cases hy with
    | non => cases (show v = Value.none from ry); unfold eqD; exact SeqAt.RcNeAt.tuple_none p' hu
    | bl b => cases (show v = Value.bool b from ry); unfold eqD; exact SeqAt.RcNeAt.tuple_bool b p' hu
    | int b => obtain ⟨t, rfl⟩ := ry; unfold eqD; exact SeqAt.RcNeAt.tuple_int b t p' hu
    | str b => obtain ⟨t, rfl⟩ := ry; unfold eqD; exact SeqAt.RcNeAt.tuple_str b t p' hu
    | @lst b ys es h2 t2 =>
      cases ry
      obtain ⟨its2, r2, p2, _⟩ := I.list h2
      unfold eqD
      exact SeqAt.RcNeAt.tuple_list p' p2.isList hu
    | @tup b ys es h2 t2 =>
      cases ry
      obtain ⟨its2, r2, p2, _⟩ := I.tuple h2
      have p2' : s.heap.IsTuple b its2.toArray := p2
      have l1 := r.length
      have l2 := r2.length
      have m1 := t1.length
      have m2 := t2.length
      have it := items_eq (A := A.in1) r r2 t1 t2 fun d' hd' e x y u v a b c d => ih d' (by rw [ht_tup]; exact hlt hd') e x y u v a b c d
      unfold eqD
      have q := SeqAt.RcNeAt.tuples (e := eAt ds es) p' p2' hu it
      have e1 : its.toArray.size = ds.length := by simp only [List.size_toArray]; trivial
      have e2 : its2.toArray.size = es.length := by simp only [List.size_toArray]; trivial
      rw [e1, e2, all_eAt_min] at q
      exact q
end
noncomputable def rEqD (K : Frag) : R2 := fun x y H Q => ∃ d e, Deep K H x d ∧ Deep K H y e ∧ ht d ≤ 60 ∧ Q (.bl (eqD d e)) H
theorem op_eqD {X : Cx} (hu : X.A.units + 64 < cLine) : OpR X (compareOp .Eq) (rEqD X.K) := by
  intro pins s σ H x y v u Q I rx ry h
  obtain ⟨d, e, hx, hy, hh, q⟩ := h
  have rc := rc_deep I (A := X.A) d e x y v u hx hy rx ry (by trivial) (fun d' h => eq_deep I 60 d' (by trivial) (by rw [Around.in1_units]; trivial))
  exact rc X.prog X.w X.xe _ ⟨.bl _, H, I, rfl, q⟩
noncomputable def rNeD (K : Frag) : R2 := fun x y H Q => ∃ d e, Deep K H x d ∧ Deep K H y e ∧ ht d ≤ 60 ∧ Q (.bl (!eqD d e)) H
theorem op_neD {X : Cx} (hu : X.A.units + 64 < cLine) : OpR X (compareOp .NotEq) (rNeD X.K) := by
  intro pins s σ H x y v u Q I rx ry h
  obtain ⟨d, e, hx, hy, hh, q⟩ := h
  have rc := rcne_deep I (A := X.A) d e x y v u hx hy rx ry (by trivial) (fun d' h => eq_deep I 60 d' (by trivial) (by rw [Around.in1_units]; trivial))
  exact rc X.prog X.w X.xe _ ⟨.bl _, H, I, rfl, q⟩
end L2
set_option Elab.async false
set_option linter.all false
set_option maxRecDepth 100000
namespace L2
open PySem PySem.Spec PyProof.Rows PySem.W
noncomputable def compOk (osc : Scope) (XN N : List Str) (js : List (Option Nat)) (scope : Scope) : Bool :=
  scope.names.all (fun y => !(y.2 == NameKind.cell)) && scope.names.all (fun y => !(y.2 == NameKind.local) || scope.names.lookup y.1 == some .local) &&
  scope.names.all (fun y => !(y.2 == NameKind.free) || osc.names.lookup y.1 == some .cell || osc.names.lookup y.1 == some .free) && js.length == N.length &&
  (js.zip N).all (fun p => match p.1 with | none => true | some j => XN[j]? == some p.2 && scope.names.lookup p.2 == some .free)
theorem comp_scope {X : Cx} {N : List Str} {js : List (Option Nat)} {scope : Scope} {osc : Scope} {XN : List Str} (hk : scope.kind = .function) (e1 : X.env.scope = osc) (e2 : X.N = XN) (h : compOk osc XN N js scope = true) : CompScope X N js scope := by
  unfold compOk at h
  simp only [Bool.and_eq_true, List.all_eq_true, Bool.or_eq_true, Bool.not_eq_true', beq_iff_eq] at h
  obtain ⟨⟨⟨⟨h1, h2⟩, h3⟩, h4⟩, h5⟩ := h
  refine ⟨hk, fun y hy z => ?_, fun y hy z => ?_, fun y hy z => ?_, h4, fun i j x ej ex => ?_⟩
  · have := h1 y hy
    rw [z] at this; cases this
  · rcases h2 y hy with q | q
    · rw [z] at q; cases q
    · exact q
  · show X.env.scope.names.lookup y.1 = _ ∨ X.env.scope.names.lookup y.1 = _
    rw [e1]
    rcases h3 y hy with (q | q) | q
    · rw [z] at q; cases q
    · exact .inl q
    · exact .inr q
  · have hm : (some j, x) ∈ js.zip N := by
      refine List.mem_iff_getElem?.mpr ⟨i, ?_⟩
      rw [List.getElem?_zip_eq_some]
      exact ⟨ej, ex⟩
    have q := h5 _ hm
    simp only [Bool.and_eq_true, beq_iff_eq] at q
    rw [e2]
    exact q
noncomputable def CW (n : Nat) (Pv : Nat → St → Hp → Prop) (i m : Nat) (σ : St) (H : Hp) : Prop := m = n - i ∧ i ≤ n ∧ Pv i σ H
theorem CW.next {n : Nat} {Pv : Nat → St → Hp → Prop} {i : Nat} {σ : St} {H : Hp} (hi : i < n) (h : Pv (i + 1) σ H) : ∃ m', m' < n - i ∧ CW n Pv (i + 1) m' σ H := ⟨n - (i + 1), by trivial, rfl, hi, h⟩
theorem comp_rng {lo : Int} {n : Nat} {D : Addr} {σ0 : St} {H1 : Hp} {Q : VK} {g : TG} {tc : TT} {te : TE} (Pv : Nat → St → Hp → Prop) (h0 : Pv 0 σ0 (upd H1 D (.lst [])))
    (hs : ∀ i σ' H', i < n → Pv i σ' H' → g (.int (lo + i)) σ' H' fun σ2 H3 => tc σ2 H3 fun b H4 => if b = true then te σ2 H4 fun v H5 => rAppend (.ref D) [v] H5 fun _ H6 => ∃ m', m' < n - i ∧ CW n Pv (i + 1) m' σ2 H6 else ∃ m', m' < n - i ∧ CW n Pv (i + 1) m' σ2 H4)
    (hd : ∀ σ' H', Pv n σ' H' → Q (.ref D) H') :
    ∃ W : Nat → Nat → St → Hp → Prop, (∃ m, W 0 m σ0 (upd H1 D (.lst []))) ∧ ∀ i m σ' H', W i m σ' H' → ((Itr lo n).stop i H' ∧ Q (.ref D) H') ∨ ((Itr lo n).go i H' ∧ ∀ x H2, (Itr lo n).yld i H' x H2 → g x σ' H2 fun σ2 H3 => tc σ2 H3 fun b H4 =>
      if b = true then te σ2 H4 fun v H5 => rAppend (.ref D) [v] H5 fun _ H6 => ∃ m', m' < m ∧ W (i + 1) m' σ2 H6 else ∃ m', m' < m ∧ W (i + 1) m' σ2 H4) := by
  refine ⟨CW n Pv, ⟨n, rfl, Nat.zero_le _, h0⟩, ?_⟩
  rintro i m σ' H' ⟨rfl, hi, p⟩
  by_cases hlt : i < n
  · refine .inr ⟨hlt, fun x H2 y => ?_⟩
    obtain ⟨e, y⟩ := y
    subst e y
    exact hs i σ' _ hlt p
  · have e : i = n := by trivial
    subst e
    exact .inl ⟨Nat.le_refl _, hd σ' H' p⟩
theorem comp_lst {K : Frag} {a : Addr} {xs : List V} {D : Addr} {σ0 : St} {H1 : Hp} {Q : VK} {g : TG} {tc : TT} {te : TE} (Pv : Nat → St → Hp → Prop) (h0 : Pv 0 σ0 (upd H1 D (.lst []))) (hl : ∀ i σ H, i ≤ xs.length → Pv i σ H → SqL K H a xs)
    (hs : ∀ i x σ' H', xs[i]? = some x → Pv i σ' H' → g x σ' H' fun σ2 H3 => tc σ2 H3 fun b H4 => if b = true then te σ2 H4 fun v H5 => rAppend (.ref D) [v] H5 fun _ H6 => ∃ m', m' < xs.length - i ∧ CW xs.length Pv (i + 1) m' σ2 H6 else ∃ m', m' < xs.length - i ∧ CW xs.length Pv (i + 1) m' σ2 H4)
    (hd : ∀ σ' H', Pv xs.length σ' H' → Q (.ref D) H') :
    ∃ W : Nat → Nat → St → Hp → Prop, (∃ m, W 0 m σ0 (upd H1 D (.lst []))) ∧ ∀ i m σ' H', W i m σ' H' → ((Itl K a).stop i H' ∧ Q (.ref D) H') ∨ ((Itl K a).go i H' ∧ ∀ x H2, (Itl K a).yld i H' x H2 → g x σ' H2 fun σ2 H3 => tc σ2 H3 fun b H4 =>
      if b = true then te σ2 H4 fun v H5 => rAppend (.ref D) [v] H5 fun _ H6 => ∃ m', m' < m ∧ W (i + 1) m' σ2 H6 else ∃ m', m' < m ∧ W (i + 1) m' σ2 H4) := by
  refine ⟨CW xs.length Pv, ⟨xs.length, rfl, Nat.zero_le _, h0⟩, ?_⟩
  rintro i m σ' H' ⟨rfl, hi, p⟩
  have q := hl i σ' H' hi p
  by_cases hlt : i < xs.length
  · refine .inr ⟨⟨xs, xs[i], q, by simp [hlt]⟩, fun x H2 y => ?_⟩
    obtain ⟨e, y⟩ := y
    subst e
    exact hs i x σ' _ (y xs q) p
  · have e : i = xs.length := by trivial
    subst e
    exact .inl ⟨⟨xs, q, Nat.le_refl _⟩, hd σ' H' p⟩
theorem eqDs_ints : ∀ (a b : List Int), eqDs (a.map DV.int) (b.map DV.int) = decide (a = b)
  | [], [] => by unfold eqDs; rfl
  | [], _ :: _ => by simp [eqDs]
  | _ :: _, [] => by simp [eqDs]
  | x :: r, y :: t => by
    rw [List.map_cons, List.map_cons]
    unfold eqDs eqD
    rw [eqDs_ints r t]
    by_cases h : x = y <;> by_cases h2 : r = t <;> simp [h, h2]
theorem hts_ints : ∀ a : List Int, hts (a.map DV.int) = 0
  | [] => by unfold hts; rfl
  | x :: r => by rw [List.map_cons]; unfold hts ht; rw [hts_ints r]; rfl
noncomputable def rEqI (K : Frag) : R2 := fun x y H Q => ∃ (a b : Addr) (ns ms : List Int), x = .ref a ∧ y = .ref b ∧ SqL K H a (ns.map V.int) ∧ SqL K H b (ms.map V.int) ∧ Q (.bl (decide (ns = ms))) H
noncomputable def rNeI (K : Frag) : R2 := fun x y H Q => ∃ (a b : Addr) (ns ms : List Int), x = .ref a ∧ y = .ref b ∧ SqL K H a (ns.map V.int) ∧ SqL K H b (ms.map V.int) ∧ Q (.bl (!decide (ns = ms))) H
theorem op_eqL {X : Cx} (hu : X.A.units + 64 < cLine) : OpR X (compareOp .Eq) (rEqI X.K) := by
  intro pins s σ H x y v u Q I rx ry h
  obtain ⟨a, b, ns, ms, rfl, rfl, h1, h2, q⟩ := h
  refine op_eqD hu pins s σ H _ _ v u Q I rx ry ⟨_, _, .lst h1 (Deeps.ints ns), .lst h2 (Deeps.ints ms), ?_, ?_⟩
  · unfold ht; rw [hts_ints]; decide
  · unfold eqD; rw [eqDs_ints]; exact q
theorem op_neL {X : Cx} (hu : X.A.units + 64 < cLine) : OpR X (compareOp .NotEq) (rNeI X.K) := by
  intro pins s σ H x y v u Q I rx ry h
  obtain ⟨a, b, ns, ms, rfl, rfl, h1, h2, q⟩ := h
  refine op_neD hu pins s σ H _ _ v u Q I rx ry ⟨_, _, .lst h1 (Deeps.ints ns), .lst h2 (Deeps.ints ms), ?_, ?_⟩
  · unfold ht; rw [hts_ints]; decide
  · unfold eqD; rw [eqDs_ints]; exact q
theorem units_of {A : Around} {k : Nat} (hr : Room k A) : A.units + 64 < cLine := by have := hr.un; trivial
theorem nameT {j : Nat} {v : V} {σ : St} {H : Hp} {A B : St → Hp → Prop} (h : A (σ.set j (some v)) H) : gName j v σ H (fun σ2 H3 => tTrue σ2 H3 (fun b H4 => if b = true then A σ2 H4 else B σ2 H4)) := by
  show if true = true then A (σ.set j (some v)) H else B (σ.set j (some v)) H
  exact iteT h
end L2
namespace PH
end PH
set_option Elab.async false
set_option linter.all false
set_option maxRecDepth 100000
set_option maxHeartbeats 4000000
namespace PH
open PySem L2 PySem.W
theorem same_new {H : Hp} {p : Addr} (h : H p = none) (o : HO) : Same H (upd H p o) := fun b u q => by rw [upd_ne (ne_of_none q h)]; exact q
noncomputable def deckO (a b c : Int) : HO := .lst [.int a, .int b, .int c]
noncomputable def lsI (ns : List Int) : HO := .lst (ns.map V.int)
theorem int_at {ns : List Int} {i : Nat} {y : V} (h : (ns.map V.int)[i]? = some y) : ∃ z, y = V.int z ∧ ns[i]? = some z := by
  rw [List.getElem?_map] at h
  cases e : ns[i]? with
  | none => rw [e] at h; cases h
  | some z => rw [e] at h; exact ⟨z, (Option.some.inj h).symm, rfl⟩
theorem take_at {α : Type} {ns : List α} {i : Nat} {z : α} (h : ns[i]? = some z) : ns.take (i + 1) = ns.take i ++ [z] := by rw [List.take_add_one, h]; rfl
theorem cut_to {α : Type} {f : Int → V} (ns : List Int) (k : Nat) : cutV (ns.map f) none (some (k : Int)) = (ns.take k).map f := by
  unfold cutV
  rw [HT.sIx_none, HT.sIx_nat, List.drop_zero, Nat.sub_zero, List.length_map, ← List.map_take]
  congr 1
  rcases Nat.le_total k ns.length with h | h
  · rw [Nat.min_eq_left h]
  · rw [Nat.min_eq_right h, List.take_of_length_le (Nat.le_refl _), List.take_of_length_le h]
abbrev bmV : List Value := [.type "ValueError", .type "Exception", .type "BaseException", .type "object"]
structure Ex (K : Frag) (mg : Str → Option Value) (x : Str) (C : Addr) : Prop where
  mg : mg x = some (.ref C)
  ex : excIn K C bmV "ValueError.__new__" = true
  cl : ExcC K C
theorem kit_refl (K : Frag) (t : Value) : kitOne K t t = some true := by unfold kitOne; rw [if_pos (beq_self_eq_true t)]
theorem kit_ib (K : Frag) : kitOne K (.type "int") (.type "bool") = some false := by rfl
theorem boot_isi : bootBuiltins "isinstance" = some (.builtin "isinstance") := by decide +kernel
theorem boot_list' : bootBuiltins "list" = some (.type "list") := by decide +kernel
theorem boot_int' : bootBuiltins "int" = some (.type "int") := by decide +kernel
theorem boot_bool' : bootBuiltins "bool" = some (.type "bool") := by decide +kernel
structure Bl (mg : Str → Option Value) : Prop where
  isi : mg "isinstance" = none
  list : mg "list" = none
  int : mg "int" = none
  bool : mg "bool" = none
  len : mg "len" = none
  range : mg "range" = none
  max : mg "max" = none
  ve : mg "ValueError" = none
theorem cut_from (ns : List Int) (k : Nat) : cutV (ns.map V.int) (some (k : Int)) none = (ns.drop k).map V.int := by
  unfold cutV
  rw [HT.sIx_none, HT.sIx_nat, List.length_map]
  rcases Nat.le_total k ns.length with h | h
  · rw [Nat.min_eq_left h, ← List.map_drop, List.take_of_length_le (by rw [List.length_map, List.length_drop]; exact Nat.le_refl _)]
  · rw [Nat.min_eq_right h, Nat.sub_self, List.take_zero, List.drop_of_length_le h]; rfl
theorem in_ints (k : Int) (ns : List Int) : inV (.int k) (ns.map V.int) = decide (k ∈ ns) := by
  unfold inV
  rw [List.any_map]
  by_cases h : k ∈ ns
  · rw [decide_eq_true h, List.any_eq_true]
    exact ⟨k, h, by simp [eqV]⟩
  · rw [decide_eq_false h, List.any_eq_false]
    intro x hx
    have : x ≠ k := fun z => h (z ▸ hx)
    simpa [eqV] using this
theorem flat_ints (ns : List Int) : (ns.map V.int).all flatV = true := by
  rw [List.all_eq_true]
  intro y hy
  obtain ⟨z, _, rfl⟩ := List.mem_map.mp hy
  rfl
noncomputable def spLaw (K : PySem.W.Frag) : Sp := fun vs H Q _ => ∃ (a : Addr) (ns : List Int), vs = [.ref a] ∧ SqL K H a (ns.map V.int) ∧ ns.length ≤ 63 ∧ ∀ H', Q (.bl true) H'
theorem fits {n : Nat} (h : n ≤ 1000000) : n ≤ sizeLine := by
  have : sizeLine = 16777216 := by decide
  trivial
theorem fits_lt {n : Nat} (h : n ≤ 1000000) : n < sizeLine := by
  have : sizeLine = 16777216 := by decide
  trivial
end PH
namespace PH
end PH
set_option Elab.async false
set_option linter.all false
set_option maxRecDepth 100000
namespace L2
open PySem PySem.Spec PyProof.Rows PySem.W
section
variable {X : Cx} {tg : Expr}
end
theorem comp_rngQ {lo : Int} {n : Nat} {D : Addr} {σ0 : St} {H1 : Hp} {Qd : Hp → Prop} {g : TG} {tc : TT} {te : TE} (Pv : Nat → St → Hp → Prop) (h0 : Pv 0 σ0 (upd H1 D (.lst [])))
    (hs : ∀ i σ' H', i < n → Pv i σ' H' → g (.int (lo + i)) σ' H' fun σ2 H3 => tc σ2 H3 fun b H4 => if b = true then te σ2 H4 fun v H5 => rAppend (.ref D) [v] H5 fun _ H6 => ∃ m', m' < n - i ∧ CW n Pv (i + 1) m' σ2 H6 else ∃ m', m' < n - i ∧ CW n Pv (i + 1) m' σ2 H4)
    (hd : ∀ σ' H', Pv n σ' H' → Qd H') :
    ∃ W : Nat → Nat → St → Hp → Prop, (∃ m, W 0 m σ0 (upd H1 D (.lst []))) ∧ ∀ i m σ' H', W i m σ' H' → ((Itr lo n).stop i H' ∧ Qd H') ∨ ((Itr lo n).go i H' ∧ ∀ x H2, (Itr lo n).yld i H' x H2 → g x σ' H2 fun σ2 H3 => tc σ2 H3 fun b H4 =>
      if b = true then te σ2 H4 fun v H5 => rAppend (.ref D) [v] H5 fun _ H6 => ∃ m', m' < m ∧ W (i + 1) m' σ2 H6 else ∃ m', m' < m ∧ W (i + 1) m' σ2 H4) :=
  comp_rng (Q := fun _ H => Qd H) Pv h0 hs hd
theorem comp_lstQ {K : Frag} {a : Addr} {xs : List V} {D : Addr} {σ0 : St} {H1 : Hp} {Qd : Hp → Prop} {g : TG} {tc : TT} {te : TE} (Pv : Nat → St → Hp → Prop) (h0 : Pv 0 σ0 (upd H1 D (.lst []))) (hl : ∀ i σ H, i ≤ xs.length → Pv i σ H → SqL K H a xs)
    (hs : ∀ i x σ' H', xs[i]? = some x → Pv i σ' H' → g x σ' H' fun σ2 H3 => tc σ2 H3 fun b H4 => if b = true then te σ2 H4 fun v H5 => rAppend (.ref D) [v] H5 fun _ H6 => ∃ m', m' < xs.length - i ∧ CW xs.length Pv (i + 1) m' σ2 H6 else ∃ m', m' < xs.length - i ∧ CW xs.length Pv (i + 1) m' σ2 H4)
    (hd : ∀ σ' H', Pv xs.length σ' H' → Qd H') :
    ∃ W : Nat → Nat → St → Hp → Prop, (∃ m, W 0 m σ0 (upd H1 D (.lst []))) ∧ ∀ i m σ' H', W i m σ' H' → ((Itl K a).stop i H' ∧ Qd H') ∨ ((Itl K a).go i H' ∧ ∀ x H2, (Itl K a).yld i H' x H2 → g x σ' H2 fun σ2 H3 => tc σ2 H3 fun b H4 =>
      if b = true then te σ2 H4 fun v H5 => rAppend (.ref D) [v] H5 fun _ H6 => ∃ m', m' < m ∧ W (i + 1) m' σ2 H6 else ∃ m', m' < m ∧ W (i + 1) m' σ2 H4) :=
  comp_lst (Q := fun _ H => Qd H) Pv h0 hl hs hd
end L2
set_option Elab.async false
set_option linter.all false
set_option maxRecDepth 100000
set_option maxHeartbeats 4000000
namespace PH
open PySem L2 PySem.W
theorem boot_tuple' : bootBuiltins "tuple" = some (.type "tuple") := by decide +kernel
structure ExR (K : Frag) (cP cN c1 c2 c3 c4 c5 c6 : Addr) : Prop where
  m : mroIn K cN (.ref cP) = some true
  v : kitOne K (.ref cN) (.type "ValueError") = some true
  o : kitAny K (.ref cN) [.ref c1, .ref c2, .ref c3, .ref c4, .ref c5, .ref c6] = some false
theorem cut_two (ns : List Int) (i j : Nat) : cutV (ns.map V.int) (some (i : Int)) (some (j : Int)) = ((ns.drop i).take (j - i)).map V.int := by
  unfold cutV
  rw [HT.sIx_nat, HT.sIx_nat, List.length_map, ← List.map_drop, ← List.map_take]
  congr 1
  rcases Nat.le_total i ns.length with h | h
  · rw [Nat.min_eq_left h]
    rcases Nat.le_total j ns.length with h2 | h2
    · rw [Nat.min_eq_left h2]
    · rw [Nat.min_eq_right h2, List.take_of_length_le (by rw [List.length_drop]; exact Nat.le_refl _), List.take_of_length_le (by rw [List.length_drop]; trivial)]
  · rw [Nat.min_eq_right h, List.drop_of_length_le (Nat.le_refl _), List.drop_of_length_le h, List.take_nil, List.take_nil]
end PH
namespace PH
end PH
set_option Elab.async false
set_option linter.all false
namespace L2
open PySem PySem.Spec PyProof.Rows
section
variable {X : Cx}
end
end L2
set_option Elab.async false
set_option linter.all false
set_option maxRecDepth 100000
set_option maxHeartbeats 4000000
namespace PH
open PySem L2 PySem.W
theorem boot_min' : bootBuiltins "min" = some (.builtin "min") := by decide +kernel
structure Bls (mg : Str → Option Value) : Prop where
  isi : mg "isinstance" = none
  list : mg "list" = none
  int : mg "int" = none
  bool : mg "bool" = none
  len : mg "len" = none
  range : mg "range" = none
  max : mg "max" = none
  ve : mg "ValueError" = none
  tuple : mg "tuple" = none
  min : mg "min" = none
  sorted : mg "sorted" = none
  all : mg "all" = none
  dict : mg "dict" = none
theorem same_upd {H H' : Hp} (s : Same H H') {q : Addr} (u : HO) (hq : H q = none) : Same H (upd H' q u) := fun b w e => by
  rw [upd_ne (ne_of_none e hq)]; exact s b w e
theorem lsI_app1 (a : List Int) (z : Int) : (.lst (a.map V.int ++ [V.int z]) : HO) = lsI (a ++ [z]) := by unfold lsI; rw [List.map_append]; rfl
end PH
set_option Elab.async false
set_option linter.all false
set_option maxRecDepth 100000
set_option maxHeartbeats 4000000
namespace PH
open PySem L2 PySem.W
structure Dks (ps : List Addr) (D : Addr) (H : Hp) : Prop where
  at_ : H D = some (.lst (ps.map V.ref))
  each : ∀ p ∈ ps, p ≠ D ∧ ∃ a b c, H p = some (deckO a b c)
theorem Dks.bits {ps : List Addr} {D p : Addr} {H H' : Hp} {a b c : Int} (h : Dks ps D H) (hp : p ∈ ps) (h1 : H' p = some (deckO a b c)) (kp : ∀ q o, q ≠ p → H q = some o → H' q = some o) : Dks ps D H' := ⟨kp _ _ (h.each p hp).1.symm h.at_, fun q hq => by
  obtain ⟨e, a', b', c', z⟩ := h.each q hq
  by_cases hqp : q = p
  · subst hqp; exact ⟨e, a, b, c, h1⟩
  · exact ⟨e, a', b', c', kp _ _ hqp z⟩⟩
end PH
set_option Elab.async false
set_option linter.all false
set_option maxRecDepth 100000
namespace L2
open PySem PySem.Spec PyProof.Rows PySem.W
end L2
set_option Elab.async false
set_option linter.all false
set_option maxRecDepth 100000
namespace L2
open PySem PySem.Spec PyProof.Rows
section
variable {κ : Type} [DecidableEq κ]
noncomputable def valV (kvs : List (κ × V)) (k : κ) : Option V := (kvs.find? fun kv => decide (kv.1 = k)).map (·.2)
noncomputable def putK (kvs : List (κ × V)) (k : κ) (v : V) : List (κ × V) :=
  if (kvs.any fun kv => decide (kv.1 = k)) = true then kvs.map (fun kv => if kv.1 = k then (kv.1, v) else kv) else kvs ++ [(k, v)]
theorem valV_pos {p : κ × V} {r : List (κ × V)} {k : κ} (e : p.1 = k) : valV (p :: r) k = some p.2 := by simp [valV, List.find?_cons, e]
theorem valV_neg {p : κ × V} {r : List (κ × V)} {k : κ} (e : ¬ p.1 = k) : valV (p :: r) k = valV r k := by simp [valV, List.find?_cons, e]
theorem valV_any (k : κ) : ∀ kvs : List (κ × V), (kvs.any fun kv => decide (kv.1 = k)) = (valV kvs k).isSome
  | [] => rfl
  | p :: r => by
    rw [List.any_cons]
    by_cases e : p.1 = k
    · simp only [valV_pos e, decide_eq_true e, Bool.true_or, Option.isSome_some]
    · rw [valV_neg e, decide_eq_false e, Bool.false_or]; exact valV_any k r
theorem valV_map (k j : κ) (y : V) : ∀ kvs : List (κ × V), valV (kvs.map fun kv => if kv.1 = k then (kv.1, y) else kv) j = (valV kvs j).map fun x => if j = k then y else x
  | [] => rfl
  | p :: r => by
    have ih := valV_map k j y r
    rw [List.map_cons]
    by_cases h : p.1 = k
    · rw [if_pos h]
      by_cases e : p.1 = j
      · rw [valV_pos (p := (p.1, y)) e, valV_pos e, Option.map_some, if_pos (e.symm.trans h)]
      · rw [valV_neg (p := (p.1, y)) e, valV_neg e, ih]
    · rw [if_neg h]
      by_cases e : p.1 = j
      · rw [valV_pos (p := p) e, valV_pos e, Option.map_some, if_neg (fun z => h (e.trans z))]
      · rw [valV_neg (p := p) e, valV_neg e, ih]
theorem valV_snoc (k j : κ) (y : V) : ∀ kvs : List (κ × V), valV kvs k = none → valV (kvs ++ [(k, y)]) j = if j = k then some y else valV kvs j
  | [], _ => by
    by_cases e : k = j
    · rw [if_pos e.symm]; exact valV_pos (p := (k, y)) e
    · rw [if_neg (fun z => e z.symm)]; exact valV_neg (p := (k, y)) e
  | p :: r, hn => by
    rw [List.cons_append]
    have hk : ¬ p.1 = k := fun z => by rw [valV_pos z] at hn; cases hn
    rw [valV_neg hk] at hn
    have ih := valV_snoc k j y r hn
    by_cases e : p.1 = j
    · rw [valV_pos e, valV_pos e, if_neg (fun z => hk (e.trans z))]
    · rw [valV_neg e, valV_neg e, ih]
theorem valV_put (kvs : List (κ × V)) (k j : κ) (y : V) : valV (putK kvs k y) j = if j = k then some y else valV kvs j := by
  unfold putK
  by_cases a : (kvs.any fun kv => decide (kv.1 = k)) = true
  · rw [if_pos a, valV_map]
    rw [valV_any] at a
    by_cases e : j = k
    · obtain ⟨x, hx⟩ := Option.isSome_iff_exists.mp a
      rw [if_pos e, e, hx, Option.map_some, if_pos rfl]
    · rw [if_neg e]
      cases valV kvs j with
      | none => rfl
      | some x => rw [Option.map_some, if_neg e]
  · rw [if_neg a]
    refine valV_snoc k j y kvs ?_
    rw [valV_any] at a
    cases q : valV kvs k with
    | none => rfl
    | some x => rw [q] at a; exact (a rfl).elim
theorem length_putK (kvs : List (κ × V)) (k : κ) (v : V) : (putK kvs k v).length ≤ kvs.length + 1 := by
  unfold putK
  split
  · rw [List.length_map]; trivial
  · rw [List.length_append, List.length_cons, List.length_nil]; trivial
theorem RelO.isSome_eq {o : Option V} {u : Option Value} (r : RelO o u) : o.isSome = u.isSome := by
  cases o with
  | none => cases u with
    | none => rfl
    | some _ => exact (show False from r).elim
  | some _ => cases u with
    | none => exact (show False from r).elim
    | some _ => rfl
theorem RelO.getD {o : Option V} {u : Option Value} {d : V} {d' : Value} (r : RelO o u) (rd : RelV d d') : RelV (o.getD d) (u.getD d') := by
  cases o with
  | none => cases u with
    | none => exact rd
    | some _ => exact (show False from r).elim
  | some _ => cases u with
    | none => exact (show False from r).elim
    | some _ => exact r
theorem KV.val {kvs : List (κ × V)} {vs : List (κ × Value)} (r : KV kvs vs) (k : κ) : RelO (valV kvs k) (valueAt vs k) := by
  unfold KV at r
  induction r with
  | nil => exact True.intro
  | @cons p q ps qs h t ih =>
    obtain ⟨h1, h2⟩ := h
    by_cases e : p.1 = k
    · have e' : q.1 = k := h1.symm.trans e
      have b : valueAt (q :: qs) k = some q.2 := by simp [valueAt, List.find?_cons, e']
      rw [valV_pos e, b]; exact h2
    · have e' : ¬ q.1 = k := fun z => e (h1.trans z)
      have b : valueAt (q :: qs) k = valueAt qs k := by simp [valueAt, List.find?_cons, e']
      rw [valV_neg e, b]; exact ih
theorem KV.any {kvs : List (κ × V)} {vs : List (κ × Value)} (r : KV kvs vs) (k : κ) : (kvs.any fun kv => decide (kv.1 = k)) = vs.any fun kv => decide (kv.1 = k) := by
  unfold KV at r
  induction r with
  | nil => rfl
  | cons h t ih => rw [List.any_cons, List.any_cons, ih, h.1]
theorem KV.repl {kvs : List (κ × V)} {vs : List (κ × Value)} (r : KV kvs vs) (k : κ) {y : V} {u : Value} (ry : RelV y u) :
    KV (kvs.map fun kv => if kv.1 = k then (kv.1, y) else kv) (vs.map fun kv => if kv.1 = k then (kv.1, u) else kv) := by
  unfold KV at r ⊢
  induction r with
  | nil => exact .nil
  | @cons p q ps qs h t ih =>
    rw [List.map_cons, List.map_cons]
    refine .cons ?_ ih
    obtain ⟨h1, h2⟩ := h
    by_cases e : p.1 = k
    · rw [if_pos e, if_pos (h1.symm.trans e)]; exact ⟨h1, ry⟩
    · rw [if_neg e, if_neg (fun z => e (h1.trans z))]; exact ⟨h1, h2⟩
theorem KV.put {kvs : List (κ × V)} {vs : List (κ × Value)} (r : KV kvs vs) (k : κ) {y : V} {u : Value} (ry : RelV y u) : KV (putK kvs k y) (stored vs k u) := by
  unfold putK stored
  rw [r.any k]
  by_cases e : (vs.any fun kv => decide (kv.1 = k)) = true
  · rw [if_pos e, if_pos e]; exact r.repl k ry
  · rw [if_neg e, if_neg e]; exact Paired.snoc r ⟨rfl, ry⟩
theorem KV.length {kvs : List (κ × V)} {vs : List (κ × Value)} (r : KV kvs vs) : kvs.length = vs.length := Paired.length r
end
theorem kV_is {P : Program} {w : World} {k : Key} {u : Value} (r : RelV (kV k) u) : (mixKind P w).is k u = true := by
  cases k with
  | inl i => obtain ⟨t, e⟩ := (show ∃ t, u = Value.int i t from r); subst e; exact mixKind_int P w i t
  | inr x => obtain ⟨t, e⟩ := (show ∃ t, u = Value.str x t from r); subst e; exact mixKind_str P w x t
theorem items_are {P : Program} {w : World} : ∀ {ks : List Key} {us : List Value}, Vals (ks.map kV) us → ItemsAre (mixKind P w) ks us
  | [], _, r => by rw [List.map_nil] at r; cases r; exact .nil
  | k :: ks, _, r => by
    rw [List.map_cons] at r
    cases r with
    | cons h t => exact .cons (kV_is h) (items_are t)
noncomputable abbrev KT (H : Hp) : List (List Key × V) → List (List Key × Addr × Value) → Prop := Paired fun p q => p.1 = q.1 ∧ H q.2.1 = some (.tup (p.1.map kV)) ∧ RelV p.2 q.2.2
theorem KT.val {H : Hp} {kvs : List (List Key × V)} {xs : List (List Key × Addr × Value)} (r : KT H kvs xs) (k : List Key) : RelO (valV kvs k) ((atKey xs k).map (·.2)) := by
  induction r with
  | nil => exact True.intro
  | @cons p q ps qs h t ih =>
    obtain ⟨h1, _, h2⟩ := h
    by_cases e : p.1 = k
    · have e' : q.1 = k := h1.symm.trans e
      have b : atKey (q :: qs) k = some q.2 := by simp [atKey, List.find?_cons, e']
      rw [valV_pos e, b]; exact h2
    · have e' : ¬ q.1 = k := fun z => e (h1.trans z)
      have b : atKey (q :: qs) k = atKey qs k := by simp [atKey, List.find?_cons, e']
      rw [valV_neg e, b]; exact ih
theorem KT.repl {H : Hp} {kvs : List (List Key × V)} {xs : List (List Key × Addr × Value)} (r : KT H kvs xs) (k : List Key) {y : V} {u : Value} (ry : RelV y u) :
    KT H (kvs.map fun kv => if kv.1 = k then (kv.1, y) else kv) (xs.map (putAt k u)) := by
  induction r with
  | nil => exact .nil
  | @cons p q ps qs h t ih =>
    rw [List.map_cons, List.map_cons]
    refine .cons ?_ ih
    obtain ⟨h1, h2, h3⟩ := h
    unfold putAt
    by_cases e : p.1 = k
    · rw [if_pos e, if_pos (h1.symm.trans e)]; exact ⟨h1, h2, ry⟩
    · rw [if_neg e, if_neg (fun z => e (h1.trans z))]; exact ⟨h1, h2, h3⟩
theorem KT.put {H : Hp} {kvs : List (List Key × V)} {xs : List (List Key × Addr × Value)} (r : KT H kvs xs) (k : List Key) {b : Addr} {y : V} {u : Value} (hb : H b = some (.tup (k.map kV))) (ry : RelV y u) :
    KT H (putK kvs k y) (storedH xs k b u) := by
  have e : (kvs.any fun kv => decide (kv.1 = k)) = (atKey xs k).isSome := by
    rw [valV_any, (r.val k).isSome_eq, Option.isSome_map]
  unfold putK storedH
  rw [e]
  by_cases q : (atKey xs k).isSome = true
  · rw [if_pos q, if_pos q]; exact r.repl k ry
  · rw [if_neg q, if_neg q]; exact Paired.snoc r ⟨rfl, hb, ry⟩
theorem KT.keeps {H H' : Hp} {kvs : List (List Key × V)} {xs : List (List Key × Addr × Value)} (r : KT H kvs xs) (ht : ∀ b ys, H b = some (.tup ys) → H' b = some (.tup ys)) : KT H' kvs xs :=
  Paired.mapP r fun _ _ z => ⟨z.1, ht _ _ z.2.1, z.2.2⟩
section
variable {P : Program} {w : World} {H : Hp} {h : Heap} {a : Addr}
theorem rd_of {u : HO} (ok : HOk P w H h) (e : Rd H a u) : ObjOk P w H h a u := e.ok ok
theorem dk_rd {kvs : List (Key × V)} (ok : HOk P w H h) (e : Rd H a (.dK kvs)) : kvs.length ≤ sizeLine ∧ (a == sysModules) = false ∧ ∃ vs, KV kvs vs ∧ h.DictOf (mixKind P w) a vs :=
  show ObjOk P w H h a (.dK kvs) from rd_of ok e
theorem dk_of {kvs : List (Key × V)} (ok : HOk P w H h) (e : H a = some (.dK kvs)) : kvs.length ≤ sizeLine ∧ (a == sysModules) = false ∧ ∃ vs, KV kvs vs ∧ h.DictOf (mixKind P w) a vs := dk_rd ok (.inl e)
theorem key_of {ks : List Key} (ok : HOk P w H h) (e : H a = some (.tup (ks.map kV))) : (tupleKind (mixKind P w)).is h ks a := by
  obtain ⟨_, its, r, o, h1, h2, n, h3⟩ := (show ObjOk P w H h a (.tup (ks.map kV)) from ok a _ e)
  exact ⟨o, its.toArray, n, h1, h2, h3, by simpa using items_are r⟩
theorem dt_rd {kvs : List (List Key × V)} (ok : HOk P w H h) (e : Rd H a (.dT kvs)) : kvs.length ≤ sizeLine ∧ (a == sysModules) = false ∧
    ∃ xs, KT H kvs xs ∧ h.DictOfH (tupleKind (mixKind P w)) a xs := by
  obtain ⟨z, y, xs, r, o, es, ep, h1, h2, h3, h4, h5⟩ := (show ObjOk P w H h a (.dT kvs) from rd_of ok e)
  refine ⟨z, y, xs, r, o, es, ep, h1, h2, h3, h4, fun x hx => ?_, h5⟩
  have all : ∀ {l : List (List Key × V)} {m : List (List Key × Addr × Value)}, KT H l m → ∀ x ∈ m, (tupleKind (mixKind P w)).is h x.1 x.2.1 := by
    intro l m q
    induction q with
    | nil => intro x hx; exact nomatch hx
    | @cons p q ps qs hq t ih =>
      intro x hx
      rcases List.mem_cons.mp hx with e | hx
      · subst e
        exact key_of ok (by rw [← hq.1]; exact hq.2.1)
      · exact ih x hx
  exact all r x hx
theorem dt_of {kvs : List (List Key × V)} (ok : HOk P w H h) (e : H a = some (.dT kvs)) : kvs.length ≤ sizeLine ∧ (a == sysModules) = false ∧
    ∃ xs, KT H kvs xs ∧ h.DictOfH (tupleKind (mixKind P w)) a xs := dt_rd ok (.inl e)
end
noncomputable def DGet (H : Hp) (a : Addr) (y : V) (r : Option V) : Prop :=
  (∃ kvs k, Rd H a (.dK kvs) ∧ y = kV k ∧ r = valV kvs k) ∨ ∃ kvs k b, Rd H a (.dT kvs) ∧ y = .ref b ∧ H b = some (.tup (k.map kV)) ∧ r = valV kvs k
noncomputable def DPut (H : Hp) (a : Addr) (y v : V) (H' : Hp) : Prop :=
  (∃ kvs k, H a = some (.dK kvs) ∧ y = kV k ∧ kvs.length < sizeLine ∧ H' = upd H a (.dK (putK kvs k v))) ∨
  ∃ kvs k b, H a = some (.dT kvs) ∧ y = .ref b ∧ H b = some (.tup (k.map kV)) ∧ kvs.length < sizeLine ∧ H' = upd H a (.dT (putK kvs k v))
theorem DGet.t {H : Hp} {a b : Addr} {kvs : List (List Key × V)} {k : List Key} (e : H a = some (.dT kvs)) (eb : H b = some (.tup (k.map kV))) : DGet H a (.ref b) (valV kvs k) := .inr ⟨kvs, k, b, .inl e, rfl, eb, rfl⟩
theorem DPut.t {H : Hp} {a b : Addr} {kvs : List (List Key × V)} {k : List Key} {v : V} (e : H a = some (.dT kvs)) (eb : H b = some (.tup (k.map kV))) (hl : kvs.length < sizeLine) :
    DPut H a (.ref b) v (upd H a (.dT (putK kvs k v))) := .inr ⟨kvs, k, b, e, rfl, eb, hl, rfl⟩
section
variable {X : Cx} {pins : List (Addr × Obj)} {σ : St} {H : Hp} {s : Shared} {a : Addr} {y v : V} {u r : Value} {o : Option V} {A : Around} {E : Value → Shared → Prop}
theorem Inv.big (I : Inv X pins σ H s) : sysModules < s.heap.objs.size := by
  have h : mainGlobals < s.heap.objs.size := (I.mod.glob.keeps I.bk).lt
  exact Nat.lt_trans (by decide) h
theorem d_getItem {Q : Value → Shared → Prop} (hu : A.units + 1 < cLine) (I : Inv X pins σ H s) (g : DGet H a y (some v)) (ry : RelV y u) (h : ∀ w' s', Inv X pins σ H s' → RelV v w' → Q w' s') :
    wpAny (model X.prog X.w) A (getItem (.ref a) u) Q E s := by
  rcases g with ⟨kvs, k, e, ey, l⟩ | ⟨kvs, k, b, e, ey, eb, l⟩
  · subst ey
    obtain ⟨z, hd, vs, rel, dd⟩ := dk_rd I.hok e
    obtain ⟨w', hw, rw'⟩ := RelO.some_of (v := v) (o := valueAt vs k) (by rw [l]; exact rel.val k)
    exact wpAny_getItem_of (kV_is ry) dd.mapOf hw (h w' _ (I.tok _) rw')
  · subst ey
    cases (show u = Value.ref b from ry)
    obtain ⟨z, hd, xs, rel, dd⟩ := dt_rd I.hok e
    obtain ⟨w', hw, rw'⟩ := RelO.some_of (v := v) (o := (atKey xs k).map (·.2)) (by rw [l]; exact rel.val k)
    obtain ⟨p, hp, hp2⟩ := Option.map_eq_some_iff.mp hw
    refine wpAny_getItem_heap (tupleKind_room_in1 hu) (key_of I.hok eb) dd hp ?_
    rw [hp2]
    exact h w' _ (I.tok _) rw'
theorem d_in {Q : Value → Shared → Prop} (hu : A.units + 1 < cLine) (I : Inv X pins σ H s) (g : DGet H a y o) (ry : RelV y u) (h : ∀ s', Inv X pins σ H s' → Q (.bool o.isSome) s') :
    wpAny (model X.prog X.w) A (compareOp .In u (.ref a)) Q E s := by
  rcases g with ⟨kvs, k, e, ey, l⟩ | ⟨kvs, k, b, e, ey, eb, l⟩
  · subst ey
    obtain ⟨z, hd, vs, rel, dd⟩ := dk_rd I.hok e
    refine wpAny_in_of (kV_is ry) hd dd.mapOf ?_
    rw [← (rel.val k).isSome_eq, ← l]
    exact h _ (I.tok _)
  · subst ey
    cases (show u = Value.ref b from ry)
    obtain ⟨z, hd, xs, rel, dd⟩ := dt_rd I.hok e
    refine wpAny_in_heap (tupleKind_room_in1 hu) (key_of I.hok eb) hd dd ?_
    have q := (rel.val k).isSome_eq
    rw [Option.isSome_map] at q
    rw [← q, ← l]
    exact h _ (I.tok _)
theorem d_write {h' : Heap} {t' : Nat} {ob : HO} (I : Inv X pins σ H s) (mu : Mut (H a)) (hs : Heap.SameBut a s.heap h') (he : ∃ q, h'.get? a = some q) (new : ObjOk X.prog X.w (upd H a ob) h' a ob) :
    Inv X pins σ (upd H a ob) { s with heap := h', toks := t' } :=
  I.write (x := a) (e := a) mu (.inl rfl) (fun b q hb z => (hs.2 b hb).trans z) he new
theorem dk_new {P : Program} {w : World} {H' : Hp} {h' : Heap} {kvs : List (Key × V)} {vs : List (Key × Value)} (z : kvs.length ≤ sizeLine) (hd : (a == sysModules) = false) (rel : KV kvs vs) (dd : h'.DictOf (mixKind P w) a vs) :
    ObjOk P w H' h' a (.dK kvs) := ⟨z, hd, vs, rel, dd⟩
theorem d_setItem {H' : Hp} {Q : Unit → Shared → Prop} (hu : A.units + 1 < cLine) (I : Inv X pins σ H s) (g : DPut H a y v H') (ry : RelV y u) (rv : RelV v r) (h : ∀ s', Inv X pins σ H' s' → Q () s') :
    wpAny (model X.prog X.w) A (setItem (.ref a) u r) Q E s := by
  rcases g with ⟨kvs, k, e, ey, l, eH⟩ | ⟨kvs, k, b, e, ey, eb, l, eH⟩
  · subst ey eH
    obtain ⟨z, hd, vs, rel, dd⟩ := dk_of I.hok e
    have hz : vs.length ≤ sizeLine := by rw [← rel.length]; exact z
    have hl : (putK kvs k v).length ≤ sizeLine := by have := length_putK kvs k v; trivial
    refine wpAny_setItem_pairs (hsz := hz) (kV_is ry) dd fun h' dd' hs => h _ ?_
    have he : ∃ q, h'.get? a = some q := let ⟨q, _, _, hq, _⟩ := dd'; ⟨q, hq⟩
    exact d_write I (by rw [e]; exact True.intro) hs he (dk_new hl hd (rel.put k rv) dd')
  · subst ey eH
    cases (show u = Value.ref b from ry)
    obtain ⟨z, hd, xs, rel, dd⟩ := dt_of I.hok e
    have hz : xs.length ≤ sizeLine := by rw [← Paired.length rel]; exact z
    have hl : (putK kvs k v).length ≤ sizeLine := by have := length_putK kvs k v; trivial
    refine wpAny_setItem_heap (hsz := hz) (tupleKind_room_in1 hu) (key_of I.hok eb) dd fun h' dd' hs => h _ ?_
    obtain ⟨q, es, ep, hq, h2, h3, h4, _, h5⟩ := dd'
    refine d_write I (by rw [e]; exact True.intro) hs ⟨q, hq⟩ ⟨hl, hd, _, (rel.put k eb rv).keeps fun c ys ec => ?_, q, es, ep, hq, h2, h3, h4, h5⟩
    rw [upd_ne (ne_of ec e (fun z => nomatch z))]
    exact ec
end
section
variable {X : Cx} {pins : List (Addr × Obj)} {σ : St} {H : Hp} {s : Shared} {a : Addr} {kvs : List (Key × V)} {k : Key} {u : Value} {A : Around} {E : Value → Shared → Prop}
end
noncomputable def NoSl (i : Expr) : Prop := ∀ ov iv, subscripted i false ov iv = operate [ov, iv] (getItem ov iv)
theorem subD_of {prog : Program} {w : World} {A : Around} {E : Value → Shared → Prop} {s : Shared} {env : Env} {value slice : Expr} {pos : Pos} {T id : String} {Q : Value → Shared → Prop}
    (hl : typeLookup (.type T) "__getitem__" = pure (some (.builtin id))) (hs : NoSl slice)
    (h : wpAny (model prog w) A (eval value env) (fun o s₁ => wpAny (model prog w) A (eval slice env) (fun i s₂ => s₂.TypeIs o T ∧ wpAny (model prog w) A (getItem o i) Q E s₂) E s₁) E s) :
    wpAny (model prog w) A (eval (.Subscript value slice pos) env) Q E s := by
  refine Subscript_ (wpAny_mono h (fun o s₁ h₁ => wpAny_mono h₁ (fun i s₂ h₂ => ?_) fun _ _ x => x) fun _ _ x => x)
  obtain ⟨hT, h₂⟩ := h₂
  unfold subscriptTail
  refine wpAny_bind ?_
  rw [getitemInPython_of_ne hT.not_modules]
  refine wpAny_bind (wpAny_specialOf hT hl ?_)
  have fin : wpAny (model prog w) A (subscripted slice false o i) (fun r s₃ => wpAny (model prog w) A (letTemporaryGo value o r >>= fun _ => pure r) Q E s₃) E s₂ := by
    rw [hs o i]
    exact wpAny_operating (wpAny_mono h₂ (fun r s₃ h₃ => wpAny_bind (wpAny_letTemporaryGo (wpAny_pure h₃))) fun _ _ x => x)
  first
    | exact wpAny_pure (wpAny_bind fin)
    | exact wpAny_bind (wpAny_pure (wpAny_bind fin))
    | exact wpAny_bind fin
theorem dict_typeIs {X : Cx} {pins : List (Addr × Obj)} {σ : St} {H : Hp} {s : Shared} {a : Addr} {y : V} {o : Option V} (I : Inv X pins σ H s) (g : DGet H a y o) : s.TypeIs (.ref a) "dict" := by
  rcases g with ⟨kvs, k, e, _, _⟩ | ⟨kvs, k, b, e, _, _, _⟩
  · obtain ⟨_, _, vs, _, dd⟩ := dk_rd I.hok e
    exact dd.typeIs
  · obtain ⟨_, _, xs, _, dd⟩ := dt_rd I.hok e
    exact dd.typeIs
noncomputable def tDGet (td ty : TE) : TE := fun σ H Q => td σ H fun x H1 => ty σ H1 fun y H2 => ∃ a v, x = .ref a ∧ DGet H2 a y (some v) ∧ Q v H2
noncomputable def tDIn (ty td : TE) : TE := fun σ H Q => ty σ H fun y H1 => td σ H1 fun x H2 => ∃ a o, x = .ref a ∧ DGet H2 a y o ∧ Q (.bl o.isSome) H2
noncomputable def sDPut (td ty tv : TE) : TS := fun D σ H => tv σ H fun v H1 => td σ H1 fun x H2 => ty σ H2 fun y H3 => ∃ a H4, x = .ref a ∧ DPut H3 a y v H4 ∧ D.nx σ H4
section
variable {X : Cx} {o i e value : Expr} {pos pos' tpos : Pos} {td ty tv : TE}
theorem pe_dget (hu : X.A.units + 1 < cLine) (ho : PE X o td) (hi : PE X i ty) (hs : NoSl i) : PE X (.Subscript o i pos) (tDGet td ty) := by
  intro pins s σ H Q I h
  refine subD_of PySem.F.slot_dict_getitem.lookup hs (thn (ho pins s σ H _ I h) fun u s1 ⟨x, H1, I1, rx, q1⟩ => thn (hi pins s1 σ H1 _ I1 q1) fun iv s2 ⟨y, H2, I2, ry, a, v, ex, g, q2⟩ => ?_)
  subst ex
  obtain rfl : u = Value.ref a := rx
  exact ⟨dict_typeIs I2 g, d_getItem hu I2 g ry fun w' s3 I3 rw' => ⟨v, H2, I3, rw', q2⟩⟩
theorem pc_din (hu : X.A.units + 1 < cLine) (hi : PE X i ty) (ho : PE X o td) : PC X .In i o (tDIn ty td) := by
  intro pins s σ H Q I h
  refine thn (hi pins s σ H _ I h) fun iv s1 ⟨y, H1, I1, ry, q1⟩ => thn (ho pins s1 σ H1 _ I1 q1) fun u s2 ⟨x, H2, I2, rx, a, ov, ex, g, q2⟩ => ?_
  subst ex
  obtain rfl : u = Value.ref a := rx
  exact d_in hu I2 g ry fun s3 I3 => ⟨.bl ov.isSome, H2, I3, rfl, q2⟩
theorem ps_dput (hu : X.A.units + 1 < cLine) (ho : PE X o td) (hi : PE X i ty) (hv : PE X value tv) (hs : swapsWith value (some (.Subscript o i pos')) pos.line X.env = pure false) :
    PS X (.Assign [.Subscript o i pos'] value pos) (sDPut td ty tv) := by
  intro pins s σ H D I h
  refine wpAny_Assign_Subscript (thn (hv pins s σ H _ I h) fun r s1 ⟨v, H1, I1, rv, q1⟩ => thn (ho pins s1 σ H1 _ I1 q1) fun u s2 ⟨x, H2, I2, rx, q2⟩ => thn (hi pins s2 σ H2 _ I2 q2) fun iv s3 ⟨y, H3, I3, ry, a, H4, ex, g, q3⟩ => ?_) hs
  subst ex
  obtain rfl : u = Value.ref a := rx
  exact d_setItem hu I3 g ry rv fun s4 I4 => ⟨σ, H4, I4, q3⟩
end
theorem dt_empty {P : Program} {w : World} {H : Hp} (h : Heap) (hb : sysModules < h.objs.size) : ObjOk P w H (h.push { cls := .type "dict", data := .dict #[] }) h.objs.size (.dT []) :=
  ⟨Nat.zero_le _, beq_eq_false_iff_ne.mpr (Ne.symm (Nat.ne_of_lt hb)), [], .nil, _, #[], 0, Heap.get?_push_size _ rfl, ⟨rfl, rfl, rfl⟩, rfl, rfl, List.nodup_nil⟩
noncomputable def tDNewT : TE := fun _ H Q => ∀ p, H p = none → Q (.ref p) (upd H p (.dT []))
section
variable {X : Cx} {pos : Pos}
theorem pe_dnewT : PE X (.Dict [] [] pos) tDNewT := fun pins s σ H Q I h =>
  wpAny_Dict_empty ⟨.ref s.heap.objs.size, _, I.laid (a := s.heap.objs.size) (o := .dT []) (t' := s.toks) (fun _ _ q => Heap.get?_push_of_some _ q) (Nat.le_refl _) (dt_empty s.heap I.big), rfl, h _ (I.hok.fresh (Nat.le_refl _))⟩
end
structure M1 (X : Cx) (o : Expr) (m : Str) (apos : Pos) (e : Expr) (cpos : Pos) : Prop where
  base : attributeBase o m X.env (eval o X.env) = eval o X.env
  few : ((backTo cpos (starEach [e] X.env)).all (fun x => !x.1) && (backToKw cpos (keywordEach [] X.env)).all (fun x => x.1.isSome)
    && decide (([e] : List Expr).length + ([] : List Keyword).length + (if ([] : List Keyword).isEmpty then 0 else 1) < 30)) = true
  line : (apos.endLine == cpos.line) = true
  trees : backTo cpos (starEach [e] X.env) = [(false, eval e X.env)]
structure M2 (X : Cx) (o : Expr) (m : Str) (apos : Pos) (e f : Expr) (cpos : Pos) : Prop where
  base : attributeBase o m X.env (eval o X.env) = eval o X.env
  few : ((backTo cpos (starEach [e, f] X.env)).all (fun x => !x.1) && (backToKw cpos (keywordEach [] X.env)).all (fun x => x.1.isSome)
    && decide (([e, f] : List Expr).length + ([] : List Keyword).length + (if ([] : List Keyword).isEmpty then 0 else 1) < 30)) = true
  line : (apos.endLine == cpos.line) = true
  trees : backTo cpos (starEach [e, f] X.env) = [(false, eval e X.env), (false, eval f X.env)]
noncomputable def IsD (H : Hp) (a : Addr) : Prop := (∃ kvs, Rd H a (.dK kvs)) ∨ ∃ kvs, Rd H a (.dT kvs)
theorem isD_at {X : Cx} {pins : List (Addr × Obj)} {σ : St} {H : Hp} {s : Shared} {a : Addr} (I : Inv X pins σ H s) (d : IsD H a) :
    s.TypeIs (.ref a) "dict" ∧ (∀ b, Value.ref a = .ref b → ∃ ob, s.heap.get? b = some ob ∧ ob.dict = none) ∧ (a == sysModules) = false := by
  rcases d with ⟨kvs, e⟩ | ⟨kvs, e⟩
  · obtain ⟨_, hd, vs, _, dd⟩ := dk_rd I.hok e
    refine ⟨dd.typeIs, fun b q => ?_, hd⟩
    cases q
    obtain ⟨ob, _, _, h1, h2, _⟩ := dd
    exact ⟨ob, h1, h2.2.1⟩
  · obtain ⟨_, hd, xs, _, dd⟩ := dt_rd I.hok e
    refine ⟨dd.typeIs, fun b q => ?_, hd⟩
    cases q
    obtain ⟨ob, _, _, h1, h2, _⟩ := dd
    exact ⟨ob, h1, h2.2.1⟩
section
variable {X : Cx} {pins : List (Addr × Obj)} {σ : St} {H : Hp} {s : Shared} {a : Addr} {y d : V} {u r : Value} {o : Option V} {A : Around} {E : Value → Shared → Prop}
theorem d_get2 {Q : Value → Shared → Prop} (hu : A.units + 1 < cLine) (I : Inv X pins σ H s) (g : DGet H a y o) (ry : RelV y u) (rd : RelV d r) (h : ∀ w' s', Inv X pins σ H s' → RelV (o.getD d) w' → Q w' s') :
    wpAny (model X.prog X.w) A (call (.builtin "dict.get") [.ref a, u, r]) Q E s := by
  rcases g with ⟨kvs, k, e, ey, l⟩ | ⟨kvs, k, b, e, ey, eb, l⟩
  · subst ey
    obtain ⟨z, hd, vs, rel, dd⟩ := dk_rd I.hok e
    refine call_meetsIn PySem.F.slot_dict_get dd.typeIs PySem.F.entry_dict_get (PySem.F.args_dict_get_3 _ _ _) (meets_dict_get_default (mixKind X.prog X.w) a (kV_is ry) hd r) ⟨_, dd.mapOf, h _ _ (I.tok _) ?_⟩
    rw [l]
    exact (rel.val k).getD rd
  · subst ey
    cases (show u = Value.ref b from ry)
    obtain ⟨z, hd, xs, rel, dd⟩ := dt_rd I.hok e
    refine call_meetsIn PySem.F.slot_dict_get dd.typeIs PySem.F.entry_dict_get (PySem.F.args_dict_get_3 _ _ _) (meetsH_dict_get_default (tupleKind (mixKind X.prog X.w)) a b hd r) ⟨tupleKind_room_in1 hu, k, xs, key_of I.hok eb, dd, h _ _ (I.tok _) ?_⟩
    rw [l]
    exact (rel.val k).getD rd
end
noncomputable def tDGet2 (td ty tx : TE) : TE := fun σ H Q => td σ H fun x H1 => ∃ a, x = .ref a ∧ IsD H1 a ∧ ty σ H1 fun y H2 => tx σ H2 fun z H3 => ∃ o, DGet H3 a y o ∧ Q (o.getD z) H3
section
variable {X : Cx} {o e f : Expr} {apos cpos : Pos} {td ty tx : TE}
theorem pe_dget2 (hu : X.A.units + 1 < cLine) (ho : PE X o td) (he : PE X e ty) (hf : PE X f tx) (m : M2 X o "get" apos e f cpos) : PE X (.Call (.Attribute o "get" apos) [e, f] [] cpos) (tDGet2 td ty tx) := by
  intro pins s σ H Q I h
  refine wpAny_Call_method m.base m.few m.line PySem.F.plainAttrs_dict PySem.F.slot_dict_get PySem.F.type_dict_get (thn (ho pins s σ H _ I h) fun u s1 ⟨x, H1, I1, rx, a, ex, d, q1⟩ => ?_)
  subst ex
  obtain rfl : u = Value.ref a := rx
  obtain ⟨t1, t2, _⟩ := isD_at I1 d
  refine ⟨t1, t2, ?_⟩
  rw [m.trees]
  refine Calls.callWith_builtin rfl (Calls.evalArgs_plain (Calls.spliced_cons (thn (he pins s1 σ H1 _ I1 q1) fun iv s2 ⟨y, H2, I2, ry, q2⟩ =>
    Calls.spliced_cons (thn (hf pins s2 σ H2 _ I2 q2) fun fv s3 ⟨z, H3, I3, rz, ov, g, q3⟩ => Calls.spliced_nil ?_))))
  exact d_get2 hu I3 g ry rz fun w' s4 I4 rw' => ⟨_, H3, I4, rw', q3⟩
end
section
variable {X : Cx} {pins : List (Addr × Obj)} {σ : St} {H : Hp} {s : Shared} {a : Addr} {kvs : List (Key × V)} {A : Around} {E : Value → Shared → Prop}
end
section
variable {X : Cx} {pins : List (Addr × Obj)} {σ : St} {H : Hp} {s : Shared} {a : Addr} {y : V} {u : Value} {A : Around} {E : Value → Shared → Prop}
end
end L2
namespace L2
open PySem PySem.Spec PyProof.Rows
section
variable {X : Cx}
end
section
variable {κ : Type} [DecidableEq κ]
end
end L2
set_option linter.all false
namespace TS
open PySem PyProof.Rows
section
variable {prog : Program} {w : World} {A : Around} {E : Value → Shared → Prop} {s : Shared}
structure Cmp (prog : Program) (w : World) (A : Around) (s : Shared) (kd : SortKind) (O : KeyOrd) (ky : Keyed → O.α) (S : Keyed → Prop) : Prop where
  lt : ∀ p q, S p → S q → ∀ {E : Value → Shared → Prop} {Q : Bool → Shared → Prop}, Q (O.blt (ky p) (ky q)) s → wpAny (model prog w) A (keyLt' kd p.1 q.1) Q E s
variable {kd : SortKind} {O : KeyOrd} {ky : Keyed → O.α} {S : Keyed → Prop}
end
end TS
set_option linter.all false
namespace TT
open PySem PyProof.Rows TS
section
variable (O : KeyOrd) (ky : Keyed → O.α) (ix : Keyed → Nat)
noncomputable def R (p q : Keyed) : Prop := O.kle (ky p) (ky q) ∧ (O.kle (ky q) (ky p) → ix p ≤ ix q)
noncomputable def Srt (l : List Keyed) : Prop := l.Pairwise (R O ky ix)
structure MI (a b out : Array Keyed) (ia ib : Nat) : Prop where
  ha : ia ≤ a.size
  hb : ib ≤ b.size
  perm : out.toList.Perm (a.toList.take ia ++ b.toList.take ib)
  srt : Srt O ky ix out.toList
  ra : ∀ x ∈ out.toList, ∀ y ∈ a.toList.drop ia, R O ky ix x y
  rb : ∀ x ∈ out.toList, ∀ y ∈ b.toList.drop ib, R O ky ix x y
variable {O ky ix} {a b out o : Array Keyed} {ia ib : Nat}
structure MH (O : KeyOrd) (ky : Keyed → O.α) (ix : Keyed → Nat) (a b out : Array Keyed) (na nb : Nat) : Prop where
  ha : na ≤ a.size
  hb : nb ≤ b.size
  perm : out.toList.Perm (a.toList.drop na ++ b.toList.drop nb)
  srt : out.toList.Pairwise fun x y => R O ky ix y x
  ra : ∀ x ∈ out.toList, ∀ y ∈ a.toList.take na, R O ky ix y x
  rb : ∀ x ∈ out.toList, ∀ y ∈ b.toList.take nb, R O ky ix y x
end
end TT
set_option linter.all false
namespace TT
open PySem PyProof.Rows TS
structure SameSt (st st' : SortSt) : Prop where
  kind : kindOf st' = kindOf st
  arr : arrOf st' = arrOf st
  pend : pendingOf st' = pendingOf st
  fail : failedOf st' = failedOf st
noncomputable def at_ (a : Array Keyed) (i : Nat) : Keyed := (a[i]?).getD (.none, .none)
section
variable {O : KeyOrd} {ky : Keyed → O.α} {ix : Keyed → Nat}
end
section
variable {prog : Program} {w : World} {A : Around} {E : Value → Shared → Prop} {s : Shared}
variable {kd : SortKind} {O : KeyOrd} {ky : Keyed → O.α} {ix : Keyed → Nat} {S : Keyed → Prop}
end
end TT
set_option linter.all false
namespace TT
open PySem PyProof.Rows TS
section
variable {O : KeyOrd} {ky : Keyed → O.α} {ix : Keyed → Nat}
end
section
variable {prog : Program} {w : World} {A : Around} {E : Value → Shared → Prop} {s : Shared}
variable {kd : SortKind} {O : KeyOrd} {ky : Keyed → O.α} {ix : Keyed → Nat} {S : Keyed → Prop}
end
end TT
set_option linter.all false
namespace TT
open PySem PyProof.Rows TS
structure Chg (lo : Nat) (st st' : SortSt) : Prop where
  kind : kindOf st' = kindOf st
  pend : pendingOf st' = pendingOf st
  fail : failedOf st' = failedOf st
  perm : (arrOf st').Perm (arrOf st)
  low : ∀ i, i < lo → (arrOf st')[i]? = (arrOf st)[i]?
section
variable {prog : Program} {w : World} {A : Around} {E : Value → Shared → Prop} {s : Shared}
variable {kd : SortKind} {O : KeyOrd} {ky : Keyed → O.α} {ix : Keyed → Nat} {S : Keyed → Prop}
noncomputable abbrev kf (ky : Keyed → O.α) (st : SortSt) (lo i : Nat) : O.α := ky (at_ (arrOf st) (lo + i))
noncomputable def Up (O : KeyOrd) (ky : Keyed → O.α) (ix : Keyed → Nat) (st : SortSt) (lo n : Nat) : Prop := ∀ i j, i ≤ j → j < n → R O ky ix (at_ (arrOf st) (lo + i)) (at_ (arrOf st) (lo + j))
noncomputable def Dn (O : KeyOrd) (ky : Keyed → O.α) (ix : Keyed → Nat) (st : SortSt) (lo n : Nat) : Prop := ∀ i j, i ≤ j → j < n → R O ky ix (at_ (arrOf st) (lo + j)) (at_ (arrOf st) (lo + i))
structure Lap (ix : Keyed → Nat) (st : SortSt) (lo n m : Nat) : Prop where
  cross : ∀ i j, i < n → n ≤ j → j < m → ix (at_ (arrOf st) (lo + i)) ≤ ix (at_ (arrOf st) (lo + j))
  rise : ∀ i j, n ≤ i → i ≤ j → j < m → ix (at_ (arrOf st) (lo + i)) ≤ ix (at_ (arrOf st) (lo + j))
structure Des (O : KeyOrd) (ky : Keyed → O.α) (ix : Keyed → Nat) (st : SortSt) (lo x neq m : Nat) : Prop where
  le : neq + 1 ≤ x
  dn : Dn O ky ix st lo (x - (neq + 1))
  lt : ∀ i j, i < x - (neq + 1) → x - (neq + 1) ≤ j → j < x → O.klt (kf ky st lo j) (kf ky st lo i)
  eq : ∀ i, x - (neq + 1) ≤ i → i < x → kf ky st lo i = kf ky st lo (x - 1)
  lap : Lap ix st lo (x - (neq + 1)) m
end
end TT
set_option linter.all false
namespace TT
open PySem PyProof.Rows TS
noncomputable def offs : Nat → List (List Keyed) → List (Nat × Nat)
  | _, [] => []
  | o, g :: r => (o, g.length) :: offs (o + g.length) r
noncomputable def two (p : Nat × Nat × Nat) : Nat × Nat := (p.1, p.2.1)
noncomputable def Ord (ix : Keyed → Nat) (l : List (List Keyed)) : Prop := l.Pairwise fun g h => ∀ x ∈ g, ∀ y ∈ h, ix x ≤ ix y
structure Stk (O : KeyOrd) (ky : Keyed → O.α) (ix : Keyed → Nat) (kd : SortKind) (a0 : Array Keyed) (st : SortSt) (segs : List (List Keyed)) (rest : List Keyed) : Prop where
  kind : kindOf st = kd
  fail : failedOf st = none
  arr : (arrOf st).toList = segs.flatten ++ rest
  perm : (arrOf st).Perm a0
  pend : (pendingOf st).toList.map two = offs 0 segs
  each : ∀ g ∈ segs, g ≠ [] ∧ Srt O ky ix g
  ord : Ord ix (segs ++ [rest])
section
variable {O : KeyOrd} {ky : Keyed → O.α} {ix : Keyed → Nat}
end
section
variable {prog : Program} {w : World} {A : Around} {E : Value → Shared → Prop} {s : Shared}
variable {kd : SortKind} {O : KeyOrd} {ky : Keyed → O.α} {ix : Keyed → Nat} {S : Keyed → Prop} {a0 : Array Keyed}
end
end TT
set_option linter.all false
namespace TT
open PySem PyProof.Rows TS
section
variable {prog : Program} {w : World} {A : Around} {E : Value → Shared → Prop} {s : Shared}
variable {kd : SortKind} {O : KeyOrd} {ky : Keyed → O.α} {ix : Keyed → Nat} {S : Keyed → Prop} {a0 : Array Keyed}
end
end TT
set_option linter.all false
namespace TS
open PySem PyProof.Rows
section
variable (O : KeyOrd) (ky : Keyed → O.α)
end
section
variable {prog : Program} {w : World} {A : Around} {E : Value → Shared → Prop} {s : Shared}
variable {kd : SortKind} {O : KeyOrd} {ky : Keyed → O.α} {S : Keyed → Prop}
end
end TS
set_option linter.all false
set_option maxRecDepth 100000
namespace TS
open PySem PyProof.Rows
section
variable {prog : Program} {w : World} {A : Around} {E : Value → Shared → Prop} {s : Shared}
variable {kd : SortKind} {O : KeyOrd} {ky : Keyed → O.α} {S : Keyed → Prop}
end
end TS
set_option Elab.async false
set_option linter.all false
set_option maxRecDepth 100000
namespace L2
open PySem PySem.Spec PyProof.Rows PySem.W
theorem vals_intsAre : ∀ {ns : List Int} {us : List Value}, Vals (ns.map V.int) us → IntsAre us ns
  | [], _, r => by
    rw [List.map_nil] at r
    cases r; exact .nil
  | n :: ns, _, r => by
    rw [List.map_cons] at r
    cases r with
    | cons h t =>
      obtain ⟨t', rfl⟩ := (show ∃ t, _ = Value.int n t from h)
      exact .cons n t' (vals_intsAre t)
section
variable {X : Cx}
end
end L2
set_option Elab.async false
set_option linter.all false
set_option maxRecDepth 100000
namespace L2
open PySem PySem.Spec PyProof.Rows PySem.W
section
variable {X : Cx} {pins : List (Addr × Obj)} {σ : St} {H : Hp} {s : Shared}
end
end L2
set_option Elab.async false
set_option linter.all false
set_option maxRecDepth 100000
set_option maxHeartbeats 4000000
namespace PH
open PySem L2 PySem.W
structure Prs (H : Hp) (p : Addr) (zs : List (Addr × Int × Int)) : Prop where
  at_ : H p = some (.lst (zs.map fun z => V.ref z.1))
  each : ∀ z ∈ zs, H z.1 = some (.tup [.int z.2.1, .int z.2.2])
noncomputable def pD (c : Int × Int) : DV := .tup [.int c.1, .int c.2]
noncomputable def prD (cs : List (Int × Int)) : DV := .lst (cs.map pD)
theorem Prs.same {H H' : Hp} {p : Addr} {zs : List (Addr × Int × Int)} (h : Prs H p zs) (s : Same H H') : Prs H' p zs := ⟨s _ _ h.at_, fun z hz => s _ _ (h.each z hz)⟩
theorem deeps_prs {K : Frag} {H : Hp} : ∀ {zs : List (Addr × Int × Int)}, (∀ z ∈ zs, H z.1 = some (.tup [.int z.2.1, .int z.2.2])) → Deeps K H (zs.map fun z => V.ref z.1) ((zs.map (·.2)).map pD)
  | [], _ => .nil
  | z :: r, h => .cons (.tup (SqT.of (h z List.mem_cons_self)) (.cons (.int _) (.cons (.int _) .nil))) (deeps_prs fun y hy => h y (List.mem_cons_of_mem _ hy))
theorem Prs.deep {K : Frag} {H : Hp} {p : Addr} {zs : List (Addr × Int × Int)} (h : Prs H p zs) : Deep K H (.ref p) (prD (zs.map (·.2))) := .lst (SqL.of h.at_) (deeps_prs h.each)
theorem ht_pD (c : Int × Int) : ht (pD c) ≤ 2 := by
  unfold pD
  rw [ht_tup]
  unfold hts hts hts ht
  decide
theorem hts_pD : ∀ cs : List (Int × Int), hts (cs.map pD) ≤ 2
  | [] => by unfold List.map hts; decide
  | c :: r => by
    rw [List.map_cons]
    unfold hts
    have := ht_pD c
    have := hts_pD r
    trivial
theorem ref_at {zs : List (Addr × Int × Int)} {i : Nat} {y : V} (h : (zs.map fun z => V.ref z.1)[i]? = some y) : ∃ z, zs[i]? = some z ∧ y = V.ref z.1 := by
  rw [List.getElem?_map] at h
  cases e : zs[i]? with
  | none => rw [e] at h; cases h
  | some z => rw [e] at h; exact ⟨z, rfl, (Option.some.inj h).symm⟩
end PH
set_option Elab.async false
set_option linter.all false
set_option maxRecDepth 100000
namespace L2
open PySem PySem.Spec PyProof.Rows PySem.W
section
variable {X : Cx}
end
end L2
set_option linter.all false
namespace PH
open L2
end PH
set_option Elab.async false
set_option linter.all false
set_option maxRecDepth 100000
set_option maxHeartbeats 4000000
namespace PH
open PySem L2 PySem.W
theorem Prs.ne {H : Hp} {p : Addr} {zs : List (Addr × Int × Int)} (h : Prs H p zs) {q : Addr} {xs : List V} (hq : H q = some (.lst xs)) : ∀ z ∈ zs, z.1 ≠ q := fun z hz e => by
  have := h.each z hz
  rw [e, hq] at this
  cases this
theorem Prs.app {H : Hp} {p t : Addr} {zs : List (Addr × Int × Int)} {a b : Int} (h : Prs H p zs) (ht : H t = some (.tup [.int a, .int b])) : Prs (upd H p (.lst ((zs.map fun z => V.ref z.1) ++ [V.ref t]))) p (zs ++ [(t, a, b)]) := by
  have n1 := h.ne h.at_
  have n2 : t ≠ p := fun e => by rw [e, h.at_] at ht; cases ht
  refine ⟨by rw [upd_same, List.map_append]; rfl, fun z hz => ?_⟩
  rcases List.mem_append.mp hz with q | q
  · rw [upd_ne (n1 z q)]; exact h.each z q
  · have : z = (t, a, b) := by simpa using q
    subst this
    rw [upd_ne n2]; exact ht
theorem Prs.other {H : Hp} {p q : Addr} {zs : List (Addr × Int × Int)} {xs ys : List V} (h : Prs H p zs) (hq : H q = some (.lst xs)) (hne : p ≠ q) : Prs (upd H q (.lst ys)) p zs := ⟨by rw [upd_ne hne]; exact h.at_, fun z hz => by rw [upd_ne (h.ne hq z hz)]; exact h.each z hz⟩
end PH
set_option Elab.async false
set_option linter.all false
set_option maxRecDepth 100000
set_option maxHeartbeats 4000000
namespace PH
open PySem L2 PySem.W
theorem at_refs {zs : List (Addr × Int × Int)} {i : Nat} {z : Addr × Int × Int} (h : zs[i]? = some z) : atI (zs.map fun z => V.ref z.1) (i : Int) = some (.ref z.1) := atI_nat (by rw [List.getElem?_map, h]; rfl)
end PH
set_option Elab.async false
set_option linter.all false
set_option maxRecDepth 100000
namespace L2
open PySem PySem.Spec PyProof.Rows
theorem ps_setC {X : Cx} {elt tg iter : Expr} {ifs : List Expr} {scope : Scope} {pos : Pos} {N : List Str} {js : List (Option Nat)} {wi : TI} {g : TG} {tc : TT} {te : TE} {y : Str} {iy : Nat} {py spos : Pos} (hN : X.N.Nodup) (hiy : X.N[iy]? = some y) (hy : X.env.scope.names.lookup y = some .local) (hcalm : X.calm = true) (S : CompScope X N js scope)
    (hi : PI X tg iter wi) (hg : ∀ C s H fp, PG (compCx X N scope C s H fp) tg g) (ht : ∀ C s H fp, PIfs (compCx X N scope C s H fp) ifs tc) (he : ∀ C s H fp, PE (compCx X N scope C s H fp) elt te)
    (hs : ∀ x, foldedSetIterable iter X.env x = pure x := by intro _; rfl) (hsw : swapsWith (.ListComp elt [⟨tg, iter, ifs, 0⟩] scope pos) (some (.Name y py)) spos.line X.env = pure true := by rfl) :
    PS X (.Assign [.Name y py] (.ListComp elt [⟨tg, iter, ifs, 0⟩] scope pos) spos) (tAsg (tComp js wi g tc te) (gName iy)) := by
  intro pins s σ H ED I h
  have hc : ∀ x ∈ scope.names, x.2 = .free → ∃ c, X.env.cells.lookup x.1 = some c := fun x hx e => I.ok.has _ (S.free x hx e)
  rw [exec_Assign_Name_used _ _ _ _ hsw]
  refine wpAny_bind (wpAny_standAt (wpAny_bind ?_))
  show wpAny _ X.A (do let _ ← comprehension (.ListComp elt [⟨tg, iter, ifs, 0⟩] scope pos) scope X.env _ (newList []) false (eval iter X.env) (some (assign (.Name y py) X.env))) _ _ s
  refine wpAny_bind (wpAny_mono (Q := fun _ s' => SP X pins ED .next s') ?_ (fun _ s' hq => wpAny_pure (wpAny_pure hq)) fun _ _ e => e)
  refine wpAny_comprehension_free (use := some (assign (.Name y py) X.env)) rfl hs (clos_eq hc) S.kind S.locs (thn (hi pins s σ H _ I h) fun v s1 h1 => thn h1 fun itv s2 h2 => ?_)
  obtain ⟨it, fp, tn, J, H2, e, I2, T, st2, f2, q⟩ := h2
  subst e
  refine wpAny_newObj_type (wpAny_newFunctionEnv S.nocell (by intro y hy; simp at hy) (fun h₁ hns₁ hsb₁ => ?_) S.kind)
  dsimp only at hns₁ hsb₁ ⊢
  generalize hH2 : s2.heap.push { cls := .type "list", dict := none, data := .seq ([] : List Value).toArray } = G2 at hns₁ hsb₁ ⊢
  have hC : G2.objs.size = s2.heap.objs.size + 1 := by rw [← hH2, Heap.size_push]
  have hDC : s2.heap.objs.size ≠ G2.objs.size := by rw [hC]; exact Nat.ne_of_lt (Nat.lt_succ_self _)
  have hC0 : s2.heap.objs.size ≤ G2.objs.size := by rw [hC]; exact Nat.le_succ _
  have below : ∀ b, b < s2.heap.objs.size → b ≠ G2.objs.size := fun b hb => by rw [hC]; exact Nat.ne_of_lt (Nat.lt_succ_of_lt hb)
  have old : ∀ b o, s2.heap.get? b = some o → h₁.get? b = some o := fun b o e => hsb₁.extBut b o (below b (Heap.lt_size e)) (Heap.get?_push_of_some _ (hH2 ▸ Heap.get?_push_of_some _ e))
  have hacc : h₁.get? s2.heap.objs.size = some { cls := .type "list", data := .seq ([] : List Value).toArray } := hsb₁.extBut _ _ hDC (Heap.get?_push_of_some _ (hH2 ▸ Heap.get?_push_size _ rfl))
  have hfp : ∀ b ∈ fp, b < s2.heap.objs.size := fun b hb => by obtain ⟨o, e, _⟩ := T.obj 0 _ st2 b hb; exact Heap.lt_size e
  obtain ⟨W, ⟨m0, w0⟩, turn⟩ := q s2.heap.objs.size (I2.hok.fresh (Nat.le_refl _))
  have stat : ∀ {H' : Hp}, (∀ b ∈ fp, H' b = none) → ∀ b ∈ fp, FpOk (compCx X N scope G2.objs.size s2 H2 fp) [] H' b := fun {H'} hn b hb =>
    ⟨hn b hb, below b (hfp b hb), fun z => by
      rcases List.mem_cons.mp (I2.stkSub b z) with q | q
      · exact (f2 b hb).2.1 q
      · exact (f2 b hb).2.2.1 q, .inl hb, fun x c e => (f2 b hb).2.2.2.2.1 x c (clos_sub _ _ (fun _ _ z => by simp at z) e), fun p hp => absurd hp (by simp [compCx])⟩
  have loop : ∀ s3 : Shared, s3 = { s2 with heap := h₁, toks := s2.toks + ([] : List (Str × Value)).length } →
      codeAny (model X.prog X.w) X.A (.compLoop (.ListComp elt [⟨tg, iter, ifs, 0⟩] scope pos) 0 (.ref it) (.ref s2.heap.objs.size) (compEnvC scope (clos X.env.cells scope.names []) G2.objs.size X.env))
        (compPost (model X.prog X.w) X.A X.xe (some (assign (.Name y py) X.env)) (fun _ s' => SP X pins ED .next s') (.ref s2.heap.objs.size) G2.objs.size) s3 := by
    rintro s3 rfl
    have I3 : Inv (compCx X N scope G2.objs.size s2 H2 fp) [] (innerSt js σ) (upd H2 s2.heap.objs.size (.lst [])) { s2 with heap := h₁, toks := s2.toks + ([] : List (Str × Value)).length } :=
      inv_comp S I2 f2 hfp old (Nat.le_refl _) hC0 hDC ⟨_, hacc⟩ hns₁
    refine compLoop_gen (fun n s' => ∃ i σ' H', Inv (compCx X N scope G2.objs.size s2 H2 fp) [] σ' H' s' ∧ tn i s'.heap ∧ (∀ b ∈ fp, H' b = none) ∧ W i n σ' H') ?_ m0
      ⟨0, _, _, I3, T.keep 0 _ _ st2 fun b _ o e => old b o e, fun b hb => by rw [upd_ne (Nat.ne_of_lt (hfp b hb))]; exact (f2 b hb).1, w0⟩
    rintro n s4 ⟨i, σ4, H4, I4, st4, fr4, w4⟩
    rcases turn i n σ4 H4 w4 with ⟨stop, qn⟩ | ⟨go, step⟩
    · refine thn (T.done (compCx X N scope G2.objs.size s2 H2 fp) rfl rfl rfl hcalm i [] s4 σ4 H4 (fun _ _ => False) I4 (stat fr4) st4 stop) fun r s5 ⟨hr, I5⟩ => ?_
      subst hr
      obtain ⟨m5, n5, _⟩ := I5.loc
      have hos : s5.os = s2.os := I5.os
      obtain ⟨hh, gg, dd, tt, os5⟩ := s5
      obtain rfl : os5 = s2.os := hos
      have sb : Heap.SameBut G2.objs.size hh hh := ⟨rfl, fun _ _ => rfl⟩
      have un : Un (frs X.stack) fp H2 H4 s2.heap hh := by
        have u := I5.base
        have nC : ∀ b o, s2.heap.get? b = some o → b ≠ G2.objs.size := fun b o e => below b (Heap.lt_size e)
        exact ⟨fun b o e n hf hx => sb.extBut b o (nC b o e) (u.keep b o e n hf hx), fun b o e n hf hx => by
            obtain ⟨sl, z⟩ := u.slot b o e n hf hx
            exact ⟨sl, sb.extBut b _ (nC b o e) z⟩, u.free, fun b o e hx => by
            obtain ⟨o', z⟩ := u.there b o e hx
            exact ⟨o', sb.extBut b _ (nC b o e) z⟩, u.tups, u.frzs, u.tbls⟩
      have hok : HOk X.prog X.w H4 hh := fun b ob e => (I5.hok b ob e).stay (fun c v hcv z => sb.extBut c v (fun q => by
        rcases hcv with hcv | hcv
        · rw [← hcv, q] at e
          have := I5.free
          have this' : H4 G2.objs.size = none := this
          rw [e] at this'; cases this'
        · rw [q] at hcv
          have this' : H4 G2.objs.size = none := I5.free
          rw [hcv] at this'; cases this') z) (fun _ z => z) fun _ _ z => z
      have IE := I2.call (h' := hh) (g' := gg) (d' := dd) (t' := tt) (ch := fp) un hok I5.bare fun b hb => ⟨(f2 b hb).2.2.2.1, (f2 b hb).2.1, (f2 b hb).2.2.2.2.1, (f2 b hb).2.2.2.2.2⟩
      have hCf : H4 G2.objs.size = none := I5.free
      have hCL : G2.objs.size ≠ X.env.locals := Ne.symm (below _ I2.lt)
      have hCc : ∀ x c, X.env.cells.lookup x = some c → c ≠ G2.objs.size := fun x c e => by
        obtain ⟨v', o', e', _⟩ := I2.cell x c e
        exact below _ (Heap.lt_size e')
      refine wpAny_assign_Name (store_ok2 IE hN hiy (.inl hy) (show RelV (.ref s2.heap.objs.size) (.ref s2.heap.objs.size) from rfl) (fun s6 I6 ⟨a6, sb6, ha6⟩ => ?_) (.inr hy))
      have nea : G2.objs.size ≠ a6 := by
        rcases ha6 with z | z
        · rw [z]; exact hCL
        · exact Ne.symm (hCc _ _ z)
      refine ⟨m5, n5.sameBut sb6 nea, fun h' sb' => ⟨_, H4, ?_, qn⟩⟩
      have := I6.turned (h' := h') (t' := s6.toks) (it := G2.objs.size) (fun b o ne e => (sb'.2 b ne).trans e) hCf hCL (.inr (Nat.le_trans I2.sz hC0)) hCc (fun p hp => below _ (Heap.lt_size (I2.pin p hp).1))
      exact this
    · refine thn (T.item (compCx X N scope G2.objs.size s2 H2 fp) rfl rfl rfl hcalm i [] s4 σ4 H4 (fun _ _ => False) I4 (stat fr4) st4 go) fun r s5 ⟨u, hr, h5⟩ => ?_
      subst hr
      refine thn h5 fun _ s6 ⟨x, H6, I6, r6, y6, st6, fr6⟩ => ?_
      have I6' := I6.pinned (stat fr6) (T.obj _ _ st6)
      refine thn (hg _ _ _ _ _ s6 σ4 H6 x u _ I6' r6 (step x H6 y6)) fun _ s7 ⟨σ7, H7, I7, q7⟩ => ?_
      refine thn (ht _ _ _ _ _ s7 σ7 H7 _ I7 q7) fun b s8 ⟨H8, I8, q8⟩ => ?_
      have again : ∀ {s9 : Shared} {H9 : Hp}, Inv (compCx X N scope G2.objs.size s2 H2 fp) ([] ++ pinsAt fp s6.heap) σ7 H9 s9 → (∃ m', m' < n ∧ W (i + 1) m' σ7 H9) → ∃ m, m < n ∧ ∃ i σ' H', Inv (compCx X N scope G2.objs.size s2 H2 fp) [] σ' H' s9 ∧ tn i s9.heap ∧ (∀ b ∈ fp, H' b = none) ∧ W i m σ' H' := fun {s9 H9} I9 ⟨m', hm, w9⟩ => by
        refine ⟨m', hm, i + 1, σ7, H9, I9.unpinned, T.keep _ _ _ st6 fun b hb o e => (I9.pin (b, o) (List.mem_append_right _ (List.mem_append_right _ (mem_pinsAt hb e)))).1, fun b hb => ?_, w9⟩
        obtain ⟨o, e, d⟩ := T.obj _ _ st6 b hb
        exact (I9.pin (b, o) (List.mem_append_right _ (List.mem_append_right _ (mem_pinsAt hb e)))).2.1
      cases b with
      | false =>
        rw [if_neg Bool.false_ne_true] at q8 ⊢
        exact again I8 q8
      | true =>
        rw [if_pos rfl] at q8 ⊢
        refine thn (he _ _ _ _ _ s8 σ7 H8 _ I8 q8) fun xv s9 ⟨xx, H9, I9, r9, q9⟩ => ?_
        refine thn (mt_append _ s9 σ7 H9 (.ref s2.heap.objs.size) [xx] (.ref s2.heap.objs.size) [xv] _ I9 rfl (.cons r9 .nil) q9) fun _ s10 ⟨_, H10, I10, _, q10⟩ => ?_
        exact again I10 q10
  exact codeAny_compStart_list (loop _ rfl) (T.self _ _ _ _ _ (T.keep 0 _ _ st2 fun b _ o e => old b o e) (loop _ rfl))
end L2
set_option Elab.async false
set_option linter.all false
set_option maxRecDepth 100000
namespace L2
open PySem PySem.Spec PyProof.Rows PySem.W
section
variable {X : Cx}
end
end L2
set_option Elab.async false
set_option linter.all false
set_option maxRecDepth 100000
namespace L2
open PySem PySem.Spec PyProof.Rows PySem.W
section
variable {X : Cx}
end
theorem atI_neg {α : Type} {xs : List α} {d : Nat} {i : Int} {v : α} (hi : i = -(d : Int)) (h1 : 1 ≤ d) (h2 : d ≤ xs.length) (h : xs[xs.length - d]? = some v) : atI xs i = some v := by
  have e : ixN xs.length i = some (xs.length - d) := by
    unfold ixN
    rw [if_neg (by trivial), if_pos (by trivial)]
    congr 1
    trivial
  unfold atI; rw [e]; exact h
end L2
namespace PH
open PySem L2 PySem.W
end PH
set_option Elab.async false
set_option linter.all false
namespace PH
noncomputable def lcp : List Int → List Int → Nat
  | x :: a, y :: b => if x = y then lcp a b + 1 else 0
  | _, _ => 0
noncomputable def tal (t : List Int) (b a : Nat) : Nat := lcp (t.drop b) (t.drop a)
noncomputable def lng (t : List Int) (a : Nat) : Nat → Nat × Nat
  | 0 => (a, 0)
  | n + 1 => if (lng t a n).2 ≤ tal t n a then (n, tal t n a) else lng t a n
noncomputable def cpl (t : List Int) (a : Nat) : Nat := (lng t a a).2
end PH
set_option Elab.async false
set_option linter.all false
set_option maxRecDepth 100000
set_option maxHeartbeats 4000000
namespace PH
open PySem L2 PySem.W
theorem gNz {i : Nat} {v v' : V} {σ : St} {H : Hp} {Q : St → Hp → Prop} (e : v' = v) (h : gName i v' σ H Q) : gName i v σ H Q := by
  subst e; exact h
theorem at_intsZ {ns : List Int} {i : Nat} {z : Int} (h : ns[i]? = some z) : atI (ns.map V.int) (i : Int) = some (.int z) := atI_nat (by rw [List.getElem?_map, h]; rfl)
inductive Pce where
  | sg (s : Int)
  | cp (b n : Int)
noncomputable def pO : Pce → HO
  | .sg s => .tup [.str "sign", .int s]
  | .cp b n => .tup [.str "copy", .int b, .int n]
structure Tel (H : Hp) (p : Addr) (zs : List (Addr × Pce)) : Prop where
  at_ : H p = some (.lst (zs.map fun z => V.ref z.1))
  each : ∀ z ∈ zs, H z.1 = some (pO z.2)
theorem Tel.ne {H : Hp} {p : Addr} {zs : List (Addr × Pce)} (h : Tel H p zs) : ∀ z ∈ zs, z.1 ≠ p := fun z hz e => by
  have h1 := h.each z hz
  rw [e, h.at_] at h1
  cases hz2 : z.2 <;> rw [hz2] at h1 <;> cases h1
noncomputable def spCellAt (K : Frag) : Sp := fun vs H Q _ => ∃ (a : Addr) (ns : List Int) (k : Nat), vs = [.ref a, .int (k : Int)] ∧ SqL K H a (ns.map V.int) ∧ ∀ x : Int, Q (.int x) H
noncomputable def spStir : Sp := fun vs H Q _ => ∃ (c : Int) (k : Nat), vs = [.int c, .int (k : Int)] ∧ k ≤ 1000 ∧ ∀ n : Int, 0 ≤ n → Q (.int n) H
end PH
set_option Elab.async false
set_option linter.all false
namespace PH
end PH
set_option Elab.async false
set_option linter.all false
set_option maxRecDepth 100000
set_option maxHeartbeats 4000000
namespace PH
open PySem L2 PySem.W
theorem sgs_app {fs : List Int} {x : Int} (h : ∀ y ∈ fs, 0 ≤ y ∧ y ≤ 255) (h0 : 0 ≤ x) (h1 : x ≤ 255) : ∀ y ∈ fs ++ [x], 0 ≤ y ∧ y ≤ 255 := fun y hy => by
  rcases List.mem_append.mp hy with q | q
  · exact h y q
  · have : y = x := by simpa using q
    trivial
noncomputable def spTextS (K : Frag) : Sp := fun vs H Q _ => ∃ (a : Addr) (ns : List Int) (most : Nat), vs = [.ref a, .int (most : Int)] ∧ SqL K H a (ns.map V.int) ∧ ns.length ≤ 63 ∧ 60 ≤ most ∧ most ≤ 400 ∧
  ∀ (T : Addr) (ts : List Int) (H' : Hp), Same H H' → H T = none → H' T = some (lsI ts) → ts.length ≤ most → (∀ y ∈ ts, 0 ≤ y ∧ y ≤ 255) → Q (.ref T) H'
end PH
set_option Elab.async false
set_option linter.all false
set_option maxRecDepth 100000
namespace L2
open PySem PySem.Spec PyProof.Rows PySem.W
section
variable {X : Cx}
end
end L2
namespace L2
open PySem PySem.Spec PyProof.Rows PySem.W
section
variable {prog : Program} {w : World} {A : Around} {E : Value → Shared → Prop} {s : Shared}
end
section
variable {X : Cx} {pos : Pos}
end
end L2
set_option Elab.async false
set_option linter.all false
set_option maxRecDepth 100000
set_option maxHeartbeats 4000000
namespace PH
open PySem L2 PySem.W
noncomputable def Stp (t : List Int) (a : Nat) : Pce → Nat → Prop
  | .sg s, a' => t[a]? = some s ∧ a' = a + 1
  | .cp b n, a' => ∃ k m : Nat, b = (k : Int) ∧ n = (m : Int) ∧ 1 ≤ k ∧ k ≤ a ∧ 1 ≤ m ∧ m ≤ tal t (a - k) a ∧ a' = a + m
noncomputable def Chn (t : List Int) : Nat → List Pce → Prop
  | a, [] => a = t.length
  | a, p :: r => ∃ a', Stp t a p a' ∧ Chn t a' r
noncomputable def nx : Pce → Nat
  | .sg _ => 0
  | .cp _ n => n.toNat
noncomputable def lgB (t : List Int) : Nat → List Pce → Bool
  | _, [] => true
  | _, [_] => true
  | a, p :: q :: r => decide (cpl t a ≤ nx p) && lgB t (a + max 1 (nx p)) (q :: r)
structure Sofar (t : List Int) (a : Nat) (ps : List Pce) (lg : Bool) : Prop where
  ch : ∀ r, Chn t a r → Chn t 0 (ps ++ r)
  on : a < t.length → ∀ q r, lgB t 0 (ps ++ q :: r) = (lg && lgB t a (q :: r))
  en : a = t.length → lgB t 0 ps = lg
end PH
set_option Elab.async false
set_option linter.all false
set_option maxRecDepth 100000
namespace L2
open PySem PySem.Spec PyProof.Rows PySem.W
section
variable {X : Cx} {pins : List (Addr × Obj)} {σ : St} {H : Hp} {s : Shared}
end
end L2
set_option Elab.async false
set_option linter.all false
set_option maxRecDepth 100000
namespace HT
open PySem PyProof.Rows
open AutoSeq1 (wpAny_loadPart')
open MeetsSeq MeetsSeq3 SeqAt
section
variable {prog : Program} {w : World} {A : Around} {E : Value → Shared → Prop} {s : Shared}
end
end HT
namespace L2
open PySem PySem.Spec PyProof.Rows PySem.W
section
variable {X : Cx}
end
end L2
set_option Elab.async false
set_option linter.all false
set_option maxRecDepth 100000
namespace L2
open PySem PySem.Spec PyProof.Rows PySem.W PySem.Calls Att
open PySem.Builtin.Int (intBits)
section
variable {X : Cx}
end
end L2
set_option Elab.async false
set_option linter.all false
set_option maxRecDepth 100000
namespace L2
open PySem PySem.Spec PyProof.Rows PySem.W
section
variable {X : Cx}
end
end L2
set_option Elab.async false
set_option linter.all false
set_option maxRecDepth 100000
set_option maxHeartbeats 4000000
namespace PH
open PySem L2 PySem.W
end PH
set_option Elab.async false
set_option linter.all false
set_option maxRecDepth 100000
namespace L2
open PySem PySem.Spec PyProof.Rows PySem.W
section
variable {X : Cx}
end
end L2
set_option Elab.async false
set_option linter.all false
set_option maxRecDepth 100000
set_option maxHeartbeats 4000000
namespace L2
open PySem PySem.Spec PyProof.Rows PySem.W
section
variable {X : Cx}
end
end L2
namespace PH
open PySem L2 PySem.W
structure ExK (K : Frag) (cN c1 c2 c3 c4 c5 c6 : Addr) : Prop where
  k1 : kitOne K (.ref cN) (.ref c1) = some false
  k2 : kitOne K (.ref cN) (.ref c2) = some false
  k3 : kitOne K (.ref cN) (.ref c3) = some false
  k4 : kitOne K (.ref cN) (.ref c4) = some false
  k5 : kitOne K (.ref cN) (.ref c5) = some false
  k6 : kitOne K (.ref cN) (.ref c6) = some false
end PH
set_option Elab.async false
set_option linter.all false
set_option maxRecDepth 100000
set_option maxHeartbeats 4000000
namespace PH
open PySem L2 PySem.W
end PH
set_option Elab.async false
set_option linter.all false
set_option maxRecDepth 100000
namespace L2
open PySem PySem.Spec PyProof.Rows PySem.W
end L2
set_option Elab.async false
set_option linter.all false
set_option maxRecDepth 100000
set_option maxHeartbeats 4000000
namespace PH
open PySem L2 PySem.W
theorem Tel.set {H : Hp} {p t : Addr} {zs : List (Addr × Pce)} {c : Pce} {j : Nat} (h : Tel H p zs) (ht : H t = some (pO c)) : Tel (upd H p (.lst ((zs.map fun z => V.ref z.1).set j (V.ref t)))) p (zs.set j (t, c)) := by
  have hne : ∀ z ∈ zs.set j (t, c), z.1 ≠ p ∧ H z.1 = some (pO z.2) := fun z hz => by
    rcases List.mem_or_eq_of_mem_set hz with q | q
    · exact ⟨h.ne z q, h.each z q⟩
    · subst q
      refine ⟨fun e => ?_, ht⟩
      have e' : t = p := e
      rw [e', h.at_] at ht
      cases c <;> cases ht
  refine ⟨by rw [upd_same, List.map_set], fun z hz => ?_⟩
  rw [upd_ne (hne z hz).1]
  exact (hne z hz).2
end PH
set_option Elab.async false
set_option linter.all false
set_option maxRecDepth 100000
namespace L2
open PySem PySem.Spec PyProof.Rows PySem.W
section
variable {pg : Program} {w : World} {B : Around} {E : Value → Shared → Prop} {s : Shared}
end
end L2
namespace L2
open PySem PySem.Spec PyProof.Rows PySem.W
section
variable {X : Cx} {pins : List (Addr × Obj)} {σ : St} {H : Hp} {s : Shared}
end
end L2
set_option Elab.async false
set_option linter.all false
set_option maxRecDepth 100000
namespace PH
noncomputable def gx0 : List (List Int) := (List.range 256).map fun k : Nat => [(k : Int)]
noncomputable def gst (T : List (List Int)) (r : Nat × Nat) : List (List Int) := T ++ [(T[r.1]?).getD [] ++ (T[r.2]?).getD []]
noncomputable def gx (rs : List (Nat × Nat)) : List (List Int) := rs.foldl gst gx0
noncomputable def ex (rs : List (Nat × Nat)) (k : Nat) : List Int := ((gx rs)[k]?).getD []
noncomputable def exs (rs : List (Nat × Nat)) (row : List Nat) : List Int := (row.map (ex rs)).flatten
noncomputable def GrOk (rs : List (Nat × Nat)) : Prop := ∀ i r, rs[i]? = some r → r.1 < 256 + i ∧ r.2 < 256 + i
theorem gx0_len : gx0.length = 256 := by unfold gx0; rw [List.length_map, List.length_range]
theorem gx0_at {k : Nat} (h : k < 256) : gx0[k]? = some [(k : Int)] := by
  unfold gx0
  rw [List.getElem?_map, List.getElem?_range h]
  rfl
theorem fold_len : ∀ (rs : List (Nat × Nat)) (T : List (List Int)), (rs.foldl gst T).length = T.length + rs.length
  | [], T => rfl
  | r :: rs, T => by
    show (rs.foldl gst (gst T r)).length = _
    rw [fold_len rs (gst T r)]
    unfold gst
    rw [List.length_append, List.length_singleton, List.length_cons]
    trivial
theorem gx_len (rs : List (Nat × Nat)) : (gx rs).length = 256 + rs.length := by
  unfold gx
  rw [fold_len, gx0_len]
theorem fold_pre : ∀ (rs : List (Nat × Nat)) (T : List (List Int)) (k : Nat), k < T.length → (rs.foldl gst T)[k]? = T[k]?
  | [], T, k, h => rfl
  | r :: rs, T, k, h => by
    show (rs.foldl gst (gst T r))[k]? = _
    have hl : (gst T r).length = T.length + 1 := by unfold gst; rw [List.length_append]; rfl
    rw [fold_pre rs (gst T r) k (by trivial)]
    unfold gst
    rw [List.getElem?_append_left h]
theorem gx_low {rs : List (Nat × Nat)} {k : Nat} (h : k < 256) : (gx rs)[k]? = some [(k : Int)] := by
  unfold gx
  rw [fold_pre rs gx0 k (by rw [gx0_len]; exact h)]
  exact gx0_at h
theorem ex_low {rs : List (Nat × Nat)} {k : Nat} (h : k < 256) : ex rs k = [(k : Int)] := by
  unfold ex
  rw [gx_low h]
  rfl
theorem gx_snoc (rs : List (Nat × Nat)) (r : Nat × Nat) : gx (rs ++ [r]) = gx rs ++ [ex rs r.1 ++ ex rs r.2] := by
  unfold gx
  rw [List.foldl_append]
  rfl
theorem gx_pre {rs qs : List (Nat × Nat)} {k : Nat} (h : k < 256 + rs.length) : (gx (rs ++ qs))[k]? = (gx rs)[k]? := by
  unfold gx
  rw [List.foldl_append]
  exact fold_pre qs _ k (by have := gx_len rs; unfold gx at this; trivial)
theorem ex_pre {rs qs : List (Nat × Nat)} {k : Nat} (h : k < 256 + rs.length) : ex (rs ++ qs) k = ex rs k := by
  unfold ex
  rw [gx_pre h]
noncomputable def glen (rs : List (Nat × Nat)) : List Int := (gx rs).map fun t => (t.length : Int)
theorem exs_cons (rs : List (Nat × Nat)) (k : Nat) (row : List Nat) : exs rs (k :: row) = ex rs k ++ exs rs row := rfl
theorem exs_app (rs : List (Nat × Nat)) (a b : List Nat) : exs rs (a ++ b) = exs rs a ++ exs rs b := by
  unfold exs
  rw [List.map_append, List.flatten_append]
end PH
set_option Elab.async false
set_option linter.all false
set_option maxRecDepth 100000
set_option maxHeartbeats 4000000
namespace L2
open PySem PySem.Spec PyProof.Rows PySem.W
noncomputable def iOr (w1 w2 : TI) : TI := fun σ H R => w1 σ H R ∨ w2 σ H R
theorem pi_or {X : Cx} {tg it : Expr} {w1 w2 : TI} (h1 : PI X tg it w1) (h2 : PI X tg it w2) : PI X tg it (iOr w1 w2) := by
  intro pins s σ H R I h
  rcases h with h | h
  · exact h1 pins s σ H R I h
  · exact h2 pins s σ H R I h
end L2
namespace PH
open PySem L2 PySem.W
noncomputable def FRg (mg : Str → Option Value) : Prop := ∃ u, mg "FIRST_RULE" = some u ∧ RelV (.int 256) u
noncomputable def rn (zs : List (Addr × Int × Int)) : List (Nat × Nat) := zs.map fun z => (z.2.1.toNat, z.2.2.toNat)
noncomputable def GrZ (zs : List (Addr × Int × Int)) : Prop := ∀ (i : Nat) (z : Addr × Int × Int), zs[i]? = some z → 0 ≤ z.2.1 ∧ z.2.1 < (256 : Int) + (i : Int) ∧ 0 ≤ z.2.2 ∧ z.2.2 < (256 : Int) + (i : Int)
noncomputable def RwZ (n : Nat) (row : List Int) : Prop := ∀ y ∈ row, 0 ≤ y ∧ y < (256 : Int) + (n : Int)
theorem GrZ.ok {zs : List (Addr × Int × Int)} (h : GrZ zs) : GrOk (rn zs) := fun i r e => by
  unfold rn at e
  rw [List.getElem?_map] at e
  cases e1 : zs[i]? with
  | none => rw [e1] at e; cases e
  | some z =>
    rw [e1] at e
    have e2 : (z.2.1.toNat, z.2.2.toNat) = r := Option.some.inj e
    have := h i z e1
    rw [← e2]
    exact ⟨by show z.2.1.toNat < _; trivial, by show z.2.2.toNat < _; trivial⟩
theorem rn_len (zs : List (Addr × Int × Int)) : (rn zs).length = zs.length := List.length_map _
noncomputable def rwN (row : List Int) : List Nat := row.map Int.toNat
theorem RwZ.at {n : Nat} {row : List Int} {i : Nat} {y : Int} (h : RwZ n row) (e : row[i]? = some y) : 0 ≤ y ∧ y < (256 : Int) + (n : Int) := h y (List.mem_of_getElem? e)
end PH
namespace PH
open PySem L2 PySem.W
end PH
set_option Elab.async false
set_option linter.all false
set_option maxRecDepth 100000
set_option maxHeartbeats 4000000
namespace PH
open PySem L2 PySem.W
theorem ex_new (rs : List (Nat × Nat)) (r : Nat × Nat) : ex (rs ++ [r]) (256 + rs.length) = ex rs r.1 ++ ex rs r.2 := by
  unfold ex
  rw [gx_snoc, List.getElem?_append_right (by rw [gx_len]; trivial), gx_len, Nat.sub_self]
  rfl
structure Txs (H : Hp) (X : Addr) (as : List Addr) (f : Nat → List Int) : Prop where
  at_ : H X = some (.lst (as.map V.ref))
  each : ∀ j a, as[j]? = some a → a ≠ X ∧ H a = some (lsI (f j))
theorem Txs.same {H H' : Hp} {X : Addr} {as : List Addr} {f : Nat → List Int} (h : Txs H X as f) (s : Same H H') : Txs H' X as f := ⟨s _ _ h.at_, fun j a e => ⟨(h.each j a e).1, s _ _ (h.each j a e).2⟩⟩
theorem Txs.app {H : Hp} {X l : Addr} {as : List Addr} {f f2 : Nat → List Int} {t : List Int} (h : Txs H X as f) (hl : H l = some (lsI t)) (hn : l ≠ X) (e1 : ∀ j, j < as.length → f2 j = f j) (e2 : f2 as.length = t) : Txs (upd H X (.lst (as.map V.ref ++ [V.ref l]))) X (as ++ [l]) f2 := by
  refine ⟨by rw [upd_same, List.map_append]; rfl, fun j a e => ?_⟩
  by_cases hj : j < as.length
  · rw [List.getElem?_append_left hj] at e
    have := h.each j a e
    exact ⟨this.1, by rw [upd_ne this.1, e1 j hj]; exact this.2⟩
  · have hj2 : j = as.length := by
      have := (List.getElem?_eq_some_iff.mp e).1
      rw [List.length_append, List.length_singleton] at this
      trivial
    subst hj2
    rw [List.getElem?_append_right (Nat.le_refl _), Nat.sub_self] at e
    have ea : l = a := Option.some.inj e
    subst ea
    exact ⟨hn, by rw [upd_ne hn, e2]; exact hl⟩
noncomputable def spPut : Sp := fun vs H Q _ => ∃ (p q : Addr) (zs : List (Addr × Int × Int)) (row : List Int), vs = [.ref p, .ref q] ∧ Prs H p zs ∧ GrZ zs ∧ H q = some (lsI row) ∧ RwZ zs.length row ∧ zs.length ≤ 10000 ∧ row.length ≤ 100000 ∧ (∀ k, k < 256 + zs.length → (ex (rn zs) k).length ≤ 5000) ∧ (exs (rn zs) (rwN row)).length ≤ 100000 ∧
  ∀ (D : Addr) (H' : Hp), Same H H' → H D = none → H' D = some (lsI (exs (rn zs) (rwN row))) → Q (.ref D) H'
theorem at_refsA {as : List Addr} {j : Nat} {a : Addr} (h : as[j]? = some a) : atI (as.map V.ref) (j : Int) = some (.ref a) := atI_nat (by rw [List.getElem?_map, h]; rfl)
theorem exs_take {rs : List (Nat × Nat)} {row : List Int} {i : Nat} {y : Int} (h : row[i]? = some y) : exs rs (rwN (row.take (i + 1))) = exs rs (rwN (row.take i)) ++ ex rs y.toNat := by
  rw [take_at h]
  unfold rwN
  rw [List.map_append, exs_app]
  show _ ++ (ex rs y.toNat ++ []) = _
  rw [List.append_nil]
theorem exs_pre_len {rs : List (Nat × Nat)} {row : List Int} (i : Nat) : (exs rs (rwN (row.take i))).length ≤ (exs rs (rwN row)).length := by
  have e : rwN row = rwN (row.take i) ++ rwN (row.drop i) := by unfold rwN; rw [← List.map_append, List.take_append_drop]
  rw [e, exs_app, List.length_append]
  trivial
end PH
set_option Elab.async false
set_option linter.all false
set_option maxRecDepth 100000
set_option maxHeartbeats 4000000
namespace PH
open PySem L2 PySem.W
end PH
set_option Elab.async false
set_option linter.all false
set_option maxRecDepth 100000
set_option maxHeartbeats 4000000
namespace PH
open PySem L2 PySem.W
structure Gsn (H : Hp) (P S : Addr) (most : Nat) (zs : List (Addr × Int × Int)) : Prop where
  pr : Prs H P zs
  sz : H S = some (lsI ((glen (rn zs)).drop 256))
  gr : GrZ zs
  few : zs.length ≤ 300
  bd : ∀ k, k < 256 + zs.length → (ex (rn zs) k).length ≤ most
end PH
namespace PH
open PySem L2 PySem.W
end PH
set_option Elab.async false
set_option linter.all false
set_option maxRecDepth 100000
set_option maxHeartbeats 4000000
namespace PH
open PySem L2 PySem.W
end PH
set_option Elab.async false
set_option linter.all false
set_option maxRecDepth 100000
set_option maxHeartbeats 4000000
namespace L2
open PySem PySem.Spec PyProof.Rows PySem.W
variable {X : Cx}
end L2
set_option Elab.async false
set_option linter.all false
set_option maxRecDepth 100000
set_option maxHeartbeats 4000000
namespace PH
open PySem L2 PySem.W
theorem rwN_cons (y : Int) (row : List Int) : rwN (y :: row) = y.toNat :: rwN row := rfl
theorem drop_at {α : Type} {l : List α} {k : Nat} {x : α} (h : l[k]? = some x) : l.drop k = x :: l.drop (k + 1) := by
  obtain ⟨hk, e⟩ := List.getElem?_eq_some_iff.mp h
  rw [List.drop_eq_getElem_cons hk, e]
theorem bounded_at {α : Type} {l : List α} {k : Nat} (h : k < l.length) : ∃ x, l[k]? = some x := ⟨_, List.getElem?_eq_getElem h⟩
end PH
set_option Elab.async false
set_option linter.all false
set_option maxRecDepth 100000
set_option maxHeartbeats 4000000
namespace PH
noncomputable def cnt (w : List Int) : List Int → Nat
  | [] => 0
  | x :: t => (if (x :: t).take w.length = w then 1 else 0) + cnt w t
noncomputable def hdw (w t : List Int) : List Int := t.take (w.length - 1)
noncomputable def tlw (w t : List Int) : List Int := t.drop (t.length - (w.length - 1))
end PH
set_option Elab.async false
set_option linter.all false
set_option maxRecDepth 100000
set_option maxHeartbeats 4000000
namespace PH
open PySem L2 PySem.W
structure Pts (H : Hp) (X : Addr) (as : List Addr) (w : List Int) (f : Nat → List Int) : Prop where
  at_ : H X = some (.lst (as.map V.ref))
  each : ∀ j a, as[j]? = some a → ∃ h1 h2 : Addr, h1 ≠ X ∧ h2 ≠ X ∧ H a = some (.tup [.int (cnt w (f j) : Nat), .ref h1, .ref h2]) ∧ H h1 = some (lsI (hdw w (f j))) ∧ H h2 = some (lsI (tlw w (f j)))
theorem cut_from' (ns : List Int) (k : Nat) : HO.lst (cutV (ns.map V.int) (some (k : Int)) none) = lsI (ns.drop k) := congrArg HO.lst (cut_from ns k)
theorem cut_to' (ns : List Int) (k : Nat) : HO.lst (cutV (ns.map V.int) none (some (k : Int))) = lsI (ns.take k) := congrArg HO.lst (cut_to (α := Int) (f := V.int) ns k)
theorem cut_step' (ns : List Int) (i m : Nat) : HO.lst (cutV (ns.map V.int) (some (i : Int)) (some ((i : Int) + (m : Int)))) = lsI ((ns.drop i).take m) := by
  rw [show (i : Int) + (m : Int) = ((i + m : Nat) : Int) by trivial, cut_two, Nat.add_sub_cancel_left]
  rfl
end PH
namespace PH
open PySem L2 PySem.W
noncomputable def Kn (H : Hp) (a h1 h2 : Addr) (w t : List Int) : Prop := H a = some (.tup [.ref h1, .ref h2, .int (cnt w t : Nat), .int (t.length : Nat)]) ∧ H h1 = some (lsI (hdw w t)) ∧ H h2 = some (lsI (tlw w t))
structure Kns (H : Hp) (X : Addr) (as : List Addr) (w : List Int) (f : Nat → List Int) : Prop where
  at_ : H X = some (.lst (as.map V.ref))
  each : ∀ j a, as[j]? = some a → ∃ h1 h2 : Addr, h1 ≠ X ∧ h2 ≠ X ∧ Kn H a h1 h2 w (f j)
end PH
set_option Elab.async false
set_option linter.all false
set_option maxRecDepth 100000
set_option maxHeartbeats 4000000
namespace PH
open PySem L2 PySem.W
structure GrL (H : Hp) (L P q : Addr) (zs : List (Addr × Int × Int)) (row : List Int) : Prop where
  at_ : H L = some (.lst [.ref P, .ref q])
  pr : Prs H P zs
  gr : GrZ zs
  rw_ : H q = some (lsI row)
  rz : RwZ zs.length row
  zl : zs.length ≤ 1000
  rl : row.length ≤ 1000
theorem exs_one (rs : List (Nat × Nat)) (y : Int) : exs rs (rwN [y]) = ex rs y.toNat := by
  show ex rs y.toNat ++ [] = _
  rw [List.append_nil]
theorem exs_signs {rs : List (Nat × Nat)} : ∀ {l : List Int}, (∀ y ∈ l, 0 ≤ y ∧ y ≤ 255) → exs rs (rwN l) = l
  | [], _ => rfl
  | y :: r, h => by
    have h1 := h y List.mem_cons_self
    rw [rwN_cons, exs_cons, ex_low (by trivial), exs_signs fun x hx => h x (List.mem_cons_of_mem _ hx)]
    show ((y.toNat : Nat) : Int) :: r = y :: r
    rw [show ((y.toNat : Nat) : Int) = y by trivial]
structure Wds (H : Hp) (X : Addr) (as : List Addr) (ws : List (List Int)) : Prop where
  at_ : H X = some (.lst (as.map V.ref))
  len : as.length = ws.length
  each : ∀ (j : Nat) (a : Addr) (w : List Int), as[j]? = some a → ws[j]? = some w → H a = some (lsI w) ∧ 1 ≤ w.length ∧ w.length ≤ 100
end PH
set_option Elab.async false
set_option linter.all false
set_option maxRecDepth 100000
namespace L2
open PySem PySem.Spec PyProof.Rows
section
variable {X : Cx}
end
end L2
set_option Elab.async false
set_option linter.all false
set_option maxRecDepth 100000
namespace L2
open PySem PySem.Spec PyProof.Rows PySem.W
section
variable {prog : Program} {w : World} {A : Around} {E : Value → Shared → Prop} {s : Shared} {a it : Addr} {es : Array DictEntry} {ep i : Nat}
noncomputable def RawD (h : Heap) (a : Addr) (es : Array DictEntry) (ep : Nat) : Prop := ∃ o, h.get? a = some o ∧ o.ExactDict ∧ o.data = .dict es ep
theorem iter_raw {Q : Value → Shared → Prop} (hs : (a == sysModules) = false) (x : RawD s.heap a es ep)
    (q : Q (.ref s.heap.objs.size) { s with heap := s.heap.push { cls := .type "dict_keyiterator", data := .fields #[.ref a, .int 0 0, .int es.size 0, .int ep 0] } }) : wpAny (model prog w) A (pyIter (.ref a)) Q E s := by
  obtain ⟨o, ho, hc, dat⟩ := x
  have T : s.TypeIs (.ref a) "dict" := ⟨o, ho, hc.1⟩
  refine wpAny_pyIter_slot T F.slot_dict_iter (wpAny_call_entry F.slot_dict_iter T F.entry_dict_iter ?_ (F.args_dict_iter_1 _))
  unfold Builtin.«dict.__iter__»
  refine wpAny_bind ?_
  unfold Builtin.Dict.dictSlotNone
  refine wpAny_bind (wpAny_notOrdered_dict T ?_)
  show wpAny _ _ (pure (Value.ref a)) _ _ s
  refine wpAny_pure ?_
  show wpAny _ _ (Builtin.Dict.showsAll a >>= _) _ _ s
  unfold Builtin.Dict.showsAll
  rw [if_neg (by rw [hs]; exact Bool.false_ne_true)]
  refine wpAny_bind (wpAny_pure (wpAny_bind (wpAny_dictEntries ho dat (wpAny_bind (wpAny_dictEpoch ho dat ?_)))))
  refine wpAny_bind (wpAny_newObj_type (wpAny_pure ?_))
  refine ⟨_, rfl, "dict_keyiterator", _, ⟨_, Heap.get?_push_size _ rfl, rfl⟩, F.slot_dict_keyiterator_next.lookup, ?_⟩
  simpa [rawInt] using q
theorem next_raw {Q : Option Value → Shared → Prop} (k : s.heap.IsKeyIter it a i es.size ep) (x : RawD s.heap a es ep) (hi : i < es.size)
    (q : ∀ h', h'.IsKeyIter it a (i + 1) es.size ep → Heap.SameBut it s.heap h' → Q (some es[i].key) { s with heap := h' }) : wpAny (model prog w) A (pyNext (.ref it)) Q E s := by
  obtain ⟨o, ho, hc, dat⟩ := id k
  obtain ⟨od, hod, _, dd⟩ := x
  have T := k.typeIs
  unfold pyNext
  refine wpAny_bind (wpAny_attempt (wpAny_callSpecial?_slot (name := Str.ofString "__next__") T F.slot_dict_keyiterator_next (wpAny_call_entry F.slot_dict_keyiterator_next T F.entry_dict_keyiterator_next ?_ (F.args_dict_keyiterator_next_1 _))))
  refine wpAny_bind (wpAny_pure (wpAny_bind (wpAny_bind ?_)))
  first
    | refine wpAny_bind (wpAny_typeNameOfWhole_keyiter T (wpAny_pure ?_))
    | refine wpAny_bind (wpAny_typeNameOf_keyiter T (wpAny_pure ?_))
  refine wpAny_bind (wpAny_fieldsOf ho dat ?_)
  have ow : Builtin.Dict_items.ownsTuple "dict_keyiterator" = false := by decide
  simp only [ow, Bool.false_eq_true, if_false]
  show wpAny _ _ (if (Value.ref a == Value.none) = true then _ else _) _ _ s
  rw [if_neg (show ¬ ((Value.ref a == Value.none) = true) from Bool.false_ne_true)]
  refine wpAny_bind (wpAny_pure (wpAny_bind (wpAny_dictEntries hod dd ?_)))
  rw [if_neg (by simp)]
  refine wpAny_bind (wpAny_pure (wpAny_bind (wpAny_dictEpoch hod dd ?_)))
  rw [if_neg (by simp)]
  refine wpAny_pure ?_
  simp only [show ¬ ((i : Int) < 0) from by trivial, if_false, Int.toNat_natCast, Array.getElem?_eq_getElem hi]
  refine wpAny_bind ?_
  first
    | refine wpAny_bind (wpAny_typeNameOfWhole_keyiter T (wpAny_pure ?_))
    | refine wpAny_bind (wpAny_typeNameOf_keyiter T (wpAny_pure ?_))
  refine wpAny_bind (wpAny_isOneOf_keyiter T ?_)
  show wpAny _ _ (setField (.ref it) 1 (rawInt ((i : Int) + 1)) >>= fun _ => _) _ _ s
  refine wpAny_bind (wpAny_setField ho dat (by simp) ?_)
  have k' : (s.heap.update it (Obj.mapFields (·.setIfInBounds 1 (rawInt ((i : Int) + 1))))).IsKeyIter it a (i + 1) es.size ep := by
    refine ⟨_, Heap.get?_update_self _ ho (Obj.isFreed_of_fields (Obj.data_mapFields dat _)), (Obj.cls_mapFields ..).trans hc, ?_⟩
    rw [Obj.data_mapFields dat]; simp [rawInt]
  refine wpAny_bind (wpAny_holding (wpAny_bind ?_))
  refine wpAny_isOneOf_keyiter (s := { s with heap := s.heap.update it (Obj.mapFields (·.setIfInBounds 1 (rawInt ((i : Int) + 1)))) }) k'.typeIs ?_
  show wpAny _ _ (pure es[i].key) _ _ _
  exact wpAny_pure (wpAny_pure ⟨_, rfl, wpAny_pure (q _ k' (Heap.SameBut.update ..))⟩)
theorem end_raw {Q : Option Value → Shared → Prop} (hh : A.handled = none) (k : s.heap.IsKeyIter it a i es.size ep) (x : RawD s.heap a es ep) (hi : es.size ≤ i)
    (q : ∀ h', Heap.ExtBut it s.heap h' → Q none { s with heap := h' }) : wpAny (model prog w) A (pyNext (.ref it)) Q E s := by
  obtain ⟨o, ho, hc, dat⟩ := id k
  obtain ⟨od, hod, _, dd⟩ := x
  have T := k.typeIs
  unfold pyNext
  refine wpAny_bind (wpAny_attempt (wpAny_callSpecial?_slot (name := Str.ofString "__next__") T F.slot_dict_keyiterator_next (wpAny_call_entry F.slot_dict_keyiterator_next T F.entry_dict_keyiterator_next ?_ (F.args_dict_keyiterator_next_1 _))))
  refine wpAny_bind (wpAny_pure (wpAny_bind (wpAny_bind ?_)))
  first
    | refine wpAny_bind (wpAny_typeNameOfWhole_keyiter T (wpAny_pure ?_))
    | refine wpAny_bind (wpAny_typeNameOf_keyiter T (wpAny_pure ?_))
  refine wpAny_bind (wpAny_fieldsOf ho dat ?_)
  have ow : Builtin.Dict_items.ownsTuple "dict_keyiterator" = false := by decide
  simp only [ow, Bool.false_eq_true, if_false]
  show wpAny _ _ (if (Value.ref a == Value.none) = true then _ else _) _ _ s
  rw [if_neg (show ¬ ((Value.ref a == Value.none) = true) from Bool.false_ne_true)]
  refine wpAny_bind (wpAny_pure (wpAny_bind (wpAny_dictEntries hod dd ?_)))
  rw [if_neg (by simp)]
  refine wpAny_bind (wpAny_pure (wpAny_bind (wpAny_dictEpoch hod dd ?_)))
  rw [if_neg (by simp)]
  refine wpAny_pure ?_
  simp only [show ¬ ((i : Int) < 0) from by trivial, if_false, Int.toNat_natCast, Array.getElem?_eq_none hi]
  refine wpAny_bind ?_
  first
    | refine wpAny_bind (wpAny_typeNameOfWhole_keyiter T (wpAny_pure ?_))
    | refine wpAny_bind (wpAny_typeNameOf_keyiter T (wpAny_pure ?_))
  show wpAny _ _ (setField (.ref it) 0 .none >>= fun _ => _) _ _ s
  refine wpAny_bind (wpAny_setField ho dat (by simp) ?_)
  show wpAny _ _ (newExc (.type "StopIteration") [] >>= fun _ => _) _ _ _
  refine wpAny_bind ?_
  simp only [newExc, newTuple]
  refine wpAny_bind (wpAny_newObj_type ?_ (by size_fits))
  refine wpAny_bind (m := firstArgMember _ _) (wpAny_of_eq (a := Value.none) (by first | rfl | (simp only [firstArgMember]; rfl)) (wpAny_newObj_type ?_ (by size_fits)))
  simp only [raiseNew]
  refine wpAny_bind (wpAny_handled ?_)
  rw [show A.in1.handled = none from hh]
  refine wpAny_bind (wpAny_pure (wpAny_throw ?_))
  refine wpAny_bind (wpAny_isInstance (T := "StopIteration") (b := true) (by exact ⟨_, Heap.get?_push_size _ rfl, rfl⟩) isSubtype_stop ?_)
  exact wpAny_pure (q _ (((Heap.SameBut.update ..).extBut.push _).push _))
end
section
variable {X : Cx} {pins : List (Addr × Obj)} {σ : St} {H : Hp} {s : Shared}
theorem Inv.freezeT {a : Addr} {kvs : List (List Key × V)} (I : Inv X pins σ H s) (e : H a = some (.dT kvs)) : ∃ o, s.heap.get? a = some o ∧ Inv X pins σ (upd H a (.frz o (.dT kvs))) s := by
  have ok := I.hok a _ e
  obtain ⟨o, ho⟩ := ok.obj
  refine ⟨o, ho, ?_⟩
  have := I.write (x := a) (e := a) (o := .frz o (.dT kvs)) (h' := s.heap) (t' := s.toks) (by rw [e]; exact True.intro) (.inl rfl) (fun b u _ q => q) ⟨o, ho⟩ ?_
  · exact this
  · refine ⟨ho, ok.stay (fun b u _ q => q) (fun b q => ?_) fun b xs q => ?_⟩
    · by_cases hb : b = a
      · rw [hb, e] at q; cases q
      · rw [upd_ne hb]; exact q
    · by_cases hb : b = a
      · rw [hb, e] at q; cases q
      · rw [upd_ne hb]; exact q
noncomputable def ItdT (a : Addr) (o : Obj) (kvs : List (List Key × V)) : It :=
  ⟨fun i H => i < kvs.length ∧ H a = some (.frz o (.dT kvs)), fun i H x H' => H' = H ∧ ∃ k v b, kvs[i]? = some (k, v) ∧ x = .ref b ∧ H b = some (.tup (k.map kV)), fun i H => kvs.length ≤ i ∧ H a = some (.frz o (.dT kvs))⟩
theorem KT.get {kvs : List (List Key × V)} {xs : List (List Key × Addr × Value)} (r : KT H kvs xs) : ∀ {i : Nat} {k : List Key} {v : V}, kvs[i]? = some (k, v) → ∃ q, xs[i]? = some q ∧ H q.2.1 = some (.tup (k.map kV)) := by
  induction r with
  | nil => intro i k v h; simp at h
  | @cons p q ps qs h t ih =>
    intro i k v e
    cases i with
    | zero =>
      have e' : p = (k, v) := by simpa using e
      subst e'
      exact ⟨q, rfl, h.2.1⟩
    | succ i =>
      obtain ⟨q', e1, e2⟩ := ih (i := i) (k := k) (v := v) (by simpa using e)
      exact ⟨q', by simpa using e1, e2⟩
theorem frzT_at {P : Program} {w : World} {h : Heap} {a : Addr} {o : Obj} {kvs : List (List Key × V)} (ok : HOk P w H h) (e : H a = some (.frz o (.dT kvs))) {es : Array DictEntry} {ep : Nat} (hd : o.data = .dict es ep) :
    ∃ xs, KT H kvs xs ∧ es.toList = xs.map (entryOfKey (tupleKind (mixKind P w))) ∧ RawD h a es ep := by
  obtain ⟨ho, _, _, xs, rel, o', es', ep', h1, h2, h3, h4, _⟩ := ok a _ e
  rw [ho] at h1
  cases h1
  rw [hd] at h3
  cases h3
  exact ⟨xs, rel, h4, o, ho, h2, hd⟩
theorem turn_dictT {P : Program} {w : World} {K : PySem.W.Frag} {tg : Expr} (a it : Addr) (o : Obj) (kvs : List (List Key × V)) {es : Array DictEntry} {ep : Nat} (hd : o.data = .dict es ep) (hsz : es.size = kvs.length) : Turn P w K tg (ItdT a o kvs) [it] it (fun i h => h.IsKeyIter it a i es.size ep) where
  mem := by simp
  obj := fun i h st b hb => by
    have e : b = it := by simpa using hb
    subst e
    obtain ⟨o, e, c, d⟩ := st
    exact ⟨o, e, fun v z => by rw [d] at z; cases z⟩
  keep := fun i h h' st k => by
    obtain ⟨o, e, c⟩ := st
    exact ⟨o, k it (by simp) o e, c⟩
  item := by
    intro X hP hw hK hc i pins s σ H E I hf st hg
    subst hP hw hK
    obtain ⟨hlt, ha⟩ := hg
    obtain ⟨f0, f1, f2, f3, f4, f5⟩ := hf it (by simp)
    obtain ⟨xs, rel, he, raw⟩ := frzT_at I.hok ha hd
    obtain ⟨⟨k, x⟩, hx⟩ : ∃ p, kvs[i]? = some p := ⟨_, List.getElem?_eq_getElem hlt⟩
    obtain ⟨q, hq, hb⟩ := rel.get hx
    have hes := entry_at he i
    rw [hq] at hes
    have hi : i < es.size := by trivial
    have hkey : es[i].key = .ref q.2.1 := by
      have h1 := (Array.getElem?_eq_getElem hi).symm.trans hes
      have h2 := Option.some.inj h1
      rw [h2]; rfl
    refine next_raw st raw hi fun h' st' sb => ?_
    rw [hkey]
    have I1 : Inv X pins σ H { s with heap := h' } := I.turned (t' := s.toks) (fun b o hb e => (sb.2 b hb).trans e) f0 f1 f3 f4 f5
    obtain ⟨o, e, c, d⟩ := id st'
    exact ⟨.ref q.2.1, rfl, go_of (s := { s with heap := h' }) e c d (by decide) ⟨.ref q.2.1, H, I1, rfl, ⟨rfl, k, x, q.2.1, hx, rfl, hb⟩, st', fun b hb => (hf b hb).1⟩⟩
  done := by
    intro X hP hw hK hc i pins s σ H E I hf st hg
    subst hP hw hK
    obtain ⟨hle, ha⟩ := hg
    obtain ⟨f0, f1, f2, f3, f4, f5⟩ := hf it (by simp)
    obtain ⟨xs, rel, he, raw⟩ := frzT_at I.hok ha hd
    exact end_raw (I.ok.hd hc) st raw (by trivial) fun h' eb => ⟨rfl, I.turned (t' := s.toks) (fun b o hb e => eb b o hb e) f0 f1 f3 f4 f5⟩
  self := fun _ _ _ _ _ st h => wpAny_pyIter_keyiter st h
noncomputable def iDictT (td : TE) : TI := fun σ H R => td σ H fun x H1 => ∃ a kvs, x = .ref a ∧ H1 a = some (.dT kvs) ∧ ∀ o, R (ItdT a o kvs) (upd H1 a (.frz o (.dT kvs)))
theorem pi_dictT {tg l : Expr} {td : TE} (hl : PE X l td) : PI X tg l (iDictT td) := by
  intro pins s σ H R I h
  refine thn (hl pins s σ H _ I h) fun v s1 ⟨x, H1, I1, r1, q1⟩ => ?_
  obtain ⟨a, kvs, rfl, ha, q⟩ := q1
  cases r1
  obtain ⟨o, ho, I2⟩ := I1.freezeT ha
  obtain ⟨z, hs, xs, rel, o', es, ep, h1, h2, h3, h4, h5⟩ := I1.hok a _ ha
  rw [ho] at h1
  cases h1
  have raw : RawD s1.heap a es ep := ⟨o, ho, h2, h3⟩
  have hsz : es.size = kvs.length := by rw [size_of_entries h4]; exact (Paired.length rel).symm
  refine iter_raw hs raw ?_
  have I3 : Inv X pins σ (upd H1 a (.frz o (.dT kvs))) { s1 with heap := s1.heap.push { cls := .type "dict_keyiterator", data := .fields #[.ref a, .int 0 0, .int es.size 0, .int ep 0] } } := I2.kept (t' := s1.toks) fun b ob q => Heap.get?_push_of_some _ q
  refine ⟨s1.heap.objs.size, [s1.heap.objs.size], _, ItdT a o kvs, _, rfl, I3, turn_dictT a _ o kvs h3 hsz, ⟨_, Heap.get?_push_size _ rfl, rfl, rfl⟩, fun b hb => ?_, q o⟩
  have e : b = s1.heap.objs.size := by simpa using hb
  subst e
  exact I2.fpOk (Nat.le_refl _) (I2.hok.fresh (Nat.le_refl _))
end
theorem for_dictT {a : Addr} {o : Obj} {kvs : List (List Key × V)} {g : TG} {tb : TS} {D : Ends} {σ : St} {H : Hp} (Pv : Nat → St → Hp → Prop) (h0 : Pv 0 σ H) (hl : ∀ i σ H, i ≤ kvs.length → Pv i σ H → H a = some (.frz o (.dT kvs)))
    (hs : ∀ i k v b σ H, kvs[i]? = some (k, v) → Pv i σ H → H b = some (.tup (k.map kV)) → g (.ref b) σ H fun σ2 H2 => tb { D with nx := Pv (i + 1), ct := Pv (i + 1), bk := D.nx } σ2 H2) (hd : ∀ σ H, Pv kvs.length σ H → D.nx σ H) :
    ∃ W : Nat → Nat → St → Hp → Prop, (∃ m, W 0 m σ H) ∧ ∀ i m σ H, W i m σ H →
      ((ItdT a o kvs).stop i H ∧ D.nx σ H) ∨ ((ItdT a o kvs).go i H ∧ ∃ N : St → Hp → Prop, (∀ σ' H', N σ' H' → ∃ m', m' < m ∧ W (i + 1) m' σ' H') ∧ ∀ x H', (ItdT a o kvs).yld i H x H' → g x σ H' fun σ2 H2 => tb { D with nx := N, ct := N, bk := D.nx } σ2 H2) := by
  refine ⟨fun i m σ H => m = kvs.length - i ∧ i ≤ kvs.length ∧ Pv i σ H, ⟨kvs.length, by simp, Nat.zero_le _, h0⟩, ?_⟩
  rintro i m σ H ⟨rfl, hi, p⟩
  have q := hl i σ H hi p
  by_cases hlt : i < kvs.length
  · refine .inr ⟨⟨hlt, q⟩, Pv (i + 1), fun σ' H' p' => ⟨kvs.length - (i + 1), by trivial, rfl, hlt, p'⟩, fun x H' y => ?_⟩
    obtain ⟨rfl, k, v, b, e1, rfl, e2⟩ := y
    exact hs i k v b σ _ e1 p e2
  · have e : i = kvs.length := by trivial
    subst e
    exact .inl ⟨⟨Nat.le_refl _, q⟩, hd σ H p⟩
theorem mem_putK {κ : Type} [DecidableEq κ] {kvs : List (κ × V)} {k k' : κ} {v v' : V} (h : (k', v') ∈ putK kvs k v) : (k' = k ∧ v' = v) ∨ (k', v') ∈ kvs := by
  unfold putK at h
  split at h
  · obtain ⟨p, hp, e⟩ := List.mem_map.mp h
    split at e
    · rename_i hk
      cases e
      exact .inl ⟨hk, rfl⟩
    · exact .inr (e ▸ hp)
  · rcases List.mem_append.mp h with h | h
    · exact .inr h
    · cases List.mem_singleton.mp h
      exact .inl ⟨rfl, rfl⟩
theorem valV_mem {κ : Type} [DecidableEq κ] {kvs : List (κ × V)} {k : κ} {v : V} (h : valV kvs k = some v) : (k, v) ∈ kvs := by
  unfold valV at h
  obtain ⟨p, hp, e⟩ := Option.map_eq_some_iff.mp h
  have h1 := List.mem_of_find?_eq_some hp
  have h2 := List.find?_some hp
  have h3 : p.1 = k := by simpa using h2
  have h4 : p = (k, v) := Prod.ext h3 e
  rw [← h4]; exact h1
theorem valV_has {κ : Type} [DecidableEq κ] {kvs : List (κ × V)} {k : κ} {v : V} (h : (k, v) ∈ kvs) : ∃ v', valV kvs k = some v' := by
  have h1 := valV_any k kvs
  have h2 : (kvs.any fun kv => decide (kv.1 = k)) = true := List.any_eq_true.mpr ⟨(k, v), h, by simp⟩
  rw [h2] at h1
  exact Option.isSome_iff_exists.mp h1.symm
end L2
set_option Elab.async false
set_option linter.all false
set_option maxRecDepth 100000
set_option maxHeartbeats 4000000
namespace PH
open PySem L2 PySem.W
noncomputable def wsy (x y s : Int) : List Int → List Int
  | a :: b :: r => if a = x ∧ b = y then s :: wsy x y s r else a :: wsy x y s (b :: r)
  | [a] => [a]
  | [] => []
theorem wsy_nil (x y s : Int) : wsy x y s [] = [] := by rw [wsy]
theorem wsy_one (x y s a : Int) : wsy x y s [a] = [a] := by rw [wsy]
theorem wsy_two (x y s a b : Int) (r : List Int) : wsy x y s (a :: b :: r) = if a = x ∧ b = y then s :: wsy x y s r else a :: wsy x y s (b :: r) := by rw [wsy]
theorem wsy_mem (x y s : Int) : ∀ (l : List Int) (z : Int), z ∈ wsy x y s l → z = s ∨ z ∈ l
  | [], z, h => by rw [wsy_nil] at h; cases h
  | [a], z, h => by rw [wsy_one] at h; exact .inr h
  | a :: b :: r, z, h => by
    rw [wsy_two] at h
    split at h
    · rcases List.mem_cons.mp h with e | h
      · exact .inl e
      · rcases wsy_mem x y s r z h with e | e
        · exact .inl e
        · exact .inr (List.mem_cons_of_mem _ (List.mem_cons_of_mem _ e))
    · rcases List.mem_cons.mp h with e | h
      · exact .inr (e ▸ List.mem_cons_self)
      · rcases wsy_mem x y s (b :: r) z h with e | e
        · exact .inl e
        · exact .inr (List.mem_cons_of_mem _ e)
theorem wsy_le (x y s : Int) : ∀ l : List Int, (wsy x y s l).length ≤ l.length
  | [] => by rw [wsy_nil]; exact Nat.le_refl _
  | [a] => by rw [wsy_one]; exact Nat.le_refl _
  | a :: b :: r => by
    rw [wsy_two]
    have h1 := wsy_le x y s r
    have h2 := wsy_le x y s (b :: r)
    rw [List.length_cons] at h2
    split
    · rw [List.length_cons, List.length_cons, List.length_cons]; trivial
    · rw [List.length_cons, List.length_cons, List.length_cons]; trivial
theorem wsy_lt (x y s : Int) : ∀ (l : List Int) (i : Nat), l[i]? = some x → l[i + 1]? = some y → (wsy x y s l).length < l.length
  | [], i, h, _ => by cases h
  | [a], i, _, h => by cases h
  | a :: b :: r, i, h, h' => by
    rw [wsy_two]
    have h1 := wsy_le x y s r
    split
    · rw [List.length_cons, List.length_cons, List.length_cons]; trivial
    · rename_i hn
      cases i with
      | zero => exact absurd ⟨Option.some.inj h, Option.some.inj h'⟩ hn
      | succ i =>
        have h2 := wsy_lt x y s (b :: r) i h h'
        rw [List.length_cons] at h2
        rw [List.length_cons, List.length_cons, List.length_cons]; trivial
theorem wsy_exs {rs : List (Nat × Nat)} {x y : Int} {n : Nat} (hn : n = rs.length) : ∀ l : List Int, (∀ z ∈ l, 0 ≤ z ∧ z < (256 : Int) + (n : Int)) → exs (rs ++ [(x.toNat, y.toNat)]) (rwN (wsy x y (256 + (n : Int)) l)) = exs rs (rwN l)
  | [], _ => by rw [wsy_nil]; rfl
  | [a], h => by
    have ha := h a List.mem_cons_self
    rw [wsy_one, exs_one, exs_one, ex_pre (by trivial)]
  | a :: b :: r, h => by
    have ha := h a List.mem_cons_self
    have hb := h b (List.mem_cons_of_mem _ List.mem_cons_self)
    have i1 := wsy_exs hn (x := x) (y := y) r fun z hz => h z (List.mem_cons_of_mem _ (List.mem_cons_of_mem _ hz))
    have i2 := wsy_exs hn (x := x) (y := y) (b :: r) fun z hz => h z (List.mem_cons_of_mem _ hz)
    rw [wsy_two]
    split
    · rename_i e
      rw [rwN_cons, exs_cons, i1, show ((256 : Int) + (n : Int)).toNat = 256 + rs.length by trivial, ex_new, rwN_cons, rwN_cons, exs_cons, exs_cons, e.1, e.2, List.append_assoc]
    · rw [rwN_cons, exs_cons, i2, ex_pre (by trivial), rwN_cons a, exs_cons]
theorem wsy_yes {x y s : Int} {l : List Int} {k : Nat} (h : (l.drop k).take 2 = [x, y]) : k + 2 ≤ l.length ∧ wsy x y s (l.drop k) = s :: wsy x y s (l.drop (k + 2)) := by
  have hl := congrArg List.length h
  rw [List.length_take, List.length_drop] at hl
  have hl' : min 2 (l.length - k) = 2 := hl
  refine ⟨by trivial, ?_⟩
  have e : l.drop k = x :: y :: l.drop (k + 2) := by
    have := (List.take_append_drop 2 (l.drop k)).symm
    rw [h, List.drop_drop] at this
    exact this
  rw [e, wsy_two, if_pos ⟨rfl, rfl⟩]
theorem wsy_no {x y s a : Int} {l : List Int} {k : Nat} (ha : l[k]? = some a) (h : ¬ (l.drop k).take 2 = [x, y]) : wsy x y s (l.drop k) = a :: wsy x y s (l.drop (k + 1)) := by
  have e := drop_at ha
  rw [e] at h ⊢
  cases q : l.drop (k + 1) with
  | nil => rw [wsy_one, wsy_nil]
  | cons b r =>
    rw [q] at h
    rw [wsy_two, if_neg]
    rintro ⟨rfl, rfl⟩
    exact h rfl
noncomputable def Tml (row : List Int) (kvs : List (List Key × V)) : Prop := ∀ k v, (k, v) ∈ kvs → ∃ (i : Nat) (x y n : Int), k = [.inl x, .inl y] ∧ v = .int n ∧ row[i]? = some x ∧ row[i + 1]? = some y
theorem Tml.put {row : List Int} {kvs : List (List Key × V)} (h : Tml row kvs) {i : Nat} {x y : Int} (hx : row[i]? = some x) (hy : row[i + 1]? = some y) (n : Int) : Tml row (putK kvs [.inl x, .inl y] (.int n)) := fun k v m => by
  rcases mem_putK m with ⟨rfl, rfl⟩ | m
  · exact ⟨i, x, y, n, rfl, rfl, hx, hy⟩
  · exact h k v m
noncomputable def spWith : Sp := fun vs H Q _ => ∃ (p t : Addr) (row : List Int) (x y s : Int), vs = [.ref p, .ref t, .int s] ∧ H p = some (lsI row) ∧ H t = some (.tup [.int x, .int y]) ∧ row.length ≤ 1000 ∧
  ∀ (D : Addr) (H' : Hp), Same H H' → H D = none → H' D = some (lsI (wsy x y s row)) → Q (.ref D) H'
theorem wsy_rz {x y : Int} {n : Nat} {row : List Int} (h : RwZ n row) : RwZ (n + 1) (wsy x y (256 + (n : Int)) row) := fun z hz => by
  rcases wsy_mem x y _ row z hz with e | e
  · rw [e]; trivial
  · have := h z e
    trivial
theorem rz_signs {n : Nat} {l : List Int} (h : ∀ y ∈ l, 0 ≤ y ∧ y ≤ 255) : RwZ n l := fun y hy => by
  have := h y hy
  trivial
end PH
set_option Elab.async false
set_option linter.all false
set_option maxRecDepth 100000
set_option maxHeartbeats 4000000
namespace PH
open PySem L2 PySem.W
noncomputable abbrev KVs := List (List Key × V)
noncomputable def nV (kvs : KVs) (x y : Int) : Int := match valV kvs [.inl x, .inl y] with | some (.int n) => n | _ => 0
theorem nV_none {kvs : KVs} {x y : Int} (h : valV kvs [.inl x, .inl y] = none) : nV kvs x y = 0 := by unfold nV; rw [h]
theorem nV_some {kvs : KVs} {x y n : Int} (h : valV kvs [.inl x, .inl y] = some (.int n)) : nV kvs x y = n := by unfold nV; rw [h]
noncomputable def ptI (row : List Int) (i : Nat) (q : KVs × KVs) : KVs × KVs :=
  if nV q.2 (row.getD i 0) (row.getD (i + 1) 0) ≤ (i : Int) then (putK q.1 [.inl (row.getD i 0), .inl (row.getD (i + 1) 0)] (.int (nV q.1 (row.getD i 0) (row.getD (i + 1) 0) + 1)), putK q.2 [.inl (row.getD i 0), .inl (row.getD (i + 1) 0)] (.int ((i : Int) + 2))) else q
noncomputable def pt (row : List Int) : Nat → KVs × KVs
  | 0 => ([], [])
  | i + 1 => ptI row i (pt row i)
noncomputable def At (row : List Int) (a : Nat) (x y : Int) : Prop := row[a]? = some x ∧ row[a + 1]? = some y
theorem At.lt {row : List Int} {a : Nat} {x y : Int} (h : At row a x y) : a + 1 < row.length := (List.getElem?_eq_some_iff.mp h.2).1
noncomputable def Jp (row : List Int) (i : Nat) (q : KVs × KVs) : Prop := ∀ x y : Int,
  (valV q.1 [.inl x, .inl y] = none ∧ valV q.2 [.inl x, .inl y] = none ∧ ∀ a, a < i → ¬ At row a x y) ∨
  (∃ l, l < i ∧ At row l x y ∧ valV q.1 [.inl x, .inl y] = some (.int 1) ∧ valV q.2 [.inl x, .inl y] = some (.int ((l : Int) + 2)) ∧ ∀ a, a < i → At row a x y → l ≤ a ∧ a ≤ l + 1) ∨
  ∃ (n : Int) (f l : Nat), 2 ≤ n ∧ f + 2 ≤ l ∧ l < i ∧ At row f x y ∧ At row l x y ∧ valV q.1 [.inl x, .inl y] = some (.int n) ∧ valV q.2 [.inl x, .inl y] = some (.int ((l : Int) + 2))
theorem Jp.step {row : List Int} {i : Nat} {q : KVs × KVs} (hi : i + 1 < row.length) (J : Jp row i q) : Jp row (i + 1) (ptI row i q) := by
  intro x y
  have hx : row[i]? = some (row.getD i 0) := by rw [List.getD_eq_getElem?_getD, List.getElem?_eq_getElem (by trivial : i < row.length)]; rfl
  have hy : row[i + 1]? = some (row.getD (i + 1) 0) := by rw [List.getD_eq_getElem?_getD, List.getElem?_eq_getElem hi]; rfl
  unfold ptI
  generalize row.getD i 0 = x0 at hx ⊢
  generalize row.getD (i + 1) 0 = y0 at hy ⊢
  by_cases e : x = x0 ∧ y = y0
  · obtain ⟨rfl, rfl⟩ := e
    have hA : At row i x y := ⟨hx, hy⟩
    rcases J x y with ⟨j1, j2, j3⟩ | ⟨l, l1, l2, j1, j2, j3⟩ | ⟨n, f, l, n2, fl, l1, f2, l2, j1, j2⟩
    · rw [nV_none j2, nV_none j1, if_pos (by trivial)]
      refine .inr (.inl ⟨i, by trivial, hA, ?_, ?_, fun a ha hAa => ?_⟩)
      · show valV (putK _ _ _) _ = _
        rw [valV_put, if_pos rfl]; rfl
      · show valV (putK _ _ _) _ = _
        rw [valV_put, if_pos rfl]
      · by_cases z : a = i
        · trivial
        · exact absurd hAa (j3 a (by trivial))
    · rw [nV_some j2, nV_some j1]
      by_cases c : (l : Int) + 2 ≤ (i : Int)
      · rw [if_pos c]
        refine .inr (.inr ⟨1 + 1, l, i, by trivial, by trivial, by trivial, l2, hA, ?_, ?_⟩)
        · show valV (putK _ _ _) _ = _
          rw [valV_put, if_pos rfl]
        · show valV (putK _ _ _) _ = _
          rw [valV_put, if_pos rfl]
      · rw [if_neg c]
        refine .inr (.inl ⟨l, by trivial, l2, j1, j2, fun a ha hAa => ?_⟩)
        by_cases z : a = i
        · trivial
        · exact j3 a (by trivial) hAa
    · rw [nV_some j2, nV_some j1]
      by_cases c : (l : Int) + 2 ≤ (i : Int)
      · rw [if_pos c]
        refine .inr (.inr ⟨n + 1, f, i, by trivial, by trivial, by trivial, f2, hA, ?_, ?_⟩)
        · show valV (putK _ _ _) _ = _
          rw [valV_put, if_pos rfl]
        · show valV (putK _ _ _) _ = _
          rw [valV_put, if_pos rfl]
      · rw [if_neg c]
        exact .inr (.inr ⟨n, f, l, n2, fl, by trivial, f2, l2, j1, j2⟩)
  · have hN : ¬ At row i x y := fun ⟨a, b⟩ => e ⟨Option.some.inj (a.symm.trans hx), Option.some.inj (b.symm.trans hy)⟩
    have hk : ¬ ([Sum.inl x, Sum.inl y] : List Key) = [Sum.inl x0, Sum.inl y0] := fun z => by
      have z1 := List.cons.inj z
      have z2 := List.cons.inj z1.2
      exact e ⟨Sum.inl.inj z1.1, Sum.inl.inj z2.1⟩
    have fin : ∀ q' : KVs × KVs, valV q'.1 [.inl x, .inl y] = valV q.1 [.inl x, .inl y] → valV q'.2 [.inl x, .inl y] = valV q.2 [.inl x, .inl y] →
      ((valV q'.1 [.inl x, .inl y] = none ∧ valV q'.2 [.inl x, .inl y] = none ∧ ∀ a, a < i + 1 → ¬ At row a x y) ∨
      (∃ l, l < i + 1 ∧ At row l x y ∧ valV q'.1 [.inl x, .inl y] = some (.int 1) ∧ valV q'.2 [.inl x, .inl y] = some (.int ((l : Int) + 2)) ∧ ∀ a, a < i + 1 → At row a x y → l ≤ a ∧ a ≤ l + 1) ∨
      ∃ (n : Int) (f l : Nat), 2 ≤ n ∧ f + 2 ≤ l ∧ l < i + 1 ∧ At row f x y ∧ At row l x y ∧ valV q'.1 [.inl x, .inl y] = some (.int n) ∧ valV q'.2 [.inl x, .inl y] = some (.int ((l : Int) + 2))) := fun q' e1 e2 => by
      rw [e1, e2]
      rcases J x y with ⟨j1, j2, j3⟩ | ⟨l, l1, l2, j1, j2, j3⟩ | ⟨n, f, l, n2, fl, l1, f2, l2, j1, j2⟩
      · exact .inl ⟨j1, j2, fun a ha hAa => by
          by_cases z : a = i
          · exact hN (z ▸ hAa)
          · exact j3 a (by trivial) hAa⟩
      · exact .inr (.inl ⟨l, by trivial, l2, j1, j2, fun a ha hAa => by
          by_cases z : a = i
          · exact absurd (z ▸ hAa) hN
          · exact j3 a (by trivial) hAa⟩)
      · exact .inr (.inr ⟨n, f, l, n2, fl, by trivial, f2, l2, j1, j2⟩)
    split
    · refine fin _ ?_ ?_
      · show valV (putK _ _ _) _ = _
        rw [valV_put, if_neg hk]
      · show valV (putK _ _ _) _ = _
        rw [valV_put, if_neg hk]
    · exact fin _ rfl rfl
theorem pt_ok (row : List Int) : ∀ i, i ≤ row.length - 1 → Jp row i (pt row i)
  | 0, _ => fun x y => .inl ⟨rfl, rfl, fun a ha => by trivial⟩
  | i + 1, h => (pt_ok row i (by trivial)).step (by trivial)
noncomputable def Kvp (kvs : KVs) : Prop := ∀ k v, (k, v) ∈ kvs → ∃ x y n : Int, k = [.inl x, .inl y] ∧ v = .int n
theorem Kvp.put {kvs : KVs} (h : Kvp kvs) (x y n : Int) : Kvp (putK kvs [.inl x, .inl y] (.int n)) := fun k v m => by
  rcases mem_putK m with ⟨rfl, rfl⟩ | m
  · exact ⟨x, y, n, rfl, rfl⟩
  · exact h k v m
theorem pt_kvp (row : List Int) : ∀ i, Kvp (pt row i).1 ∧ Kvp (pt row i).2
  | 0 => ⟨(fun _ _ h => by cases h), (fun _ _ h => by cases h)⟩
  | i + 1 => by
    have ih := pt_kvp row i
    show Kvp (ptI row i _).1 ∧ Kvp (ptI row i _).2
    unfold ptI
    split
    · exact ⟨ih.1.put _ _ _, ih.2.put _ _ _⟩
    · exact ih
theorem pt_len (row : List Int) : ∀ i, (pt row i).1.length ≤ i ∧ (pt row i).2.length ≤ i
  | 0 => ⟨Nat.le_refl _, Nat.le_refl _⟩
  | i + 1 => by
    have ih := pt_len row i
    show (ptI row i _).1.length ≤ _ ∧ (ptI row i _).2.length ≤ _
    unfold ptI
    split
    · exact ⟨Nat.le_trans (length_putK _ _ _) (by trivial), Nat.le_trans (length_putK _ _ _) (by trivial)⟩
    · trivial
theorem Kvp.get {kvs : KVs} (h : Kvp kvs) (x y : Int) : (valV kvs [.inl x, .inl y]).getD (.int 0) = .int (nV kvs x y) := by
  cases e : valV kvs [.inl x, .inl y] with
  | none => rw [nV_none e]; rfl
  | some v =>
    obtain ⟨_, _, n, _, rfl⟩ := h _ v (valV_mem e)
    rw [nV_some e]; rfl
noncomputable def lsf (kvs : KVs) (f : Option (Int × Int)) (n : Int) : Bool := match f with | none => true | some p => decide (nV kvs p.1 p.2 < n)
noncomputable def msI (kvs : KVs) (f : Option (Int × Int)) (kv : List Key × V) : Option (Int × Int) := match kv.1 with | [.inl x, .inl y] => if 1 < nV kvs x y ∧ lsf kvs f (nV kvs x y) = true then some (x, y) else f | _ => f
noncomputable def ms (kvs : KVs) (i : Nat) : Option (Int × Int) := (kvs.take i).foldl (msI kvs) none
theorem ms_step {kvs : KVs} {i : Nat} {x y : Int} {v : V} (h : kvs[i]? = some ([.inl x, .inl y], v)) : ms kvs (i + 1) = if 1 < nV kvs x y ∧ lsf kvs (ms kvs i) (nV kvs x y) = true then some (x, y) else ms kvs i := by
  unfold ms
  rw [List.take_add_one, h, List.foldl_append]
  rfl
theorem ms_past {kvs : KVs} {i : Nat} (h : kvs[i]? = none) : ms kvs (i + 1) = ms kvs i := by
  unfold ms
  rw [List.take_add_one, h]
  simp
theorem ms_some {kvs : KVs} (hk : Kvp kvs) : ∀ (i : Nat) (p : Int × Int), ms kvs i = some p → 1 < nV kvs p.1 p.2
  | 0, p, h => by cases h
  | i + 1, p, h => by
    cases e : kvs[i]? with
    | none => rw [ms_past e] at h; exact ms_some hk i p h
    | some kv =>
      obtain ⟨k, v⟩ := kv
      obtain ⟨x, y, n, rfl, rfl⟩ := hk k v (List.mem_of_getElem? e)
      rw [ms_step e] at h
      split at h
      · rename_i c
        cases h
        exact c.1
      · exact ms_some hk i p h
theorem ms_none {kvs : KVs} (hk : Kvp kvs) : ∀ (i : Nat), ms kvs i = none → ∀ (j : Nat) (x y : Int) (v : V), j < i → kvs[j]? = some ([.inl x, .inl y], v) → nV kvs x y ≤ 1
  | 0, _, j, _, _, _, hj, _ => by trivial
  | i + 1, h, j, x, y, v, hj, ej => by
    cases e : kvs[i]? with
    | none =>
      rw [ms_past e] at h
      by_cases z : j = i
      · rw [z, e] at ej; cases ej
      · exact ms_none hk i h j x y v (by trivial) ej
    | some kv =>
      obtain ⟨k, v'⟩ := kv
      obtain ⟨x', y', n, rfl, rfl⟩ := hk k v' (List.mem_of_getElem? e)
      rw [ms_step e] at h
      split at h
      · cases h
      · rename_i c
        by_cases z : j = i
        · rw [z, e] at ej
          cases ej
          rw [h] at c
          by_cases q : 1 < nV kvs x y
          · exact absurd ⟨q, rfl⟩ c
          · trivial
        · exact ms_none hk i h j x y v (by trivial) ej
noncomputable def mst (row : List Int) : Option (Int × Int) := ms (pt row (row.length - 1)).1 (pt row (row.length - 1)).1.length
theorem mst_some {row : List Int} {x y : Int} (h : mst row = some (x, y)) : ∃ f l, f + 2 ≤ l ∧ At row f x y ∧ At row l x y := by
  have hn := ms_some (pt_kvp row _).1 _ _ h
  rcases pt_ok row _ (Nat.le_refl _) x y with ⟨j1, _⟩ | ⟨l, _, _, j1, _⟩ | ⟨n, f, l, n2, fl, l1, f2, l2, j1, j2⟩
  · rw [nV_none j1] at hn; trivial
  · rw [nV_some j1] at hn; trivial
  · exact ⟨f, l, fl, f2, l2⟩
theorem mst_none {row : List Int} (h : mst row = none) {a b : Nat} {x y : Int} (ha : At row a x y) (hb : At row b x y) : b ≤ a + 1 := by
  have := ha.lt
  have := hb.lt
  rcases pt_ok row _ (Nat.le_refl _) x y with ⟨j1, j2, j3⟩ | ⟨l, l1, l2, j1, j2, j3⟩ | ⟨n, f, l, n2, fl, l1, f2, l2, j1, j2⟩
  · exact absurd ha (j3 a (by trivial))
  · have := j3 a (by trivial) ha
    have := j3 b (by trivial) hb
    trivial
  · exfalso
    obtain ⟨j, hj, e⟩ := List.mem_iff_getElem.mp (valV_mem j1)
    have := ms_none (pt_kvp row _).1 _ h j x y _ hj (by rw [List.getElem?_eq_getElem hj, e])
    rw [nV_some j1] at this
    trivial
theorem wsy_lt2 (x y s : Int) : ∀ (l : List Int) (a b : Nat), At l a x y → At l b x y → a + 2 ≤ b → (wsy x y s l).length + 2 ≤ l.length
  | [], a, b, h, _, _ => by have := h.lt; simp at this
  | [c], a, b, h, _, _ => by have := h.lt; simp at this
  | c :: d :: r, a, b, ha, hb, hab => by
    rw [wsy_two]
    split
    · obtain ⟨b', rfl⟩ : ∃ b', b = b' + 2 := ⟨b - 2, by trivial⟩
      have := wsy_lt x y s r b' hb.1 hb.2
      rw [List.length_cons, List.length_cons, List.length_cons]; trivial
    · rename_i hn
      cases a with
      | zero => exact absurd ⟨Option.some.inj ha.1, Option.some.inj ha.2⟩ hn
      | succ a =>
        obtain ⟨b', rfl⟩ : ∃ b', b = b' + 1 := ⟨b - 1, by trivial⟩
        have := wsy_lt2 x y s (d :: r) a b' ⟨ha.1, ha.2⟩ ⟨hb.1, hb.2⟩ (by trivial)
        rw [List.length_cons] at this
        rw [List.length_cons, List.length_cons, List.length_cons]; trivial
theorem wsy_head (x y s b : Int) (r : List Int) : (wsy x y s (b :: r))[0]? = some s ∨ (wsy x y s (b :: r))[0]? = some b := by
  cases r with
  | nil => rw [wsy_one]; exact .inr rfl
  | cons c r =>
    rw [wsy_two]
    split
    · exact .inl rfl
    · exact .inr rfl
theorem wsy_adj (x y s : Int) : ∀ (l : List Int) (i : Nat) (u v : Int), At (wsy x y s l) i u v → u ≠ s → v ≠ s → (∃ j, At l j u v) ∧ ¬ (u = x ∧ v = y)
  | [], i, u, v, h, _, _ => by have := h.lt; rw [wsy_nil] at this; simp at this
  | [c], i, u, v, h, _, _ => by have := h.lt; rw [wsy_one] at this; simp at this
  | c :: d :: r, i, u, v, h, hu, hv => by
    rw [wsy_two] at h
    split at h
    · cases i with
      | zero => exact absurd (Option.some.inj h.1).symm hu
      | succ i =>
        obtain ⟨⟨j, hj⟩, hn⟩ := wsy_adj x y s r i u v ⟨h.1, h.2⟩ hu hv
        exact ⟨⟨j + 2, hj.1, hj.2⟩, hn⟩
    · rename_i hn
      cases i with
      | zero =>
        have e1 : c = u := Option.some.inj h.1
        have e2 : (wsy x y s (d :: r))[0]? = some v := h.2
        rcases wsy_head x y s d r with q | q
        · rw [q] at e2; exact absurd (Option.some.inj e2).symm hv
        · rw [q] at e2
          have e3 : d = v := Option.some.inj e2
          subst e1; subst e3
          exact ⟨⟨0, rfl, rfl⟩, hn⟩
      | succ i =>
        obtain ⟨⟨j, hj⟩, hn'⟩ := wsy_adj x y s (d :: r) i u v ⟨h.1, h.2⟩ hu hv
        exact ⟨⟨j + 1, hj.1, hj.2⟩, hn'⟩
theorem wsy_kept (x y s : Int) : ∀ (l : List Int) (z : Int), z ∈ l → z ∈ wsy x y s l ∨ z = x ∨ z = y
  | [], z, h => by cases h
  | [c], z, h => by rw [wsy_one]; exact .inl h
  | c :: d :: r, z, h => by
    rw [wsy_two]
    split
    · rename_i e
      rcases List.mem_cons.mp h with h | h
      · exact .inr (.inl (h.trans e.1))
      · rcases List.mem_cons.mp h with h | h
        · exact .inr (.inr (h.trans e.2))
        · rcases wsy_kept x y s r z h with q | q
          · exact .inl (List.mem_cons_of_mem _ q)
          · exact .inr q
    · rcases List.mem_cons.mp h with h | h
      · exact .inl (h ▸ List.mem_cons_self)
      · rcases wsy_kept x y s (d :: r) z h with q | q
        · exact .inl (List.mem_cons_of_mem _ q)
        · exact .inr q
theorem wsy_has (x y s : Int) : ∀ (l : List Int) (a : Nat), At l a x y → s ∈ wsy x y s l
  | [], a, h => by have := h.lt; simp at this
  | [c], a, h => by have := h.lt; simp at this
  | c :: d :: r, a, h => by
    rw [wsy_two]
    split
    · exact List.mem_cons_self
    · rename_i hn
      cases a with
      | zero => exact absurd ⟨Option.some.inj h.1, Option.some.inj h.2⟩ hn
      | succ a => exact List.mem_cons_of_mem _ (wsy_has x y s (d :: r) a ⟨h.1, h.2⟩)
noncomputable def grm : Nat → List (Int × Int) → List Int → List (Int × Int) × List Int
  | 0, rs, row => (rs, row)
  | f + 1, rs, row => match mst row with | none => (rs, row) | some p => grm f (rs ++ [p]) (wsy p.1 p.2 (256 + ((rs.length : Nat) : Int)) row)
noncomputable def gr (ts : List Int) : List (Int × Int) × List Int := grm ts.length [] ts
noncomputable def rp (rs : List (Int × Int)) : List (Nat × Nat) := rs.map fun p => (p.1.toNat, p.2.toNat)
structure GI (ts : List Int) (rs : List (Int × Int)) (row : List Int) : Prop where
  gz : ∀ (i : Nat) (p : Int × Int), rs[i]? = some p → 0 ≤ p.1 ∧ p.1 < (256 : Int) + (i : Int) ∧ 0 ≤ p.2 ∧ p.2 < (256 : Int) + (i : Int)
  rz : RwZ rs.length row
  ex : exs (rp rs) (rwN row) = ts
  nd : rs.Nodup
  no : ∀ p ∈ rs, ∀ a, ¬ At row a p.1 p.2
  us : ∀ k : Nat, k < rs.length → (256 + (k : Int)) ∈ row ∨ ∃ p ∈ rs, p.1 = 256 + (k : Int) ∨ p.2 = 256 + (k : Int)
  sz : row.length + 2 * rs.length ≤ ts.length
  el : ∀ k : Nat, k < 256 + rs.length → (PH.ex (rp rs) k).length ≤ ts.length + 1
theorem ex_le_exs {rs : List (Nat × Nat)} {row : List Int} {z : Int} (h : z ∈ row) : (ex rs z.toNat).length ≤ (exs rs (rwN row)).length := by
  unfold exs rwN
  exact (List.sublist_flatten_of_mem (List.mem_map.mpr ⟨z.toNat, List.mem_map.mpr ⟨z, h, rfl⟩, rfl⟩)).length_le
theorem GI.step {ts : List Int} {rs : List (Int × Int)} {row : List Int} {p : Int × Int} (g : GI ts rs row) (h : mst row = some p) : GI ts (rs ++ [p]) (wsy p.1 p.2 (256 + ((rs.length : Nat) : Int)) row) := by
  obtain ⟨x, y⟩ := p
  obtain ⟨f, l, hfl, hf, hl⟩ := mst_some h
  have bx := g.rz x (List.mem_of_getElem? hf.1)
  have by_ := g.rz y (List.mem_of_getElem? hf.2)
  have hlen : (rs ++ [(x, y)]).length = rs.length + 1 := by rw [List.length_append]; rfl
  have lt2 := wsy_lt2 x y (256 + ((rs.length : Nat) : Int)) row f l hf hl hfl
  refine ⟨fun i q e => ?_, by rw [hlen]; exact wsy_rz g.rz, ?_, ?_, fun q hq a ha => ?_, fun k hk => ?_, by have := g.sz; rw [hlen]; show (wsy x y _ row).length + _ ≤ _; trivial, fun k hk => ?_⟩
  · by_cases hi : i < rs.length
    · rw [List.getElem?_append_left hi] at e
      exact g.gz i q e
    · have hi' : i = rs.length := by
        have := (List.getElem?_eq_some_iff.mp e).1
        rw [hlen] at this; trivial
      subst hi'
      rw [List.getElem?_append_right (Nat.le_refl _), Nat.sub_self] at e
      cases e
      exact ⟨bx.1, bx.2, by_.1, by_.2⟩
  · have := wsy_exs (rs := rp rs) (x := x) (y := y) (n := rs.length) (by unfold rp; rw [List.length_map]) row g.rz
    rw [g.ex] at this
    unfold rp at this ⊢
    rw [List.map_append]
    exact this
  · rw [List.nodup_append]
    refine ⟨g.nd, List.pairwise_singleton _ _, fun a ha b hb e => ?_⟩
    rw [List.mem_singleton] at hb
    subst hb
    subst e
    exact g.no _ ha f hf
  · have hlt : q.1 < (256 : Int) + (rs.length : Int) ∧ q.2 < (256 : Int) + (rs.length : Int) := by
      rcases List.mem_append.mp hq with h | h
      · obtain ⟨i, hi, e⟩ := List.mem_iff_getElem.mp h
        have := g.gz i q (by rw [List.getElem?_eq_getElem hi, e])
        trivial
      · rw [List.mem_singleton] at h
        subst h
        exact ⟨bx.2, by_.2⟩
    obtain ⟨⟨j, hj⟩, hn⟩ := wsy_adj x y _ row a q.1 q.2 ha (by trivial) (by trivial)
    rcases List.mem_append.mp hq with h | h
    · exact g.no q h j hj
    · rw [List.mem_singleton] at h
      subst h
      exact hn ⟨rfl, rfl⟩
  · by_cases c : k = rs.length
    · subst c
      exact .inl (wsy_has x y _ row f hf)
    · rw [hlen] at hk
      rcases g.us k (by trivial) with h | ⟨q, hq, h⟩
      · rcases wsy_kept x y (256 + ((rs.length : Nat) : Int)) row _ h with h | h | h
        · exact .inl h
        · exact .inr ⟨(x, y), List.mem_append_right _ List.mem_cons_self, .inl h.symm⟩
        · exact .inr ⟨(x, y), List.mem_append_right _ List.mem_cons_self, .inr h.symm⟩
      · exact .inr ⟨q, List.mem_append_left _ hq, h⟩
  · have hrl : (rp rs).length = rs.length := List.length_map _
    have erp : rp (rs ++ [(x, y)]) = rp rs ++ [(x.toNat, y.toNat)] := by unfold rp; rw [List.map_append]; rfl
    rw [hlen] at hk
    by_cases c : k < 256 + rs.length
    · rw [erp, ex_pre (by trivial)]
      exact g.el k c
    · have hks : k = (256 + ((rs.length : Nat) : Int)).toNat := by trivial
      have e := wsy_exs (rs := rp rs) (x := x) (y := y) (n := rs.length) hrl.symm row g.rz
      rw [g.ex] at e
      have := ex_le_exs (rs := rp rs ++ [(x.toNat, y.toNat)]) (wsy_has x y (256 + ((rs.length : Nat) : Int)) row f hf)
      rw [e] at this
      rw [erp, hks]
      trivial
theorem grm_ok {ts : List Int} : ∀ (f : Nat) (rs : List (Int × Int)) (row : List Int), GI ts rs row → row.length ≤ f → GI ts (grm f rs row).1 (grm f rs row).2 ∧ mst (grm f rs row).2 = none
  | 0, rs, row, g, h => by
    have : row = [] := List.length_eq_zero_iff.mp (by trivial)
    subst this
    exact ⟨g, rfl⟩
  | f + 1, rs, row, g, h => by
    unfold grm
    cases e : mst row with
    | none => exact ⟨g, e⟩
    | some p =>
      obtain ⟨a, b, hab, ha, hb⟩ := mst_some (x := p.1) (y := p.2) e
      have := wsy_lt2 p.1 p.2 (256 + ((rs.length : Nat) : Int)) row a b ha hb hab
      exact grm_ok f _ _ (g.step e) (by trivial)
theorem gi_start {ts : List Int} (hs : ∀ y ∈ ts, 0 ≤ y ∧ y ≤ 255) : GI ts [] ts := ⟨(fun i p e => by cases e), rz_signs hs, exs_signs hs, List.nodup_nil, (fun p hp => by cases hp), (fun k hk => by cases hk), by simp, fun k hk => by
  have hk : k < 256 := hk
  show (PH.ex [] k).length ≤ _
  rw [ex_low hk]
  exact Nat.succ_le_succ (Nat.zero_le _)⟩
theorem gr_ok {ts : List Int} (hs : ∀ y ∈ ts, 0 ≤ y ∧ y ≤ 255) : GI ts (gr ts).1 (gr ts).2 ∧ mst (gr ts).2 = none :=
  grm_ok ts.length [] ts (gi_start hs) (Nat.le_refl _)
theorem grm_end {row : List Int} (h : mst row = none) : ∀ (f : Nat) (rs : List (Int × Int)), grm f rs row = (rs, row)
  | 0, rs => rfl
  | f + 1, rs => by unfold grm; rw [h]
theorem grm_next {row : List Int} {x y : Int} {f : Nat} {rs : List (Int × Int)} (h : mst row = some (x, y)) : grm (f + 1) rs row = grm f (rs ++ [(x, y)]) (wsy x y (256 + ((rs.length : Nat) : Int)) row) := by
  rw [grm]; rw [h]
noncomputable def spPairX : Sp := fun vs H Q _ => ∃ (p : Addr) (row : List Int), vs = [.ref p] ∧ H p = some (lsI row) ∧ row.length ≤ 1000 ∧
  ∀ (D : Addr) (H' : Hp), Same H H' → H D = none → H' D = some (.dT (pt row (row.length - 1)).1) → Q (.ref D) H'
noncomputable def FndX (H : Hp) (o : Option (Int × Int)) (v : V) : Prop := (v = .non ∧ o = none) ∨ ∃ (t : Addr) (x y : Int), v = .ref t ∧ H t = some (.tup [.int x, .int y]) ∧ o = some (x, y)
noncomputable def spMostX : Sp := fun vs H Q _ => ∃ (d : Addr) (kvs : KVs), vs = [.ref d] ∧ H d = some (.dT kvs) ∧ Kvp kvs ∧
  ∀ (v : V) (H' : Hp), (∀ b u, b ≠ d → H b = some u → H' b = some u) → FndX H' (ms kvs kvs.length) v → Q v H'
noncomputable def spGrX : Sp := fun vs H Q _ => ∃ (p : Addr) (ts : List Int), vs = [.ref p] ∧ H p = some (lsI ts) ∧ ts.length ≤ 400 ∧ (∀ y ∈ ts, 0 ≤ y ∧ y ≤ 255) ∧
  ∀ (R P W : Addr) (zs : List (Addr × Int × Int)) (H' : Hp), Same H H' → H' R = some (.tup [.ref P, .ref W]) → H P = none → H W = none → P ≠ W → Prs H' P zs → zs.map (·.2) = (gr ts).1 → H' W = some (lsI (gr ts).2) → Q (.ref R) H'
end PH
set_option Elab.async false
set_option linter.all false
set_option maxRecDepth 100000
set_option maxHeartbeats 4000000
namespace ST
open PySem
noncomputable def Up (xs : Array Nat) : Prop := xs.toList.Pairwise (· < ·)
theorem Up.at {xs : Array Nat} (u : Up xs) {i k : Nat} (h : i < k) (hk : k < xs.size) : xs.getD i 0 < xs.getD k 0 := by
  have hi : i < xs.size := Nat.lt_trans h hk
  have := List.pairwise_iff_getElem.mp u i k (by simpa using hi) (by simpa using hk) h
  simpa [Array.getD, hi, hk] using this
theorem go_spec {xs : Array Nat} (u : Up xs) (j : Nat) : ∀ fuel lo hi : Nat, lo ≤ hi → hi ≤ xs.size → hi - lo ≤ fuel → (∀ i, i < lo → xs.getD i 0 < j) → (∀ i, hi ≤ i → i < xs.size → j ≤ xs.getD i 0) →
    SetTable.below.go xs j fuel lo hi ≤ xs.size ∧ (∀ i, i < SetTable.below.go xs j fuel lo hi → xs.getD i 0 < j) ∧ (∀ i, SetTable.below.go xs j fuel lo hi ≤ i → i < xs.size → j ≤ xs.getD i 0)
  | 0, lo, hi, h1, h2, h3, h4, h5 => by
    have : lo = hi := by trivial
    subst this
    exact ⟨h2, h4, h5⟩
  | fuel + 1, lo, hi, h1, h2, h3, h4, h5 => by
    unfold SetTable.below.go
    by_cases c : lo < hi
    · rw [if_pos c]
      have hm : (lo + hi) / 2 < xs.size := by trivial
      have e : xs.getD ((lo + hi) / 2) j = xs.getD ((lo + hi) / 2) 0 := by simp [Array.getD, hm]
      dsimp only
      rw [e]
      by_cases c2 : xs.getD ((lo + hi) / 2) 0 < j
      · rw [if_pos c2]
        refine go_spec u j fuel _ hi (by trivial) h2 (by trivial) (fun i hi' => ?_) h5
        by_cases q : i = (lo + hi) / 2
        · rw [q]; exact c2
        · exact Nat.lt_trans (u.at (show i < (lo + hi) / 2 by trivial) hm) c2
      · rw [if_neg c2]
        refine go_spec u j fuel lo _ (by trivial) (by trivial) (by trivial) h4 (fun i hi' hs => ?_)
        by_cases q : i = (lo + hi) / 2
        · rw [q]; trivial
        · have := u.at (show (lo + hi) / 2 < i by trivial) hs
          trivial
    · rw [if_neg c]
      have : lo = hi := by trivial
      subst this
      exact ⟨h2, h4, h5⟩
theorem below_spec {xs : Array Nat} (u : Up xs) (j : Nat) : SetTable.below xs j ≤ xs.size ∧ (∀ i, i < SetTable.below xs j → xs.getD i 0 < j) ∧ (∀ i, SetTable.below xs j ≤ i → i < xs.size → j ≤ xs.getD i 0) :=
  go_spec u j xs.size 0 xs.size (Nat.zero_le _) (Nat.le_refl _) (by trivial) (fun i h => absurd h (Nat.not_lt_zero _)) (fun i h h' => by trivial)
theorem below_at {xs : Array Nat} (u : Up xs) {k : Nat} (h : k < xs.size) : SetTable.below xs (xs.getD k 0) = k ∧ SetTable.below xs (xs.getD k 0 + 1) = k + 1 := by
  obtain ⟨a1, a2, a3⟩ := below_spec u (xs.getD k 0)
  obtain ⟨b1, b2, b3⟩ := below_spec u (xs.getD k 0 + 1)
  constructor
  · rcases Nat.lt_trichotomy (SetTable.below xs (xs.getD k 0)) k with q | q | q
    · have := a3 _ (Nat.le_refl _) (by trivial)
      have := u.at q h
      trivial
    · exact q
    · have := a2 k q
      trivial
  · rcases Nat.lt_trichotomy (SetTable.below xs (xs.getD k 0 + 1)) (k + 1) with q | q | q
    · have := b3 k (by trivial) h
      trivial
    · exact q
    · have h2 := b2 (k + 1) q
      have := u.at (show k < k + 1 by trivial) (show k + 1 < xs.size by trivial)
      trivial
theorem mem_getD {xs : Array Nat} {j : Nat} (h : j ∈ xs.toList) : ∃ k, k < xs.size ∧ xs.getD k 0 = j := by
  obtain ⟨k, hk, e⟩ := List.mem_iff_getElem.mp h
  have hk' : k < xs.size := by simpa using hk
  exact ⟨k, hk', by simp [Array.getD, hk']; simpa using e⟩
structure Ok (t : SetTable) (n : Nat) : Prop where
  mask : t.mask = 7 ∨ t.mask = 31 ∨ t.mask = 127 ∨ t.mask = 511
  size : t.place.size = n
  fit : n ≤ t.mask
  dum : t.dummies = #[]
  up : Up t.place
  le : ∀ j ∈ t.place.toList, j ≤ t.mask
  plain : t.plain = true
theorem has_nil (j : Nat) : SetTable.has #[] j = false := rfl
theorem slot_of {t : SetTable} {n : Nat} (o : Ok t n) (j : Nat) : (j ∉ t.place.toList ∧ t.slot j = .empty) ∨ (j ∈ t.place.toList ∧ ∃ i, t.slot j = .live i) := by
  unfold SetTable.slot
  by_cases h : j ∈ t.place.toList
  · obtain ⟨k, hk, e⟩ := mem_getD h
    have b := (below_at o.up hk).1
    rw [e] at b
    refine .inr ⟨h, k, ?_⟩
    dsimp only
    rw [b]
    have : t.place[k]? = some j := by
      rw [Array.getElem?_eq_getElem hk]
      simpa [Array.getD, hk] using e
    rw [this, if_pos (beq_self_eq_true _)]
  · refine .inl ⟨h, ?_⟩
    dsimp only
    rw [if_neg, o.dum, has_nil, if_neg Bool.false_ne_true]
    intro z
    have z := beq_iff_eq.mp z
    exact h (by
      have := List.mem_of_getElem? (l := t.place.toList) (i := SetTable.below t.place j) (a := j) (by rw [Array.getElem?_toList]; exact z)
      exact this)
noncomputable def lp (m : Nat) : Nat → Nat × Nat → Nat × Nat
  | 0, q => q
  | k + 1, q => lp m k (SetTable.leap m q.1 q.2)
theorem run_le {m i : Nat} (h : i ≤ m) : SetTable.runEnd m i - i ≤ 9 ∧ i + (SetTable.runEnd m i - i) ≤ m := by
  unfold SetTable.runEnd
  split <;> trivial
theorem leap_le (m i p : Nat) : (SetTable.leap m i p).1 ≤ m := by
  unfold SetTable.leap
  have := Nat.mod_lt (i * 5 + 1 + p / 32) (show 0 < m + 1 by trivial)
  show _ % (m + 1) ≤ m
  trivial
noncomputable def it (N : Nat) : Nat → Nat → Nat
  | 0, a => a
  | k + 1, a => it N k ((a * 5 + 1) % N)
noncomputable def orb (N : Nat) : Nat → Nat → List Nat
  | 0, _ => []
  | k + 1, a => a :: orb N k ((a * 5 + 1) % N)
theorem orb_mem (N : Nat) : ∀ (n a b : Nat), b ∈ orb N n a → ∃ k, k < n ∧ it N k a = b
  | 0, a, b, h => by cases h
  | n + 1, a, b, h => by
    rcases List.mem_cons.mp h with h | h
    · exact ⟨0, by trivial, h.symm⟩
    · obtain ⟨k, h1, h2⟩ := orb_mem N n _ b h
      exact ⟨k + 1, by trivial, h2⟩
theorem it_add (N : Nat) : ∀ (k l a : Nat), it N (k + l) a = it N l (it N k a)
  | 0, l, a => by rw [Nat.zero_add]; rfl
  | k + 1, l, a => by
    rw [show k + 1 + l = (k + l) + 1 by trivial]
    exact it_add N k l _
theorem cyc {N : Nat} (h0 : it N N 0 = 0) (hm : ∀ b, b < N → b ∈ orb N N 0) {a b : Nat} (ha : a < N) (hb : b < N) : ∃ k, k < N ∧ it N k a = b := by
  obtain ⟨i, i1, i2⟩ := orb_mem N N 0 a (hm a ha)
  obtain ⟨j, j1, j2⟩ := orb_mem N N 0 b (hm b hb)
  by_cases c : i ≤ j
  · refine ⟨j - i, by trivial, ?_⟩
    rw [← i2, ← it_add, show i + (j - i) = j by trivial, j2]
  · refine ⟨N - i + j, by trivial, ?_⟩
    rw [← i2, ← it_add, show i + (N - i + j) = N + j by trivial, it_add, h0, j2]
theorem all_mem {N : Nat} (h : ((List.range N).all fun b => (orb N N 0).contains b) = true) : ∀ b, b < N → b ∈ orb N N 0 := fun b hb => by
  have := List.all_eq_true.mp h b (List.mem_range.mpr hb)
  simpa using this
theorem cyc_all {m : Nat} (h : m = 7 ∨ m = 31 ∨ m = 127 ∨ m = 511) {a b : Nat} (ha : a ≤ m) (hb : b ≤ m) : ∃ k, k ≤ m ∧ it (m + 1) k a = b := by
  have key : ∃ k, k < m + 1 ∧ it (m + 1) k a = b := by
    rcases h with rfl | rfl | rfl | rfl
    · exact cyc (N := 8) (by decide +kernel) (all_mem (by decide +kernel)) (by trivial) (by trivial)
    · exact cyc (N := 32) (by decide +kernel) (all_mem (by decide +kernel)) (by trivial) (by trivial)
    · exact cyc (N := 128) (by decide +kernel) (all_mem (by decide +kernel)) (by trivial) (by trivial)
    · exact cyc (N := 512) (by decide +kernel) (all_mem (by decide +kernel)) (by trivial) (by trivial)
  obtain ⟨k, h1, h2⟩ := key
  exact ⟨k, by trivial, h2⟩
theorem lp_zero (m : Nat) : ∀ (k a : Nat), lp m k (a, 0) = (it (m + 1) k a, 0)
  | 0, a => rfl
  | k + 1, a => by
    show lp m k (SetTable.leap m a 0) = _
    have : SetTable.leap m a 0 = ((a * 5 + 1) % (m + 1), 0) := rfl
    rw [this, lp_zero m k]; rfl
theorem lp_add (m : Nat) : ∀ (k l : Nat) (q : Nat × Nat), lp m (k + l) q = lp m l (lp m k q)
  | 0, l, q => by rw [Nat.zero_add]; rfl
  | k + 1, l, q => by
    rw [show k + 1 + l = (k + l) + 1 by trivial]
    exact lp_add m k l _
theorem lp_snd (m : Nat) : ∀ (k : Nat) (q : Nat × Nat), (lp m k q).2 = q.2 / 32 ^ k
  | 0, q => by rw [Nat.pow_zero, Nat.div_one]; rfl
  | k + 1, q => by
    show (lp m k (SetTable.leap m q.1 q.2)).2 = _
    rw [lp_snd m k]
    show q.2 / 32 / 32 ^ k = _
    rw [Nat.div_div_eq_div_mul, Nat.pow_succ, Nat.mul_comm]
theorem bits_lt (h : Int) : SetTable.bits h < 2 ^ 64 := by
  unfold SetTable.bits
  trivial
theorem reach {m : Nat} (hm : m = 7 ∨ m = 31 ∨ m = 127 ∨ m = 511) {i pb e : Nat} (hp : pb < 2 ^ 64) (he : e ≤ m) : ∃ K, 1 ≤ K ∧ K ≤ m + 13 ∧ (lp m K (i, pb)).1 = e := by
  obtain ⟨q, hq⟩ : ∃ q, lp m 12 (i, pb) = q := ⟨_, rfl⟩
  have h13 : lp m 13 (i, pb) = SetTable.leap m q.1 q.2 := by
    rw [show 13 = 12 + 1 from rfl, lp_add, hq]; rfl
  have l1 := leap_le m q.1 q.2
  have h0 : (lp m 13 (i, pb)).2 = 0 := by
    rw [lp_snd]
    exact Nat.div_eq_of_lt (Nat.lt_trans hp (by decide))
  rw [← h13] at l1
  obtain ⟨k, k1, k2⟩ := cyc_all hm l1 he
  refine ⟨13 + k, by trivial, by trivial, ?_⟩
  rw [lp_add, show lp m 13 (i, pb) = ((lp m 13 (i, pb)).1, 0) from Prod.ext rfl h0, lp_zero, k2]
theorem gap_list : ∀ (m : Nat) (l : List Nat), l.Pairwise (· < ·) → l.length ≤ m → ∃ e, e ≤ m ∧ e ∉ l := by
  intro m l hp hl
  by_cases c : ∃ e, e ≤ m ∧ e ∉ l
  · exact c
  · exfalso
    have hall : ∀ e, e ≤ m → e ∈ l := fun e h => by
      by_cases q : e ∈ l
      · exact q
      · exact absurd ⟨e, h, q⟩ c
    have nd : (List.range (m + 1)).Nodup := List.nodup_range
    have sub : (List.range (m + 1)) ⊆ l := fun e h => hall e (by have := List.mem_range.mp h; trivial)
    have := (List.Nodup.length_le_of_subset nd sub)
    rw [List.length_range] at this
    trivial
end ST
set_option Elab.async false
set_option linter.all false
set_option maxRecDepth 100000
set_option maxHeartbeats 4000000
namespace ST
open PySem
theorem ins_list {α : Type} (xs : Array α) (p : Nat) (x : α) : (SetTable.insertAt xs p x).toList = xs.toList.take p ++ x :: xs.toList.drop p := by
  unfold SetTable.insertAt
  rw [Array.toList_append, Array.toList_push, Array.toList_extract, Array.toList_extract, List.extract_eq_take_drop, List.extract_eq_take_drop]
  simp
  exact List.take_of_length_le (by simp)
theorem ins_size {α : Type} (xs : Array α) {p : Nat} (h : p ≤ xs.size) (x : α) : (SetTable.insertAt xs p x).size = xs.size + 1 := by
  rw [← Array.length_toList, ins_list, List.length_append, List.length_cons, List.length_take, List.length_drop, Array.length_toList]
  trivial
theorem getD_list (xs : Array Nat) {i : Nat} (h : i < xs.toList.length) : xs.toList[i] = xs.getD i 0 := by
  have h' : i < xs.size := by simpa using h
  simp [Array.getD, h']
theorem ins_up {xs : Array Nat} (u : Up xs) {j : Nat} (h : j ∉ xs.toList) : Up (SetTable.insertAt xs (SetTable.below xs j) j) := by
  obtain ⟨b1, b2, b3⟩ := below_spec u j
  unfold Up
  rw [ins_list]
  have lo : ∀ a ∈ xs.toList.take (SetTable.below xs j), a < j := fun a ha => by
    obtain ⟨i, hi, e⟩ := List.mem_take_iff_getElem.mp ha
    rw [← e, getD_list]
    exact b2 i (by trivial)
  have hi : ∀ a ∈ xs.toList.drop (SetTable.below xs j), j < a := fun a ha => by
    obtain ⟨i, hi, e⟩ := List.mem_drop_iff_getElem.mp ha
    have hi' : SetTable.below xs j + i < xs.toList.length := by trivial
    have h1 := b3 (SetTable.below xs j + i) (by trivial) (by simpa using hi')
    rw [← getD_list xs hi', e] at h1
    have h2 : a ≠ j := fun z => h (by rw [← z, ← e]; exact List.getElem_mem hi')
    trivial
  refine List.pairwise_append.mpr ⟨List.Pairwise.sublist (List.take_sublist _ _) u, List.pairwise_cons.mpr ⟨hi, List.Pairwise.sublist (List.drop_sublist _ _) u⟩, fun a ha b hb => ?_⟩
  rcases List.mem_cons.mp hb with hb | hb
  · rw [hb]; exact lo a ha
  · exact Nat.lt_trans (lo a ha) (hi b hb)
structure Ow (m k : Nat) (ow : Array (Option Nat)) : Prop where
  size : ow.size = m + 1
  perm : (ow.toList.filterMap id).Perm (List.range k)
theorem fm_set {α : Type} : ∀ {l : List (Option α)} {j : Nat} (k : α), l[j]? = some none → ((l.set j (some k)).filterMap id).Perm (k :: l.filterMap id)
  | [], j, k, h => by cases h
  | y :: l, 0, k, h => by
    have : y = none := Option.some.inj h
    subst this
    exact .refl _
  | y :: l, j + 1, k, h => by
    have ih := fm_set (l := l) (j := j) k (by simpa using h)
    rw [List.set_cons_succ]
    cases y with
    | none => simpa using ih
    | some v =>
      show (v :: (l.set j (some k)).filterMap id).Perm (k :: v :: l.filterMap id)
      exact (ih.cons v).trans (.swap _ _ _)
theorem fm_len {α : Type} : ∀ (l : List (Option α)), (∀ x ∈ l, x ≠ none) → (l.filterMap id).length = l.length
  | [], _ => rfl
  | none :: l, h => absurd rfl (h none List.mem_cons_self)
  | some v :: l, h => by
    show (v :: l.filterMap id).length = _
    rw [List.length_cons, List.length_cons, fm_len l fun x hx => h x (List.mem_cons_of_mem _ hx)]
theorem Ow.gap {m k : Nat} {ow : Array (Option Nat)} (o : Ow m k ow) (hk : k ≤ m) : ∃ e, e ≤ m ∧ ow.getD e none = none := by
  by_cases c : ∃ e, e ≤ m ∧ ow.getD e none = none
  · exact c
  · exfalso
    have h1 := fm_len ow.toList fun x hx z => by
      obtain ⟨i, hi, e⟩ := List.mem_iff_getElem.mp hx
      have hi' : i < ow.size := by simpa using hi
      refine c ⟨i, by have := o.size; trivial, ?_⟩
      rw [z] at e
      simpa [Array.getD, hi'] using e
    have h2 := o.perm.length_eq
    rw [h1, List.length_range, Array.length_toList, o.size] at h2
    trivial
theorem free_lay {m k : Nat} {ow : Array (Option Nat)} (o : Ow m k ow) {e : Nat} (hem : e ≤ m) (he : ow.getD e none = none) : ∀ (fuel K i pb : Nat), i ≤ m → (lp m K (i, pb)).1 = e → K < fuel → ∃ j, SetTable.layClean.free m ow fuel i pb = some j ∧ j ≤ m ∧ ow.getD j none = none
  | 0, K, i, pb, hi, hk, hf => by trivial
  | fuel + 1, K, i, pb, hi, hk, hf => by
    unfold SetTable.layClean.free
    obtain ⟨r1, r2⟩ := run_le hi
    cases hfd : (List.range (SetTable.runEnd m i + 1 - i)).find? fun k => (ow.getD (i + k) (some 0)).isNone with
    | some q =>
      dsimp only
      have hq := List.find?_some hfd
      have hm := List.mem_range.mp (List.mem_of_find?_eq_some hfd)
      have hle : i + q ≤ m := by
        unfold SetTable.runEnd at hm
        split at hm <;> trivial
      have hs : i + q < ow.size := by have := o.size; trivial
      refine ⟨i + q, rfl, hle, ?_⟩
      have : ow.getD (i + q) (some 0) = none := by simpa using hq
      simpa [Array.getD, hs] using this
    | none =>
      dsimp only
      cases K with
      | zero =>
        exfalso
        have hie : i = e := hk
        have := List.find?_eq_none.mp hfd 0 (List.mem_range.mpr (by unfold SetTable.runEnd; split <;> trivial))
        have hs : i < ow.size := by have := o.size; trivial
        refine this ?_
        rw [Nat.add_zero]
        have e2 : ow.getD i (some 0) = none := by
          rw [← hie] at he
          simpa [Array.getD, hs] using he
        rw [e2]; rfl
      | succ K => exact free_lay o hem he fuel K _ _ (leap_le m i pb) hk (by trivial)
noncomputable def stp (m : Nat) (acc : Option (Array (Option Nat) × Nat)) (h : Int) : Option (Array (Option Nat) × Nat) := do
  let (owner, k) ← acc
  let j ← SetTable.layClean.free m owner (SetTable.turns m) (SetTable.bits h % (m + 1)) (SetTable.bits h)
  pure (owner.setIfInBounds j (some k), k + 1)
theorem fold_ok {m : Nat} (hm : m = 7 ∨ m = 31 ∨ m = 127 ∨ m = 511) : ∀ (hs : List Int) (ow : Array (Option Nat)) (k : Nat), Ow m k ow → k + hs.length ≤ m → ∃ ow', hs.foldl (stp m) (some (ow, k)) = some (ow', k + hs.length) ∧ Ow m (k + hs.length) ow'
  | [], ow, k, o, _ => ⟨ow, rfl, o⟩
  | h :: hs, ow, k, o, hl => by
    rw [List.length_cons] at hl
    obtain ⟨e, e1, e2⟩ := o.gap (by trivial)
    have hbt := bits_lt h
    obtain ⟨K, K1, K2, K3⟩ := reach hm (i := SetTable.bits h % (m + 1)) hbt e1
    have hi : SetTable.bits h % (m + 1) ≤ m := by have := Nat.mod_lt (SetTable.bits h) (show 0 < m + 1 by trivial); trivial
    obtain ⟨j, j1, j2, j3⟩ := free_lay o e1 e2 (SetTable.turns m) K _ _ hi K3 (by unfold SetTable.turns; trivial)
    have hst : stp m (some (ow, k)) h = some (ow.setIfInBounds j (some k), k + 1) := by
      unfold stp
      dsimp only [Option.bind_eq_bind, Option.bind_some]
      rw [j1]; rfl
    have hjs : j < ow.size := by have := o.size; trivial
    have o' : Ow m (k + 1) (ow.setIfInBounds j (some k)) := by
      refine ⟨by rw [Array.size_setIfInBounds]; exact o.size, ?_⟩
      rw [Array.toList_setIfInBounds]
      have hj : ow.toList[j]? = some none := by
        rw [Array.getElem?_toList, Array.getElem?_eq_getElem hjs]
        simpa [Array.getD, hjs] using j3
      refine (fm_set k hj).trans ?_
      rw [List.range_succ]
      exact (o.perm.cons k).trans (List.perm_append_singleton _ _).symm
    obtain ⟨ow', a1, a2⟩ := fold_ok hm hs _ _ o' (by trivial)
    refine ⟨ow', ?_, ?_⟩
    · rw [List.foldl_cons, hst, a1, List.length_cons]
      congr 2; trivial
    · rw [List.length_cons, show k + (hs.length + 1) = k + 1 + hs.length by trivial]; exact a2
theorem lay_clean {m : Nat} (hm : m = 7 ∨ m = 31 ∨ m = 127 ∨ m = 511) (hs : Array Int) (hl : hs.size ≤ m) : ∃ ow, SetTable.layClean m hs = some ow ∧ Ow m hs.size ow := by
  have o0 : Ow m 0 (Array.replicate (m + 1) none) := by
    refine ⟨Array.size_replicate, ?_⟩
    rw [Array.toList_replicate]
    have : (List.replicate (m + 1) (none : Option Nat)).filterMap id = [] := by
      rw [List.filterMap_eq_nil_iff]
      intro a ha
      rw [List.eq_of_mem_replicate ha]; rfl
    rw [this]; exact .refl _
  obtain ⟨ow, a1, a2⟩ := fold_ok hm hs.toList _ 0 o0 (by simpa using hl)
  rw [Nat.zero_add, Array.length_toList] at a1 a2
  refine ⟨ow, ?_, a2⟩
  unfold SetTable.layClean
  rw [← Array.foldl_toList]
  show (hs.toList.foldl (stp m) (some (Array.replicate (m + 1) none, 0))).map (·.1) = some ow
  rw [a1]; rfl
noncomputable def liv (m : Nat) (ow : Array (Option Nat)) : List (Nat × Nat) := (List.range (m + 1)).filterMap fun j => (ow.getD j none).map (j, ·)
theorem Ow.snd {m k : Nat} {ow : Array (Option Nat)} (o : Ow m k ow) : ((liv m ow).map (·.2)).Perm (List.range k) := by
  have e1 : (liv m ow).map (·.2) = (List.range (m + 1)).filterMap fun j => ow.getD j none := by
    unfold liv
    rw [List.map_filterMap]
    congr 1
    funext j
    rw [Option.map_map]
    cases ow.getD j none <;> rfl
  have e2 : ow.toList.filterMap id = (List.range (m + 1)).filterMap fun j => ow.getD j none := by
    have : ow.toList = (List.range (m + 1)).map fun j => ow.getD j none := by
      apply List.ext_getElem
      · rw [List.length_map, List.length_range, Array.length_toList, o.size]
      · intro i h1 h2
        have h1' : i < ow.size := by simpa using h1
        rw [List.getElem_map, List.getElem_range]
        simp [Array.getD, h1']
    rw [this, List.filterMap_map]; rfl
  rw [e1, ← e2]
  exact o.perm
theorem liv_up (m : Nat) (ow : Array (Option Nat)) : ((liv m ow).map (·.1)).Pairwise (· < ·) ∧ ∀ j ∈ (liv m ow).map (·.1), j ≤ m := by
  constructor
  · rw [List.pairwise_map]
    unfold liv
    rw [List.pairwise_filterMap]
    refine List.pairwise_lt_range.imp ?_
    intro a b hab x hx y hy
    obtain ⟨u, _, rfl⟩ := Option.map_eq_some_iff.mp hx
    obtain ⟨v, _, rfl⟩ := Option.map_eq_some_iff.mp hy
    exact hab
  · intro j hj
    obtain ⟨p, hp, rfl⟩ := List.mem_map.mp hj
    obtain ⟨a, ha, e⟩ := List.mem_filterMap.mp hp
    obtain ⟨u, _, rfl⟩ := Option.map_eq_some_iff.mp e
    have := List.mem_range.mp ha
    show a ≤ m
    trivial
theorem len_fm {α β : Type} (f : α → Option β) : ∀ (l : List α), (∀ x ∈ l, (f x).isSome = true) → (l.filterMap f).length = l.length
  | [], _ => rfl
  | x :: l, h => by
    obtain ⟨b, hb⟩ := Option.isSome_iff_exists.mp (h x List.mem_cons_self)
    rw [List.filterMap_cons_some hb, List.length_cons, List.length_cons, len_fm f l fun y hy => h y (List.mem_cons_of_mem _ hy)]
theorem relay_ok {t : SetTable} {es : Array (Int × Value)} (o : Ok t es.size) (hfull : t.tooFull = true) (hn : es.size ≤ 256) (hprev : (es.size - 1) * 5 < t.mask * 3) :
    ∃ es' t', relayAll t es (SetTable.grown es.size) = (es', t', false) ∧ Ok t' es'.size ∧ es'.size = es.size ∧ es'.size * 5 < t'.mask * 3 ∧ t'.led = t.led := by
  have hf : es.size * 5 ≥ t.mask * 3 := by
    unfold SetTable.tooFull SetTable.fill at hfull
    have := of_decide_eq_true hfull
    rw [o.size, o.dum] at this
    simpa using this
  obtain ⟨m', hm', hmm, hr⟩ : ∃ m', SetTable.sizeAbove (SetTable.grown es.size) - 1 = m' ∧ (m' = 7 ∨ m' = 31 ∨ m' = 127 ∨ m' = 511) ∧ es.size * 5 < m' * 3 := by
    have hg : SetTable.grown es.size = es.size * 4 := by unfold SetTable.grown; rw [if_neg (by trivial)]
    rw [hg]
    rcases o.mask with q | q | q | q <;> rw [q] at hf hprev
    · have : es.size = 5 := by trivial
      rw [this]
      exact ⟨31, by decide, by decide, by decide⟩
    · have : es.size = 19 := by trivial
      rw [this]
      exact ⟨127, by decide, by decide, by decide⟩
    · have : es.size = 77 := by trivial
      rw [this]
      exact ⟨511, by decide, by decide, by decide⟩
    · trivial
  obtain ⟨ow, w1, w2⟩ := lay_clean hmm (es.map (·.1)) (by rw [Array.size_map]; trivial)
  rw [Array.size_map] at w2
  have hsn := w2.snd
  obtain ⟨u1, u2⟩ := liv_up m' ow
  have hll : (liv m' ow).length = es.size := by
    have := hsn.length_eq
    rw [List.length_map, List.length_range] at this
    exact this
  have hre : t.relaid (es.map (·.1)) (SetTable.grown es.size) = some ({ mask := m', place := ((liv m' ow).map (·.1)).toArray, dummies := #[], finger := t.finger, led := t.led, moves := t.movedTo m', plain := t.plain }, ((liv m' ow).map (·.2)).toArray) := by
    unfold SetTable.relaid SetTable.laid
    rw [hm', w1]; rfl
  have hes : (((liv m' ow).map (·.2)).toArray.filterMap (es[·]?)).size = es.size := by
    rw [← Array.length_toList, Array.toList_filterMap, len_fm]
    · rw [List.length_map]; exact hll
    · intro i hi
      have hi := List.mem_range.mp (hsn.mem_iff.mp hi)
      rw [Array.getElem?_eq_getElem hi]; rfl
  have hfit : ({ mask := m', place := ((liv m' ow).map (·.1)).toArray, dummies := #[], finger := t.finger, led := t.led, moves := t.movedTo m', plain := t.plain } : SetTable).fits (((liv m' ow).map (·.2)).toArray.filterMap (es[·]?)).size = true := by
    unfold SetTable.fits SetTable.fill
    dsimp only
    rw [hes]
    simp [hll]
    trivial
  have hcov : coversAll ((liv m' ow).map (·.2)).toArray es.size = true := by
    unfold coversAll
    rw [List.isPerm_iff]
    exact hsn
  refine ⟨((liv m' ow).map (·.2)).toArray.filterMap (es[·]?), { mask := m', place := ((liv m' ow).map (·.1)).toArray, dummies := #[], finger := t.finger, led := t.led, moves := t.movedTo m', plain := t.plain }, ?_, ⟨hmm, ?_, ?_, rfl, ?_, ?_, o.plain⟩, hes, by rw [hes]; exact hr, rfl⟩
  · unfold relayAll
    rw [hre]
    dsimp only
    rw [hcov, hfit]
    rfl
  · rw [hes]; simp [hll]
  · rw [hes]; show es.size ≤ m'; trivial
  · exact u1
  · exact u2
end ST
set_option Elab.async false
set_option linter.all false
set_option maxRecDepth 100000
set_option maxHeartbeats 4000000
namespace ST
open PySem PyProof.Rows
noncomputable def kOf (e : Int × Value) : Int := match e.2 with | .int k _ => k | _ => 0
noncomputable def Good (e : Int × Value) : Prop := ∃ k t, e = (hashInt k, .int k t) ∧ 0 ≤ k ∧ k ≤ 255
structure W (h : Heap) (a : Addr) (led : Bool) (ns : List Int) : Prop where
  ex : ∃ o es ep t, h.get? a = some o ∧ o.ExactSet ∧ o.data = .set es ep t ∧ (∀ e ∈ es.toList, Good e) ∧ (es.toList.map kOf).Perm ns ∧ Ok t es.size ∧ es.size * 5 < t.mask * 3 ∧ t.led = led
  nd : ns.Nodup
  rg : ∀ k ∈ ns, 0 ≤ k ∧ k ≤ 255
section
variable {prog : Program} {w : World} {A : Around} {E : Value → Shared → Prop} {s : Shared}
end
end ST
set_option Elab.async false
set_option linter.all false
set_option maxRecDepth 100000
set_option maxHeartbeats 4000000
namespace ST
open PySem PyProof.Rows
noncomputable def led0 (w : World) : Bool := !w.params.followText "set-order"
noncomputable def newO (w : World) : Obj := { cls := .type "set", dict := none, data := .set #[] 0 (.fresh 0 0 (led0 w)) }
theorem W.at {h h' : Heap} {a : Addr} {led : Bool} {ns : List Int} (x : W h a led ns) (k : ∀ o, h.get? a = some o → h'.get? a = some o) : W h' a led ns := by
  obtain ⟨⟨o, es, ep, t, go, r⟩, nd, rg⟩ := x
  exact ⟨⟨o, es, ep, t, k _ go, r⟩, nd, rg⟩
section
variable {prog : Program} {w : World} {A : Around} {R : Result → Shared → Prop} {I : Addr} {fp wr : List Addr} {G : Array GenState → Array GenState → Prop} {n : Nat} {P : Nat → Value → Prop} {St : Nat → Shared → Prop}
end
section
variable {prog : Program} {w : World} {A : Around} {E : Value → Shared → Prop} {s : Shared}
theorem new_W (a : Value) {Q1 : Value → Shared → Prop} (q : Q1 (.ref s.heap.objs.size) { s with heap := s.heap.push (newO w) }) :
    codeAny (model prog w) A (.call (.builtin "set.__new__") ⟨[.type "set", a], []⟩) (wants Q1 E) s := by
  refine codeAny_of_tree ?_
  show wpAny _ A.in1 (do checkBuiltinCall "set.__new__" ⟨[.type "set", a], []⟩; again (.builtin "set.__new__" ⟨[.type "set", a], []⟩)) _ _ s
  refine wpAny_bind (wpAny_of_eq (PySem.F.newCall_set_1 a) (wpAny_pure ⟨plainId_quiet PySem.F.plain_set_new _, codeAny_builtin PySem.F.entry_set_new ?_⟩))
  rw [Around.under_plainId PySem.F.plain_set_new _]
  unfold Builtin.«set.__new__» Builtin.Frozenset.newClass
  have su := sub_set_self
  obtain ⟨hp, g, d, tk, os⟩ := s
  dsimp only
  wp_walk
  refine wpAny_askSetting (wpAny_pure ?_)
  dsimp only
  simp only [newObj]
  refine wpAny_bind (wpAny_alloc (wpAny_pure ?_))
  exact wpAny_pure q
end
end ST
set_option Elab.async false
set_option linter.all false
set_option maxRecDepth 100000
set_option maxHeartbeats 4000000
namespace ST
open PySem PyProof.Rows L2
theorem slot_lt {t : SetTable} {j i : Nat} (h : t.slot j = .live i) : i < t.place.size := by
  unfold SetTable.slot at h
  dsimp only at h
  split at h
  · rename_i q
    cases h
    have q := beq_iff_eq.mp q
    by_cases z : SetTable.below t.place j < t.place.size
    · exact z
    · rw [Array.getElem?_eq_none (by trivial)] at q; cases q
  · split at h <;> cases h
noncomputable def Gd (t : SetTable) (e : Nat) (p : SetTable.Probe) (f : Nat) : Prop := p.dummy = none ∧ p.j + p.more ≤ t.mask ∧ p.more ≤ 9 ∧ ((p.j = e ∧ 1 ≤ f) ∨ ∃ K, 1 ≤ K ∧ (lp t.mask K (p.i, p.perturb)).1 = e ∧ p.more + 2 + 10 * (K - 1) ≤ f)
theorem Gd.pos {t : SetTable} {e : Nat} {p : SetTable.Probe} {f : Nat} (g : Gd t e p f) : 1 ≤ f := by
  obtain ⟨_, _, _, ⟨_, h⟩ | ⟨K, _, _, h⟩⟩ := g <;> trivial
theorem Gd.next {t : SetTable} {e : Nat} {p : SetTable.Probe} {f : Nat} (g : Gd t e p (f + 1)) (hne : p.j ≠ e) : Gd t e (t.advance p) f := by
  obtain ⟨hd, hj, hm, ⟨q, _⟩ | ⟨K, k1, k2, k3⟩⟩ := g
  · exact absurd q hne
  unfold SetTable.advance
  by_cases c : p.more > 0
  · rw [if_pos c]
    exact ⟨hd, by show p.j + 1 + (p.more - 1) ≤ _; trivial, by show p.more - 1 ≤ 9; trivial, .inr ⟨K, k1, k2, by show p.more - 1 + 2 + 10 * (K - 1) ≤ f; trivial⟩⟩
  · rw [if_neg c]
    have hle := leap_le t.mask p.i p.perturb
    obtain ⟨r1, r2⟩ := run_le hle
    refine ⟨hd, r2, r1, ?_⟩
    obtain ⟨K', rfl⟩ : ∃ K', K = K' + 1 := ⟨K - 1, by trivial⟩
    have k2' : (lp t.mask K' (SetTable.leap t.mask p.i p.perturb)).1 = e := k2
    by_cases z : K' = 0
    · subst z
      exact .inl ⟨k2', by trivial⟩
    · exact .inr ⟨K', by trivial, k2', by show SetTable.runEnd t.mask _ - _ + 2 + 10 * (K' - 1) ≤ f; trivial⟩
theorem Gd.go {t : SetTable} {n : Nat} (o : Ok t n) {e : Nat} (he : e ∉ t.place.toList) (hA : Nat → Int) (h : Int) : ∀ (fuel f : Nat) (p : SetTable.Probe), Gd t e p f → f ≤ fuel →
    (∃ j, SetTable.probe.go t hA h fuel p = some (.empty j none) ∧ j ∉ t.place.toList ∧ j ≤ t.mask) ∨ ∃ j i nx f', SetTable.probe.go t hA h fuel p = some (.candidate j i nx) ∧ t.slot j = .live i ∧ i < n ∧ f' < f ∧ Gd t e nx f'
  | 0, f, p, g, hf => by have := g.pos; trivial
  | fuel + 1, f, p, g, hf => by
    obtain ⟨f, rfl⟩ : ∃ f', f = f' + 1 := ⟨f - 1, by have := g.pos; trivial⟩
    unfold SetTable.probe.go
    rcases slot_of o p.j with ⟨s1, s2⟩ | ⟨s1, i, s2⟩
    · rw [s2]
      exact .inl ⟨p.j, by rw [g.1], s1, by have := g.2.1; trivial⟩
    · rw [s2]
      dsimp only
      have hne : p.j ≠ e := fun z => he (z ▸ s1)
      by_cases q : (hA i == h) = true
      · rw [if_pos q]
        exact .inr ⟨p.j, i, _, f, rfl, s2, by rw [← o.size]; exact slot_lt s2, by trivial, g.next hne⟩
      · rw [if_neg q]
        rcases Gd.go o he hA h fuel f _ (g.next hne) (by trivial) with z | ⟨j, i', nx, f', z1, z2, z3, z4, z5⟩
        · exact .inl z
        · exact .inr ⟨j, i', nx, f', z1, z2, z3, by trivial, z5⟩
theorem Gd.start {t : SetTable} {n : Nat} (o : Ok t n) (h : Int) : ∃ e, e ∉ t.place.toList ∧ Gd t e (t.probeStart h) (10 * SetTable.turns t.mask) := by
  obtain ⟨e, e1, e2⟩ := gap_list t.mask t.place.toList o.up (by have := o.size; have := o.fit; simp; trivial)
  obtain ⟨K, K1, K2, K3⟩ := reach o.mask (i := SetTable.bits h % (t.mask + 1)) (bits_lt h) e1
  have hi : SetTable.bits h % (t.mask + 1) ≤ t.mask := by have := Nat.mod_lt (SetTable.bits h) (show 0 < t.mask + 1 by trivial); trivial
  obtain ⟨r1, r2⟩ := run_le hi
  exact ⟨e, e2, rfl, r2, r1, .inr ⟨K, K1, K3, by
    show SetTable.runEnd t.mask _ - _ + 2 + 10 * (K - 1) ≤ 10 * (t.mask + 15)
    trivial⟩⟩
noncomputable def TI (P : Program) (w : World) (h : Heap) (k : List Key) (b : Addr) : Prop := (tupleKind (mixKind P w)).is h k b ∧ ∃ o items n, h.get? b = some o ∧ o.cls = .type "tuple" ∧ o.data = .seq items n ∧ ∀ v ∈ items.toList, ∃ i t, v = .int i t
theorem TI.at {P : Program} {w : World} {h h' : Heap} {k : List Key} {b : Addr} (x : TI P w h k b) (q : ∀ o, h.get? b = some o → h'.get? b = some o) : TI P w h' k b := by
  obtain ⟨⟨o, its, n, e, r⟩, o', its', n', e', r'⟩ := x
  exact ⟨⟨o, its, n, q _ e, r⟩, o', its', n', q _ e', r'⟩
section
variable {P : Program} {w : World} {A : Around} {E : Value → Shared → Prop} {s : Shared}
theorem hbv {k : List Key} {b : Addr} {Q : Bool → Shared → Prop} (x : TI P w s.heap k b) (q : Q true s) : wpAny (model P w) A (hashByValue 8 (.ref b)) Q E s := by
  obtain ⟨_, o, its, n, e1, e2, e3, e4⟩ := x
  rw [hashByValue.eq_def]
  dsimp only
  refine wpAny_bind (wpAny_specialOf (T := "tuple") ⟨o, e1, e2⟩ (by kernel_rfl : _ = pure (some (.builtin "tuple.__hash__"))) ?_)
  refine wpAny_bind ?_
  rw [seqItems?.eq_1]
  refine wpAny_bind (wpAny_load e1 ?_)
  rw [e3]
  refine wpAny_pure ?_
  dsimp only [Option.getD]
  refine wpAny_bind (wpAny_forIn_array' _ (fun rest b' s' => s' = s ∧ b' = (none, ()) ∧ ∀ v ∈ rest, ∃ i t, v = .int i t) _ ?_ ?_ its (none, ()) ⟨rfl, rfl, e4⟩)
  · rintro v rest b' s' ⟨rfl, rfl, hr⟩
    obtain ⟨i, t, rfl⟩ := hr v List.mem_cons_self
    refine wpAny_bind ?_
    rw [hashByValue_scannable 7 rfl]
    refine wpAny_pure ?_
    exact wpAny_pure ⟨rfl, rfl, fun v hv => hr v (List.mem_cons_of_mem _ hv)⟩
  · rintro b' s' ⟨rfl, rfl, _⟩
    exact wpAny_pure q
theorem oac {k : List Key} {b : Addr} {Q : Bool → Shared → Prop} (x : TI P w s.heap k b) (q : Q false s) : wpAny (model P w) A (ofAClassStatement 8 (.ref b)) Q E s := by
  obtain ⟨_, o, its, n, e1, e2, e3, e4⟩ := x
  unfold ofAClassStatement
  refine wpAny_bind (wpAny_typeOf (T := "tuple") ⟨o, e1, e2⟩ ?_)
  try dsimp only
  rw [if_pos (by decide)]
  refine wpAny_bind (wpAny_pure ?_)
  try dsimp only
  rw [if_neg (by decide)]
  refine wpAny_bind ?_
  rw [seqItems?.eq_1]
  refine wpAny_bind (wpAny_load e1 ?_)
  rw [e3]
  refine wpAny_pure ?_
  try dsimp only
  refine wpAny_bind (wpAny_forIn_array' _ (fun rest b' s' => s' = s ∧ b' = (none, ()) ∧ ∀ v ∈ rest, ∃ i t, v = .int i t) _ ?_ ?_ its (none, ()) ⟨rfl, rfl, e4⟩)
  · rintro v rest b' s' ⟨rfl, rfl, hr⟩
    obtain ⟨i, t, rfl⟩ := hr v List.mem_cons_self
    refine wpAny_bind (wpAny_pure ?_)
    exact wpAny_pure ⟨rfl, rfl, fun v hv => hr v (List.mem_cons_of_mem _ hv)⟩
  · rintro b' s' ⟨rfl, rfl, _⟩
    exact wpAny_pure q
theorem scb {k : List Key} {b : Addr} {l : List Value} {Q : Bool → Shared → Prop} (x : TI P w s.heap k b) (hl : ∀ y ∈ l, ∃ k b, y = .ref b ∧ TI P w s.heap k b) (q : Q false s) : wpAny (model P w) A (searchCouldBeSeen (.ref b) l) Q E s := by
  unfold searchCouldBeSeen
  refine wpAny_bind (wpAny_forIn_list _ (fun rest b' s' => s' = s ∧ b' = (none, ()) ∧ ∀ y ∈ rest, ∃ k b, y = .ref b ∧ TI P w s.heap k b) _ ?_ ?_ l (none, ()) ⟨rfl, rfl, hl⟩)
  · rintro y rest b' s' ⟨rfl, rfl, hr⟩
    obtain ⟨k2, b2, rfl, x2⟩ := hr y List.mem_cons_self
    have hr' : ∀ y ∈ rest, ∃ k b, y = .ref b ∧ TI P w s'.heap k b := fun v hv => hr v (List.mem_cons_of_mem _ hv)
    try dsimp only
    split
    · exact wpAny_pure ⟨rfl, rfl, hr'⟩
    · refine wpAny_bind (wpAny_eqIsQuiet_tuple x.1 ?_)
      rw [if_neg (by decide)]
      refine wpAny_bind (wpAny_eqIsQuiet_tuple x2.1 ?_)
      rw [if_neg (by decide)]
      refine wpAny_bind (oac x ?_)
      rw [if_neg (by decide)]
      refine wpAny_bind (oac x2 ?_)
      rw [if_neg (by decide)]
      exact wpAny_pure ⟨rfl, rfl, hr'⟩
  · rintro b' s' ⟨rfl, rfl, _⟩
    exact wpAny_pure q
structure T (P : Program) (w : World) (F : List Addr) (h : Heap) (S : Addr) (ks : List (List Key)) : Prop where
  ex : ∃ o es ep t, h.get? S = some o ∧ o.ExactSet ∧ o.data = .set es ep t ∧ (∀ e ∈ es.toList, ∃ k b, e = ((tupleKind (mixKind P w)).hash k, .ref b) ∧ k ∈ ks ∧ TI P w h k b ∧ b ∉ F) ∧ Ok t es.size ∧ es.size * 5 < t.mask * 3 ∧ es.size = ks.length
theorem Ok.fits {t : SetTable} {n : Nat} (gk : Ok t n) : t.fits n = true := by
  unfold SetTable.fits SetTable.fill
  rw [gk.size, gk.dum]
  have := gk.fit
  simp
  exact this
theorem Ok.way {t : SetTable} {n : Nat} (gk : Ok t n) : t.gaveWay = false := by
  unfold SetTable.gaveWay
  rcases gk.mask with q | q | q | q <;> rw [q] <;> rfl
theorem srch {F : List Addr} {S : Addr} {o : Obj} {es : Array (Int × Value)} {ep : Nat} {t : SetTable} {k : List Key} {b : Addr} {ks : List (List Key)} {Q : SetFound → Shared → Prop} (hr : A.units < cLine) (go : s.heap.get? S = some o) (gd : o.data = .set es ep t) (gk : Ok t es.size) (x : TI P w s.heap k b) (hk : k ∉ ks)
    (ge : ∀ e ∈ es.toList, ∃ k b, e = ((tupleKind (mixKind P w)).hash k, .ref b) ∧ k ∈ ks ∧ TI P w s.heap k b ∧ b ∉ F) {h : Int} {e : Nat} (he : e ∉ t.place.toList)
    (q : ∀ j, j ∉ t.place.toList → j ≤ t.mask → Q (.free j false) s) : ∀ (fuel f : Nat) (st : Option SetTable.Probe), f < fuel → f ≤ 10 * SetTable.turns t.mask → Gd t e (st.getD (t.probeStart h)) f →
    wpAny (model P w) A (setSearchFrom S (.ref b) h true fuel st) Q E s
  | 0, f, st, hf, _, _ => by trivial
  | fuel + 1, f, st, hf, hm, g => by
    have gf := gk.fits
    unfold setSearchFrom
    refine wpAny_bind (wpAny_setState_of go gd gf ?_)
    dsimp only
    rw [gk.way, if_neg (by decide)]
    unfold SetTable.probe
    rcases Gd.go gk he _ h (10 * SetTable.turns t.mask) f _ g hm with ⟨j, z1, z2, z3⟩ | ⟨j, i, nx, f', z1, z2, z3, z4, z5⟩
    · rw [z1]
      exact wpAny_pure (q j z2 z3)
    · rw [z1]
      dsimp only
      have hi : es[i]? = some es[i] := Array.getElem?_eq_getElem z3
      obtain ⟨k2, b2, e2, hk2, x2, _⟩ := ge es[i] (by simp)
      rw [e2] at hi
      have hne : decide (k2 = k) = false := decide_eq_false fun z => hk (z ▸ hk2)
      have sm : t.sameMemory t.moves t.mask = some true := by unfold SetTable.sameMemory; rw [if_pos (beq_self_eq_true _)]
      have hse : ∀ y ∈ List.map (fun x => x.snd) (Array.filter (fun x => x.fst == h) es).toList, ∃ k b, y = Value.ref b ∧ TI P w s.heap k b := fun y hy => by
        obtain ⟨e, he, rfl⟩ := List.mem_map.mp hy
        obtain ⟨k3, b3, e3, _, x3, _⟩ := ge e (by rw [Array.toList_filter] at he; exact (List.mem_filter.mp he).1)
        exact ⟨k3, b3, by rw [e3], x3⟩
      cases hl : t.led
      · rw [if_pos (by decide)]
        refine wpAny_bind (scb x hse ?_)
        rw [if_neg (by decide)]
        rw [hi]
        try dsimp only
        refine wpAny_bind (wpAny_holding ((tupleKind (mixKind P w)).eqBool hr x2.1 x.1 ?_))
        refine wpAny_bind (wpAny_setState_of go gd gf ?_)
        rw [hne]
        try dsimp only
        rw [if_neg (by decide), sm]
        try dsimp only
        rw [if_pos rfl, z2]
        try dsimp only
        rw [hi]
        try dsimp only
        refine wpAny_bind (wpAny_isSame_ref_self (wpAny_bind (wpAny_pure ?_)))
        exact srch hr go gd gk x hk ge he q fuel f' (some nx) (by trivial) (by trivial) z5
      · rw [if_neg (by decide)]
        rw [hi]
        try dsimp only
        refine wpAny_bind (wpAny_holding ((tupleKind (mixKind P w)).eqBool hr x2.1 x.1 ?_))
        refine wpAny_bind (wpAny_setState_of go gd gf ?_)
        rw [hne]
        try dsimp only
        rw [if_neg (by decide), sm]
        try dsimp only
        rw [if_pos rfl, z2]
        try dsimp only
        rw [hi]
        try dsimp only
        refine wpAny_bind (wpAny_isSame_ref_self (wpAny_bind (wpAny_pure ?_)))
        exact srch hr go gd gk x hk ge he q fuel f' (some nx) (by trivial) (by trivial) z5
theorem relay_some {t t' : SetTable} {es es' : Array (Int × Value)} {n : Nat} (h : relayAll t es n = (es', t', false)) : ∃ order, t.relaid (es.map (·.1)) n = some (t', order) ∧ order.filterMap (es[·]?) = es' := by
  unfold relayAll at h
  split at h
  · rename_i t2 order hr
    dsimp only at h
    split at h
    · cases h
      exact ⟨order, hr, rfl⟩
    · cases h
  · cases h
theorem grown_le : ∀ n : Nat, n < 257 → SetTable.sizeAbove (SetTable.grown n) ≤ 5000 := by decide +kernel
theorem add_T {F : List Addr} {S : Addr} {k : List Key} {b : Addr} {ks : List (List Key)} {Q : Bool → Shared → Prop} (hr : A.units < cLine) (hT : T P w F s.heap S ks) (x : TI P w s.heap k b) (hSF : S ∈ F) (hbF : b ∉ F) (hk : k ∉ ks) (hn : ks.length < 256)
    (hQ : ∀ h', Heap.SameBut S s.heap h' → T P w F h' S (k :: ks) → Q true { s with heap := h' }) :
    wpAny (model P w) A (setAddHashed S (.ref b) ((tupleKind (mixKind P w)).hash k)) Q E s := by
  obtain ⟨⟨ob, es, ep, t, go, gx, gd, ge, gk, gr, gl⟩⟩ := hT
  have gf := gk.fits
  obtain ⟨e, he, g0⟩ := Gd.start gk ((tupleKind (mixKind P w)).hash k)
  unfold setAddHashed setAddHashedIn
  refine wpAny_holding (wpAny_bind (wpAny_setState_of go gd gf ?_))
  dsimp only
  rw [if_neg (by show ¬ (false && _ && _) = true; simp)]
  unfold setSearch
  have hm5 : 10 * SetTable.turns t.mask < 100000 := by
    unfold SetTable.turns
    rcases gk.mask with q | q | q | q <;> trivial
  refine wpAny_bind (srch hr go gd gk x hk ge he (fun j j2 j3 => ?_) 100000 _ none hm5 (Nat.le_refl _) g0)
  dsimp only
  refine wpAny_bind (wpAny_setState_of go gd gf ?_)
  dsimp only
  obtain ⟨b1, _, _⟩ := below_spec gk.up j
  have hp : t.put j = ({ t with place := SetTable.insertAt t.place (SetTable.below t.place j) j }, SetTable.below t.place j) := by
    unfold SetTable.put
    dsimp only
    rw [gk.dum, has_nil, if_neg Bool.false_ne_true]
  rw [hp]
  dsimp only
  rw [if_pos gk.plain]
  refine wpAny_bind (hbv x ?_)
  rw [if_pos rfl]
  have hr1 : es.size + 1 ≤ t.mask := by rcases gk.mask with q | q | q | q <;> rw [q] at gr ⊢ <;> trivial
  have s1 : (SetTable.insertAt es (SetTable.below t.place j) ((tupleKind (mixKind P w)).hash k, Value.ref b)).size = es.size + 1 := ins_size es (by rw [← gk.size]; exact b1) _
  have s2 : (SetTable.insertAt t.place (SetTable.below t.place j) j).size = es.size + 1 := by rw [ins_size _ b1, gk.size]
  have ok1 : Ok { t with place := SetTable.insertAt t.place (SetTable.below t.place j) j } (es.size + 1) := ⟨gk.mask, s2, hr1, gk.dum, ins_up gk.up j2, fun i hi => by
    have hi : i ∈ (SetTable.insertAt t.place (SetTable.below t.place j) j).toList := hi
    rw [ins_list] at hi
    rcases List.mem_append.mp hi with hi | hi
    · exact gk.le i (List.mem_of_mem_take hi)
    · rcases List.mem_cons.mp hi with hi | hi
      · rw [hi]; exact j3
      · exact gk.le i (List.mem_of_mem_drop hi), gk.plain⟩
  have m1 : ∀ e ∈ (SetTable.insertAt es (SetTable.below t.place j) ((tupleKind (mixKind P w)).hash k, Value.ref b)).toList, e = ((tupleKind (mixKind P w)).hash k, Value.ref b) ∨ e ∈ es.toList := fun e he => by
    rw [ins_list] at he
    rcases List.mem_append.mp he with he | he
    · exact .inr (List.mem_of_mem_take he)
    · rcases List.mem_cons.mp he with he | he
      · exact .inl he
      · exact .inr (List.mem_of_mem_drop he)
  have hmask : ({ t with place := SetTable.insertAt t.place (SetTable.below t.place j) j } : SetTable).mask = t.mask := rfl
  generalize SetTable.insertAt es (SetTable.below t.place j) ((tupleKind (mixKind P w)).hash k, Value.ref b) = es1 at s1 m1 ⊢
  generalize ({ t with place := SetTable.insertAt t.place (SetTable.below t.place j) j } : SetTable) = t1 at ok1 hmask ⊢
  rw [← s1] at ok1
  have go1 : (s.heap.update S (Obj.putSet es1 t1)).get? S = some { ob with data := .set es1 (ep + 1) t1 } := by
    have q := Heap.get?_update_self (Obj.putSet es1 t1) go (by rw [putSet_of es1 t1 gd]; rfl)
    rw [putSet_of es1 t1 gd] at q
    exact q
  have sb1 := Heap.SameBut.update s.heap S (Obj.putSet es1 t1)
  have fin : ∀ (h' : Heap) (o2 : Obj) (es2 : Array (Int × Value)) (ep2 : Nat) (t2 : SetTable), Heap.SameBut S s.heap h' → h'.get? S = some o2 → o2.ExactSet → o2.data = .set es2 ep2 t2 → (∀ e ∈ es2.toList, e ∈ es1.toList) → Ok t2 es2.size → es2.size * 5 < t2.mask * 3 → es2.size = es1.size → T P w F h' S (k :: ks) := fun h' o2 es2 ep2 t2 sb g1 g2 g3 g4 g5 g6 g7 => by
    refine ⟨⟨o2, es2, ep2, t2, g1, g2, g3, fun e he => ?_, g5, g6, by rw [g7, s1, gl]; rfl⟩⟩
    rcases m1 e (g4 e he) with rfl | he
    · exact ⟨k, b, rfl, List.mem_cons_self, x.at fun o z => by rw [sb.2 b fun y => hbF (y ▸ hSF)]; exact z, hbF⟩
    · obtain ⟨k2, b2, e2, h2, x2, n2⟩ := ge e he
      exact ⟨k2, b2, e2, List.mem_cons_of_mem _ h2, x2.at fun o z => by rw [sb.2 b2 fun y => n2 (y ▸ hSF)]; exact z, n2⟩
  refine wpAny_bind (wpAny_storeSet_of go gd ?_ (fits_of_scanBound (by unfold scanBound; trivial)))
  by_cases full : t1.tooFull = true
  · rw [full, if_pos (by rfl)]
    refine wpAny_bind ?_
    unfold setRelay
    refine wpAny_bind (wpAny_setState_of go1 rfl ok1.fits ?_)
    try dsimp only
    rw [if_neg (by have := grown_le (es.size + 1) (by trivial); have : 5000 ≤ sizeLine := (by decide); trivial)]
    obtain ⟨es2, t2, r1, r2, r3, r4, r5⟩ := relay_ok ok1 full (by trivial) (by rw [hmask, s1]; simpa using gr)
    have rp := relayAll_perm t1 es1 (SetTable.grown es1.size)
    rw [r1] at rp
    obtain ⟨order, q1, q2⟩ := relay_some r1
    rw [s1] at q1
    rw [q1]
    refine wpAny_bind ?_
    show wpAny _ _ (if ((order.filterMap (es1[·]?)).size != es1.size) = true then _ else pure (order.filterMap (es1[·]?), t2)) _ _ _
    rw [q2, r3, if_neg (by simp)]
    refine wpAny_pure ?_
    try dsimp only
    have go2 : ((s.heap.update S (Obj.putSet es1 t1)).update S (Obj.putSet es2 t2)).get? S = some { ob with data := .set es2 (ep + 1 + 1) t2 } := by
      have q := Heap.get?_update_self (Obj.putSet es2 t2) go1 (by rw [putSet_of es2 t2 rfl]; rfl)
      rw [putSet_of es2 t2 rfl] at q
      exact q
    refine wpAny_storeSet_of go1 rfl ?_ (fits_of_scanBound (by unfold scanBound; trivial))
    refine wpAny_pure ?_
    exact hQ _ (sb1.trans (Heap.SameBut.update _ S _)) (fin _ _ es2 _ t2 (sb1.trans (Heap.SameBut.update _ S _)) go2 gx rfl (fun e he => rp.mem_iff.mp he) r2 r4 r3)
  · have full' : t1.tooFull = false := by simpa using full
    rw [full', if_neg (by decide)]
    refine wpAny_pure ?_
    refine hQ _ sb1 (fin _ _ es1 _ t1 sb1 go1 gx rfl (fun e he => he) ok1 ?_ rfl)
    unfold SetTable.tooFull SetTable.fill at full'
    have := of_decide_eq_false full'
    rw [ok1.size, ok1.dum] at this
    simp at this
    trivial
end
end ST
set_option Elab.async false
set_option linter.all false
set_option maxRecDepth 100000
set_option maxHeartbeats 4000000
namespace ST
open PySem PyProof.Rows L2
theorem T.at {P : Program} {w : World} {F : List Addr} {h h' : Heap} {S : Addr} {ks : List (List Key)} (x : T P w F h S ks) (q : ∀ o, h.get? S = some o → h'.get? S = some o) (q2 : ∀ b o, b ∉ F → h.get? b = some o → h'.get? b = some o) : T P w F h' S ks := by
  obtain ⟨⟨o, es, ep, t, go, gx, gd, ge, r⟩⟩ := x
  refine ⟨⟨o, es, ep, t, q _ go, gx, gd, fun e he => ?_, r⟩⟩
  obtain ⟨k, b, a1, a2, a3, a4⟩ := ge e he
  exact ⟨k, b, a1, a2, a3.at fun o z => q2 b o a4 z, a4⟩
theorem T.new {P : Program} {w : World} {F : List Addr} {h : Heap} {a : Addr} (e : h.get? a = some (newO w)) : T P w F h a [] :=
  ⟨⟨_, #[], 0, _, e, ⟨rfl, rfl, rfl⟩, rfl, (fun e he => by cases he), ⟨.inl rfl, rfl, Nat.zero_le _, rfl, List.Pairwise.nil, (fun j hj => by cases hj), rfl⟩, (show 0 * 5 < 7 * 3 by decide), rfl⟩⟩
section
variable {P : Program} {w : World} {A : Around} {R : Result → Shared → Prop} {I : Addr} {fp wr : List Addr} {G : Array GenState → Array GenState → Prop} {n : Nat} {Pv : Nat → Value → Prop} {St : Nat → Shared → Prop}
theorem loop_T (Wk : WalksS P w A.in1 I fp wr G n Pv St) (S : Addr) (hSf : S ∉ fp) (ad : Nat → Addr) (ky : Nat → List Key) (hval : ∀ i v, Pv i v → v = .ref (ad i)) (hu : A.units + 1 < cLine) (hne : ∀ i, i < n → ad i ∉ S :: wr) (hnd : ∀ i j, i < j → j < n → ky i ≠ ky j) (hn : n ≤ 256) :
    ∀ (k i : Nat) (s : Shared) (ks : List (List Key)), n - i = k → i ≤ n → St i s → T P w (S :: wr) s.heap S ks → ks.length = i → (∀ x ∈ ks, ∃ j, j < i ∧ x = ky j) → (∀ j, j < n → TI P w s.heap (ky j) (ad j)) →
      (∀ s' ks', Moved (S :: wr) G s s' → T P w (S :: wr) s'.heap S ks' → ks'.length = n → R (.ok (.ret .none)) s') →
      codeAny (model P w) A (.builtin "set.update.loop" ⟨[.ref S, .ref I], []⟩) R s := by
  have nw : S ∉ wr := fun z => hSf (Wk.sub _ z)
  have sub : ∀ b ∈ wr, b ∈ S :: wr := fun b z => List.mem_cons_of_mem _ z
  intro k
  induction k with
  | zero =>
    intro i s ks hk hi st hT hl hks hti hR
    have e : i = n := by trivial
    subst e
    refine codeAny_builtin PyProof.Rows.F.entry_set_update_loop ?_
    rw [Around.under_plainId PyProof.Rows.F.plain_set_update_loop _]
    show wpAny _ A.in1 (pyNext (.ref I) >>= _) _ _ s
    refine wpAny_bind (Wk.done s _ _ st fun s' mv => ?_)
    exact wpAny_pure (hR s' ks (mv.mono sub) (hT.at (fun o e => mv.heap S _ nw e) fun b o hb e => mv.heap b o (fun z => hb (sub b z)) e) hl)
  | succ k ih =>
    intro i s ks hk hi st hT hl hks hti hR
    have lt : i < n := by trivial
    refine codeAny_builtin PyProof.Rows.F.entry_set_update_loop ?_
    rw [Around.under_plainId PyProof.Rows.F.plain_set_update_loop _]
    show wpAny _ A.in1 (pyNext (.ref I) >>= _) _ _ s
    refine wpAny_bind (Wk.item i s _ _ lt st fun v s' hp st' mv => ?_)
    have hv := hval i v hp
    subst hv
    have hT' : T P w (S :: wr) s'.heap S ks := hT.at (fun o e => mv.heap S _ nw e) fun b o hb e => mv.heap b o (fun z => hb (sub b z)) e
    have hti' : ∀ j, j < n → TI P w s'.heap (ky j) (ad j) := fun j hj => (hti j hj).at fun o e => mv.heap _ o (fun z => hne j hj (sub _ z)) e
    show wpAny _ A.in1 (holding [Value.ref (ad i)] (setAdd S (.ref (ad i))) >>= _) _ _ s'
    refine wpAny_bind (wpAny_holding ?_)
    unfold setAdd
    refine wpAny_holding ?_
    refine wpAny_bind ((tupleKind (mixKind P w)).pyHash (k := ky i) (tupleKind_room_in1 hu) (hti' i lt).1 ?_)
    refine add_T (s := { s' with toks := s'.toks + (tupleKind (mixKind P w)).draws (ky i) }) (show A.in1.units < cLine from hu) hT' (hti' i lt) List.mem_cons_self (hne i lt) (fun z => ?_) (by trivial) fun h' sb hT2 => ?_
    · obtain ⟨j, hj, e⟩ := hks _ z
      exact hnd j i hj lt e.symm
    refine wpAny_pure ⟨plainId_quiet PyProof.Rows.F.plain_set_update_loop _, ih (i + 1) _ _ (by trivial) lt (Wk.frame _ s' _ _ st' (Nat.le_add_right _ _) fun c hc o e => ?_) hT2 (by rw [List.length_cons, hl]) (fun x hx => ?_) (fun j hj => (hti' j hj).at fun o e => ?_) fun s'' ks' mv2 hW3 hx => ?_⟩
    · rw [sb.2 c fun z : c = S => hSf (by rw [← z]; exact hc)]; exact e
    · rcases List.mem_cons.mp hx with e | h
      · exact ⟨i, by trivial, e⟩
      · obtain ⟨j, hj, e⟩ := hks x h
        exact ⟨j, by trivial, e⟩
    · rw [sb.2 (ad j) fun z => hne j hj (by rw [z]; exact List.mem_cons_self)]; exact e
    · refine hR s'' ks' (Moved.trans Wk.gtrans ((mv.mono sub).then_heap (Nat.le_add_right _ _) fun c o hc e => ?_) mv2) hW3 hx
      rw [sb.2 c fun z : c = S => hc (by rw [z]; exact List.mem_cons_self)]; exact e
end
section
variable {prog : Program} {w : World} {A : Around} {E : Value → Shared → Prop} {s : Shared}
theorem call_T {l : Addr} {items : Array Value} {Q : Value → Shared → Prop} (ad : Nat → Addr) (ky : Nat → List Key) (hh : A.handled = none) (hu : A.units + 9 < cLine) (hl : s.heap.IsList l items) (hval : ∀ (i : Nat) (v : Value), items[i]? = some v → v = Value.ref (ad i)) (hnd : ∀ i j, i < j → j < items.size → ky i ≠ ky j) (hn : items.size ≤ 256) (hti : ∀ j, j < items.size → TI prog w s.heap (ky j) (ad j))
    (q : ∀ (h' : Heap) (tk : Nat) (F : List Addr) (ks : List (List Key)), T prog w F h' s.heap.objs.size ks → ks.length = items.size → (∀ b o, b < s.heap.objs.size → s.heap.get? b = some o → h'.get? b = some o) → Q (.ref s.heap.objs.size) { s with heap := h', toks := tk }) :
    wpAny (model prog w) A (call (.type "set") [.ref l]) Q E s := by
  obtain ⟨c, tl, hmro⟩ := PySem.F.called_set.mro
  have hmade := PySem.F.called_set.made
  have hsub := PySem.F.called_set.sub
  refine wpAny_call (codeAny_of_tree ?_)
  show wpAny _ _ (callAny (.type "set") _) _ _ _
  refine wpAny_pure ⟨Code.quiet_builtin _ (by decide +kernel), codeAny_builtin PySem.F.entry_type_call ?_⟩
  rw [Around.under_plain (weight_type_call_type "set" [.ref l] []) rfl]
  have c1 := PySem.F.called_set.notType
  have c2 := PySem.F.called_set.canCreate
  have c3 := PySem.F.typeCall_set_1 (.ref l)
  repeat (any_goals (first | assumption | wp_step))
  refine codeAny_mono (new_W (.ref l) (E := E) (Q1 := fun obj s1 => obj = .ref s.heap.objs.size ∧ s1 = { s with heap := s.heap.push (newO w) }) ⟨rfl, rfl⟩) fun r s1 hr1 => ?_
  cases r with
  | error e => exact hr1
  | ok fl =>
    cases fl with
    | ret obj =>
      obtain ⟨rfl, rfl⟩ := hr1
      have gS : (s.heap.push (newO w)).get? s.heap.objs.size = some (newO w) := Heap.get?_push_size _ rfl
      have gT : Shared.TypeIs { s with heap := s.heap.push (newO w) } (.ref s.heap.objs.size) "set" := ⟨_, gS, rfl⟩
      have c4 := PySem.F.called_set.init.lookup
      have c5 := PySem.F.called_set.init.bind (.ref s.heap.objs.size)
      repeat (any_goals (first | assumption | wp_step))
      refine codeAny_mono (codeAny_call_builtin (R := wants (fun r s2 => r = .none ∧ ∃ h' tk F ks, s2 = { s with heap := h', toks := tk } ∧ T prog w F h' s.heap.objs.size ks ∧ ks.length = items.size ∧ (∀ b o, b < s.heap.objs.size → s.heap.get? b = some o → h'.get? b = some o)) E)
        PySem.F.called_set.init.plain PySem.F.entry_set_init (check_set_init_1 gT ?_)) fun r2 s2 hr2 => ?_
      · obtain ⟨ol, gol, ocl, nl, odl⟩ := hl
        obtain ⟨ocls, odict, odata, oslots⟩ := ol
        simp only at ocl odl
        subst ocl; subst odl
        have gol' : (s.heap.push (newO w)).get? l = some { cls := .type "list", dict := odict, data := .seq items nl, slots := oslots } := Heap.get?_push_of_some _ gol
        have d1 := PySem.F.sub_list_set
        have d2 := PySem.F.sub_list_frozenset
        have d3 : (Value.type "list" == Value.type "dict") = false := by decide
        have isl : (s.heap.push (newO w)).IsList l items := ⟨_, gol', rfl, nl, rfl⟩
        unfold Builtin.«set.__init__» noKeywords Builtin.Frozenset.updateFrom
        generalize hPI : pyIter = PI
        wp_walk
        subst hPI
        refine wpAny_pyIter_list isl ?_
        refine wpAny_bind (wpAny_runValue ?_)
        have ltS : l < s.heap.objs.size := Heap.lt_size gol
        have hh3 : A.in1.in1.in1.handled = none := by simp [hh]
        have neI : l ≠ (s.heap.push (newO w)).objs.size := by rw [Heap.size_push]; exact Nat.ne_of_lt (Nat.lt_succ_of_lt ltS)
        have nfp : s.heap.objs.size ∉ [(s.heap.push (newO w)).objs.size, l] := by
          rw [Heap.size_push]
          simp only [List.mem_cons, List.not_mem_nil, or_false, not_or]
          exact ⟨Nat.ne_of_lt (Nat.lt_succ_self _), Nat.ne_of_gt ltS⟩
        have hlt : ∀ j, j < items.size → ad j < s.heap.objs.size := fun j hj => by
          obtain ⟨_, o, _, _, e, _⟩ := hti j hj
          exact Heap.lt_size e
        refine loop_T ((Walks.list hh3 _ l neI items).toS) s.heap.objs.size nfp ad ky hval (by show A.units + 1 + 1 + 1 < cLine; trivial) (fun i hi' => ?_) hnd hn (items.size - 0) 0 _ [] (by trivial) (Nat.zero_le _)
          ⟨⟨_, Heap.get?_push_size _ rfl, rfl, rfl⟩, (isl.push _)⟩ (T.new (Heap.get?_push_of_some _ gS)) rfl (fun x hx => by cases hx) (fun j hj => (hti j hj).at fun o e => Heap.get?_push_of_some _ (Heap.get?_push_of_some _ e)) ?_
        · have hlt' := hlt i hi'
          rw [Heap.size_push]
          simp only [List.mem_cons, List.not_mem_nil, or_false, not_or]
          exact ⟨Nat.ne_of_lt hlt', Nat.ne_of_lt (Nat.lt_succ_of_lt hlt')⟩
        intro s' ks mv hW hx
        obtain ⟨h', g', d', tk', os'⟩ := s'
        have eg : g' = s.gens := mv.gens
        have ed : d' = s.drawn := mv.drawn
        have eo : os' = s.os := mv.os
        subst eg; subst ed; subst eo
        show wpAny _ _ _ _ _ _
        refine wpAny_pure ?_
        refine wpAny_pure ⟨rfl, h', tk', _, ks, rfl, hW, hx, fun b o hb e => ?_⟩
        · have nb1 : b ≠ s.heap.objs.size := Nat.ne_of_lt hb
          have nb2 : b ≠ (s.heap.push (newO w)).objs.size := by rw [Heap.size_push]; exact Nat.ne_of_lt (Nat.lt_succ_of_lt hb)
          exact mv.heap b o (by simp only [List.mem_cons, List.not_mem_nil, or_false, not_or]; exact ⟨nb1, nb2⟩) (Heap.get?_push_of_some _ (Heap.get?_push_of_some _ e))
      · cases r2 with
        | error e => exact hr2
        | ok fl2 =>
          cases fl2 with
          | ret r =>
            obtain ⟨rfl, h', tk, F, ks, rfl, hW, hx, hk'⟩ := hr2
            repeat (any_goals (first | assumption | wp_step))
            exact q _ _ F ks hW hx hk'
          | _ => exact hr2.elim
    | _ => exact hr1.elim
end
end ST
set_option Elab.async false
set_option linter.all false
set_option maxRecDepth 100000
set_option maxHeartbeats 4000000
namespace ST
open PySem PyProof.Rows
structure Fx (w : World) (o : Obj) (es : Array (Int × Value)) (ep : Nat) (t : SetTable) : Prop where
  ex : o.ExactSet
  dt : o.data = .set es ep t
  ok : Ok t es.size
  led : t.led = led0 w
theorem Fx.fits {w : World} {o : Obj} {es : Array (Int × Value)} {ep : Nat} {t : SetTable} (x : Fx w o es ep t) : t.fits es.size = true := by
  unfold SetTable.fits SetTable.fill
  rw [x.ok.size, x.ok.dum]
  have := x.ok.fit
  simp
  exact this
section
variable {prog : Program} {w : World} {A : Around} {E : Value → Shared → Prop} {s : Shared} {S I : Addr} {o : Obj} {es : Array (Int × Value)} {ep : Nat} {t : SetTable}
end
end ST
set_option Elab.async false
set_option linter.all false
set_option maxRecDepth 100000
set_option maxHeartbeats 4000000
namespace L2
open PySem PySem.Spec PyProof.Rows PySem.W
section
variable {X : Cx}
theorem boot_set' : bootBuiltins "set" = some (.type "set") := by decide +kernel
end
end L2
set_option Elab.async false
set_option linter.all false
set_option maxRecDepth 100000
set_option maxHeartbeats 4000000
namespace L2
open PySem PySem.Spec PyProof.Rows PySem.W
section
variable {X : Cx}
noncomputable def tLenS (K : Frag) (te : TE) : TE := fun σ H Q => te σ H fun x H1 => ∃ (a : Addr) (ts : List (Addr × List Int)), x = .ref a ∧ SqL K H1 a (ts.map fun z => V.ref z.1) ∧ (∀ z ∈ ts, H1 z.1 = some (.tup (z.2.map V.int))) ∧ (ts.map (·.2)).Nodup ∧ ts.length ≤ 256 ∧ Q (.int ts.length) H1
theorem boot_lenS : bootBuiltins "len" = some (.builtin "len") := by decide +kernel
theorem ti_of {P : Program} {w : World} {H : Hp} {h : Heap} {b : Addr} {ns : List Int} (ok : HOk P w H h) (e : H b = some (.tup (ns.map V.int))) : ST.TI P w h (ns.map Sum.inl) b := by
  have e' : H b = some (.tup ((ns.map (Sum.inl : Int → Key)).map kV)) := by rw [List.map_map]; exact e
  refine ⟨key_of ok e', ?_⟩
  obtain ⟨_, its, r, o, h1, h2, n, h3⟩ := (show ObjOk P w H h b (.tup (ns.map V.int)) from ok b _ e)
  have hi := vals_intsAre r
  exact ⟨o, its.toArray, n, h1, h2, h3, fun v hv => by
    have := hi.all v (by simpa using hv)
    obtain ⟨i, t, q⟩ := this
    exact ⟨i, t, q⟩⟩
theorem inl_map_inj : ∀ {a b : List Int}, a.map (Sum.inl : Int → Key) = b.map Sum.inl → a = b
  | [], [], _ => rfl
  | x :: a, y :: b, h => by
    have h := List.cons.inj h
    rw [Sum.inl.inj h.1, inl_map_inj h.2]
theorem pe_lenset {e : Expr} {te : TE} {p1 p2 pos1 pos2 : Pos} (hc : X.calm = true) (hu : X.A.units + 64 < cLine) (hg1 : Gl X "len") (hm1 : X.mg "len" = none) (hg2 : Gl X "set") (hm2 : X.mg "set" = none) (he : PE X e te)
    (h1 : starEach [.Call (.Name "set" p2) [e] [] pos2] X.env = (false, eval (.Call (.Name "set" p2) [e] [] pos2) X.env) :: starEach [] X.env := by rfl) (h2 : (backTo pos1 (starEach [] X.env)).any (·.1) = false := by rfl)
    (h3 : starEach [e] X.env = (false, eval e X.env) :: starEach [] X.env := by rfl) (h4 : (backTo pos2 (starEach [] X.env)).any (·.1) = false := by rfl) :
    PE X (.Call (.Name "len" p1) [.Call (.Name "set" p2) [e] [] pos2] [] pos1) (tLenS X.K te) := by
  intro pins s σ H Q I h
  have hh : X.A.in1.handled = none := I.ok.hd hc
  refine wpAny_Call_Name_kw (ld_blt I hg1 hm1 boot_lenS ?_ (by decide) (by decide))
  refine PyProof.Rows.callWith_builtin1 ?_ h1 h2
  rw [h1]
  show wpAny _ _ (spliced ((false, eval (.Call (.Name "set" p2) [e] [] pos2) X.env) :: backTo pos1 (starEach [] X.env))) _ _ s
  refine Calls.spliced_cons ?_
  refine wpAny_Call_Name_kw (ld_blt I hg2 hm2 boot_set' ?_ (by decide) (by decide))
  refine PyProof.Rows.callWith_type1 ?_ h3 h4
  rw [h3]
  show wpAny _ _ (spliced ((false, eval e X.env) :: backTo pos2 (starEach [] X.env))) _ _ s
  refine Calls.spliced_cons (thn (he pins s σ H _ I h) fun u s1 ⟨x, H1, I1, r1, q1⟩ => ?_)
  refine Calls.spliced_nil ?_
  obtain ⟨a, ts, rfl, hq, ht, hnd, hn, q⟩ := q1
  cases r1
  obtain ⟨its, r', pl, hz⟩ := I1.list hq
  have hlen := r'.length
  rw [List.length_map] at hlen
  have hat : ∀ j, j < its.toArray.size → ∃ z ∈ ts, ts[j]? = some z := fun j hj => by
    have hj' : j < ts.length := by rw [hlen]; simpa using hj
    exact ⟨ts[j], List.getElem_mem hj', List.getElem?_eq_getElem hj'⟩
  refine ST.call_T (items := its.toArray) (fun i => (ts.getD i (0, [])).1) (fun i => ((ts.getD i (0, [])).2).map Sum.inl) hh (by trivial) pl.isList (fun i v hv => ?_) (fun i j hij hj e => ?_) (by simpa using (by trivial : its.length ≤ 256)) (fun j hj => ?_) fun h' tk F ks hT hx hk => ?_
  · rw [List.getElem?_toArray] at hv
    have hi : i < its.length := List.getElem?_eq_some_iff.mp hv |>.1
    have hi' : i < ts.length := by trivial
    obtain ⟨v', hv', rv⟩ := Vals.get r' (i := i) (x := V.ref (ts[i]).1) (by rw [List.getElem?_map, List.getElem?_eq_getElem hi']; rfl)
    rw [hv] at hv'
    cases hv'
    rw [List.getD_eq_getElem?_getD, List.getElem?_eq_getElem hi']
    exact rv
  · have hj' : j < ts.length := by rw [hlen]; simpa using hj
    have hi' : i < ts.length := by trivial
    have e : (ts.getD i (0, [])).2.map (Sum.inl : Int → Key) = (ts.getD j (0, [])).2.map Sum.inl := e
    rw [List.getD_eq_getElem?_getD, List.getElem?_eq_getElem hi', List.getD_eq_getElem?_getD, List.getElem?_eq_getElem hj'] at e
    have e : (ts[i]).2 = (ts[j]).2 := inl_map_inj e
    have := List.pairwise_iff_getElem.mp hnd i j (by rw [List.length_map]; exact hi') (by rw [List.length_map]; exact hj') hij
    rw [List.getElem_map, List.getElem_map] at this
    exact this e
  · have hj' : j < ts.length := by rw [hlen]; simpa using hj
    show ST.TI _ _ _ ((ts.getD j (0, [])).2.map _) _
    rw [List.getD_eq_getElem?_getD, List.getElem?_eq_getElem hj']
    exact ti_of I1.hok (ht _ (List.getElem_mem hj'))
  · refine Calls.spliced_nil ?_
    have kk : ∀ b o, s1.heap.get? b = some o → h'.get? b = some o := fun b o e => hk b o (Heap.lt_size e) e
    obtain ⟨⟨o, es, ep, t, go, gx, gd, ge, gk, gr, gl⟩⟩ := hT
    have hes : es.size = ts.length := by rw [gl, hx, hlen]; simp
    refine call_len_set (s := { s1 with heap := h', toks := tk }) go gx gd gk.fits (by have := line63; trivial) ⟨.int ts.length, H1, (I1.kept (t' := tk) kk).tok _, ⟨_, by rw [hes]⟩, q⟩
end
end L2
set_option Elab.async false
set_option linter.all false
set_option maxRecDepth 100000
set_option maxHeartbeats 4000000
namespace PH
open PySem L2 PySem.W
noncomputable def spSym38 (K : Frag) : Sp := fun vs H Q _ => ∃ (p : Addr) (ns : List Int) (m : Int), vs = [.ref p, .int m] ∧ (SqL K H p (ns.map V.int) ∨ SqT K H p (ns.map V.int)) ∧ (∀ y ∈ ns, 0 ≤ y ∧ y < 256 + m) ∧ ∀ H', Same H H' → Q (.bl true) H'
noncomputable def spForm38 : Sp := fun vs H Q _ => ∃ (R P W : Addr) (zs : List (Addr × Int × Int)) (row : List Int), vs = [.ref R] ∧ H R = some (.tup [.ref P, .ref W]) ∧ Prs H P zs ∧ GrZ zs ∧ H W = some (lsI row) ∧ RwZ zs.length row ∧ zs.length ≤ 400 ∧ ∀ H', Same H H' → Q (.bl true) H'
noncomputable def spOnce38 : Sp := fun vs H Q _ => ∃ (P W : Addr) (zs : List (Addr × Int × Int)) (row : List Int), vs = [.ref P, .ref W] ∧ Prs H P zs ∧ H W = some (lsI row) ∧ row.length ≤ 400 ∧ zs.length ≤ 256 ∧ (zs.map (·.2)).Nodup ∧ (∀ z ∈ zs, ∀ a, ¬ At row a z.2.1 z.2.2) ∧ (∀ a b x y, At row a x y → At row b x y → b ≤ a + 1) ∧ ∀ H', Same H H' → Q (.bl true) H'
noncomputable def spGood38 : Sp := fun vs H Q _ => ∃ (T : Addr) (ts : List Int), vs = [.ref T] ∧ H T = some (lsI ts) ∧ ts.length ≤ 400 ∧ (∀ y ∈ ts, 0 ≤ y ∧ y ≤ 255) ∧ ∀ H', Same H H' → Q (.bl true) H'
noncomputable def Sd (row : List Int) (i : Nat) (kvs : KVs) : Prop := ∀ x y : Int, (valV kvs [.inl x, .inl y] = none ∧ ∀ a, a < i → ¬ At row a x y) ∨ ∃ l, l < i ∧ At row l x y ∧ valV kvs [.inl x, .inl y] = some (.int (l : Int)) ∧ ∀ a, a < i → At row a x y → l ≤ a
theorem Sd.nil (row : List Int) : Sd row 0 [] := fun x y => .inl ⟨rfl, fun a h => by trivial⟩
theorem key2_ne {x y x0 y0 : Int} (h : ¬ (x = x0 ∧ y = y0)) : ¬ ([Sum.inl x, Sum.inl y] : List Key) = [Sum.inl x0, Sum.inl y0] := fun z => by
  have z1 := List.cons.inj z
  have z2 := List.cons.inj z1.2
  exact h ⟨Sum.inl.inj z1.1, Sum.inl.inj z2.1⟩
theorem Sd.put {row : List Int} {i : Nat} {kvs : KVs} {x y : Int} (h : Sd row i kvs) (hA : At row i x y) : ∃ l : Nat, l ≤ i ∧ At row l x y ∧ (valV kvs [.inl x, .inl y]).getD (.int (i : Int)) = .int (l : Int) ∧ Sd row (i + 1) (putK kvs [.inl x, .inl y] (.int (l : Int))) := by
  have oth : ∀ (l : Nat) (u v : Int), ¬ (u = x ∧ v = y) → (valV (putK kvs [.inl x, .inl y] (.int (l : Int))) [.inl u, .inl v] = none ∧ ∀ a, a < i + 1 → ¬ At row a u v) ∨ ∃ l', l' < i + 1 ∧ At row l' u v ∧ valV (putK kvs [.inl x, .inl y] (.int (l : Int))) [.inl u, .inl v] = some (.int (l' : Int)) ∧ ∀ a, a < i + 1 → At row a u v → l' ≤ a := fun l u v hne => by
    have hN : ¬ At row i u v := fun ⟨a, b⟩ => hne ⟨Option.some.inj (a.symm.trans hA.1), Option.some.inj (b.symm.trans hA.2)⟩
    rw [valV_put, if_neg (key2_ne hne)]
    rcases h u v with ⟨e, q⟩ | ⟨l', q1, q2, q3, q4⟩
    · exact .inl ⟨e, fun a ha hAa => by
        by_cases z : a = i
        · exact hN (z ▸ hAa)
        · exact q a (by trivial) hAa⟩
    · exact .inr ⟨l', by trivial, q2, q3, fun a ha hAa => by
        by_cases z : a = i
        · exact absurd (z ▸ hAa) hN
        · exact q4 a (by trivial) hAa⟩
  rcases h x y with ⟨e, q⟩ | ⟨l', q1, q2, q3, q4⟩
  · refine ⟨i, Nat.le_refl _, hA, by rw [e]; rfl, fun u v => ?_⟩
    by_cases c : u = x ∧ v = y
    · obtain ⟨rfl, rfl⟩ := c
      rw [valV_put, if_pos rfl]
      exact .inr ⟨i, by trivial, hA, rfl, fun a ha hAa => by
        by_cases z : a = i
        · trivial
        · exact absurd hAa (q a (by trivial))⟩
    · exact oth i u v c
  · refine ⟨l', by trivial, q2, by rw [q3]; rfl, fun u v => ?_⟩
    by_cases c : u = x ∧ v = y
    · obtain ⟨rfl, rfl⟩ := c
      rw [valV_put, if_pos rfl]
      exact .inr ⟨l', by trivial, q2, rfl, fun a ha hAa => by
        by_cases z : a = i
        · trivial
        · exact q4 a (by trivial) hAa⟩
    · exact oth l' u v c
theorem rep_mem38 {ts : List Int} (k n : Nat) {y : Int} (h : y ∈ ((List.replicate k ts).flatten).take n) : y ∈ ts := by
  obtain ⟨l, hl, hy⟩ := List.mem_flatten.mp (List.mem_of_mem_take h)
  rw [List.eq_of_mem_replicate hl] at hy
  exact hy
theorem gi_grz {ts : List Int} {zs : List (Addr × Int × Int)} {row : List Int} (g : GI ts (zs.map (·.2)) row) : GrZ zs := fun i z e => g.gz i z.2 (by rw [List.getElem?_map, e]; rfl)
theorem gi_rn (zs : List (Addr × Int × Int)) : rp (zs.map (·.2)) = rn zs := by unfold rp rn; rw [List.map_map]; rfl
noncomputable def usd (row : List Int) (zs : List (Addr × Int × Int)) : List Int := row ++ (zs.map fun z => [z.2.1, z.2.2]).flatten
theorem usd_app (row : List Int) (zs : List (Addr × Int × Int)) (z : Addr × Int × Int) : usd row (zs ++ [z]) = usd row zs ++ [z.2.1, z.2.2] := by
  unfold usd
  rw [List.map_append, List.flatten_append, List.append_assoc]
  simp
theorem usd_len (row : List Int) (zs : List (Addr × Int × Int)) : (usd row zs).length = row.length + 2 * zs.length := by
  unfold usd
  rw [List.length_append]
  have : ∀ l : List (Addr × Int × Int), (l.map fun z => [z.2.1, z.2.2]).flatten.length = 2 * l.length := by
    intro l
    induction l with
    | nil => rfl
    | cons a l ih => rw [List.map_cons, List.flatten_cons, List.length_append, ih]; show 2 + 2 * l.length = 2 * (l.length + 1); trivial
  rw [this]
theorem gi_used {ts : List Int} {zs : List (Addr × Int × Int)} {row : List Int} (g : GI ts (zs.map (·.2)) row) {k : Nat} (hk : k < zs.length) : (256 + (k : Int)) ∈ usd row zs := by
  unfold usd
  rcases g.us k (by rw [List.length_map]; exact hk) with h | ⟨p, hp, h⟩
  · exact List.mem_append_left _ h
  · obtain ⟨z, hz, rfl⟩ := List.mem_map.mp hp
    refine List.mem_append_right _ (List.mem_flatten.mpr ⟨_, List.mem_map.mpr ⟨z, hz, rfl⟩, ?_⟩)
    rcases h with h | h
    · rw [← h]; exact List.mem_cons_self
    · rw [← h]; exact List.mem_cons_of_mem _ List.mem_cons_self
theorem nd_two {zs : List (Addr × Int × Int)} (h : (zs.map (·.2)).Nodup) : ((zs.map fun z => (z.1, [z.2.1, z.2.2])).map (·.2)).Nodup := by
  unfold List.Nodup at h ⊢
  rw [List.map_map]
  rw [List.pairwise_map] at h ⊢
  refine h.imp fun {a b} hne e => hne ?_
  have e : [a.2.1, a.2.2] = [b.2.1, b.2.2] := e
  have e1 := List.cons.inj e
  have e2 := List.cons.inj e1.2
  exact Prod.ext e1.1 e2.1
noncomputable def grD (zs : List (Int × Int)) (row : List Int) : DV := .tup [prD zs, .lst (row.map DV.int)]
theorem deep_gr {K : Frag} {H : Hp} {R P W : Addr} {zs : List (Addr × Int × Int)} {row : List Int} (hR : H R = some (.tup [.ref P, .ref W])) (pr : Prs H P zs) (hW : H W = some (lsI row)) : Deep K H (.ref R) (grD (zs.map (·.2)) row) :=
  .tup (SqT.of hR) (.cons pr.deep (.cons (.lst (SqL.of hW) (Deeps.ints row)) .nil))
theorem ht_gr (zs : List (Int × Int)) (row : List Int) : ht (grD zs row) ≤ 60 := by
  have h1 := hts_pD zs
  have h2 := hts_ints row
  have h3 : hts [] = 0 := by rw [hts]
  have h4 : ∀ (a : DV) (r : List DV), hts (a :: r) = max (ht a) (hts r) := fun a r => by rw [hts]
  unfold grD prD
  rw [ht_tup, h4, h4, h3, ht_lst, ht_lst, h2]
  trivial
theorem sqMidH {A B : TS} {D : Ends} {σ : St} {H : Hp} (M : St → Hp → Prop) (h2 : ∀ σ' H', M σ' H' → B D σ' H') (h1 : ∀ N : St → Hp → Prop, (∀ σ' H', M σ' H' → N σ' H') → A { D with nx := N } σ H) : tSeq A B D σ H := h1 _ h2
end PH
set_option Elab.async false
set_option linter.all false
set_option maxRecDepth 100000
set_option maxHeartbeats 4000000
namespace K38
open PySem L2 PySem.W PH
noncomputable def top (i : Nat) : Stmt := PySem.Challenge.pw_packhall_k38_grammar_of_texts.main.body.getD i (.Pass ⟨0, 0, 0, 0⟩)
noncomputable abbrev s_pairt : Stmt := top 2
noncomputable abbrev s_most : Stmt := top 3
noncomputable abbrev s_withs : Stmt := top 4
noncomputable abbrev s_grof : Stmt := top 5
noncomputable abbrev s_cellat : Stmt := top 7
noncomputable abbrev s_stir : Stmt := top 8
noncomputable abbrev s_text : Stmt := top 9
noncomputable abbrev s_putin : Stmt := top 10
noncomputable abbrev s_symb : Stmt := top 11
noncomputable abbrev s_form : Stmt := top 12
noncomputable abbrev s_once : Stmt := top 13
noncomputable abbrev s_good : Stmt := top 14
noncomputable abbrev s_law : Stmt := top 15
section
variable {P : Program} {w : World} {K : PySem.W.Frag} {mg : Str → Option Value} {base : Heap}
theorem sc_pairt : FnScope ["row", "times", "behind", "at", "pair"] ["row"] (defScope s_pairt) := ⟨rfl, rfl, rfl, by decide +kernel, rfl, by decide +kernel, by decide +kernel⟩
theorem ok_pairt {f : Addr} {fd : FuncData} (F : Fun K "pair_times" "pair_times" s_pairt f fd) (B : Bls mg) : FnOk P w K mg base (CXW P w) 1 f fd ["row"] (spPairX) := by
  refine F.okN sc_pairt (fun vs H Q E h => ?_) (fun cdv A outer s H vs Q E hr h => ?_)
  · obtain ⟨p, row, rfl, _⟩ := h
    rfl
  · obtain ⟨p, row, rfl, hp, hl, hQ⟩ := h
    refine ⟨_, (pss_cons (ps_set (i := 1) sc_pairt.nd rfl (Or.inl rfl) pe_dnewT)
      (pss_cons (ps_set (i := 2) sc_pairt.nd rfl (Or.inl rfl) pe_dnewT)
      (pss_cons (ps_for PassesOwn.never rfl (pi_range1 rfl B.range (pa_cons (pe_op op_sub (pe_callB call_len_seq rfl B.len PySem.boot_len (pa_cons (pv 0) pa_nil)) pe_int) pa_nil)) (pg_name (i := 3) sc_pairt.nd rfl (Or.inl rfl))
        (pss_cons (ps_set (i := 4) sc_pairt.nd rfl (Or.inl rfl) (pe_tup (pa_cons (pe_ix ix_list (pv 0) (pv 3) (fun _ _ => rfl)) (pa_cons (pe_ix ix_list (pv 0) (pe_op op_add (pv 3) pe_int) (fun _ _ => rfl)) pa_nil))))
        (pss_one (ps_if (pt_cmpR op_le (pe_dget2 (hu_of hr) (pv 2) (pv 4) pe_int ⟨rfl, rfl, rfl, rfl⟩) (pv 3) (nomark _))
          (pss_cons (ps_dput (hu_of hr) (pv 1) (pv 4) (pe_op op_add (pe_dget2 (hu_of hr) (pv 1) (pv 4) pe_int ⟨rfl, rfl, rfl, rfl⟩) pe_int) rfl)
          (pss_one (ps_dput (hu_of hr) (pv 2) (pv 4) (pe_op op_add (pv 3) pe_int) rfl)))
          pss_nil))))
      (pss_one (ps_ret (pv 1)))))), ?_⟩
    intro Td hTd
    have s1 := same_new hTd (.dT [])
    have hT1 : upd H Td (.dT []) Td = some (.dT []) := upd_same
    generalize upd H Td (.dT []) = H1 at s1 hT1 ⊢
    intro Bd hBd
    have u2 := same_new hBd (.dT [])
    have hB2 : upd H1 Bd (.dT []) Bd = some (.dT []) := upd_same
    have hT2 := u2 _ _ hT1
    have hTB : Td ≠ Bd := fun e => by rw [e, hBd] at hT1; cases hT1
    have hBH : H Bd = none := s1.free hBd
    have s2 := s1.trans u2
    generalize upd H1 Bd (.dT []) = H2 at u2 s2 hB2 hT2 ⊢
    refine ⟨_, rfl, p, _, rfl, .inl (SqL.of (s2 _ _ hp)), _, _, rfl, rfl, ((row.length : Nat) : Int) - 1, by rw [List.length_map], by trivial, by trivial, ?_⟩
    rw [show (((row.length : Nat) : Int) - 1).toNat = row.length - 1 by trivial]
    refine for_range (n := row.length - 1) (fun i σ H' => ∃ (v3 v4 : Option V), σ = [some (.ref p), some (.ref Td), some (.ref Bd), v3, v4] ∧ H' Td = some (.dT (pt row i).1) ∧ H' Bd = some (.dT (pt row i).2) ∧ Same H H')
      ⟨none, none, rfl, hT2, hB2, s2⟩ ?_ ?_
    · rintro i σ H' hi ⟨v3, v4, rfl, hT, hB, sm⟩
      rw [Int.zero_add]
      obtain ⟨x, hx⟩ := bounded_at (l := row) (k := i) (by trivial)
      obtain ⟨y, hy⟩ := bounded_at (l := row) (k := i + 1) (by trivial)
      have gx : row.getD i 0 = x := by rw [List.getD_eq_getElem?_getD, hx]; rfl
      have gy : row.getD (i + 1) 0 = y := by rw [List.getD_eq_getElem?_getD, hy]; rfl
      have est : pt row (i + 1) = ptI row i (pt row i) := rfl
      unfold ptI at est
      rw [gx, gy] at est
      have kp := pt_kvp row i
      have ln := pt_len row i
      rw [est]
      clear est
      generalize pt row i = q at hT hB kp ln ⊢
      have hp' := sm _ _ hp
      refine ⟨_, rfl, _, rfl, p, _, _, _, rfl, rfl, SqL.of hp', at_intsZ hx, _, rfl, _, rfl, _, _, rfl, rfl, p, _, ((i + 1 : Nat) : Int), _, rfl, rfl, SqL.of hp', at_intsZ hy, (by show 2 ≤ sizeLine; decide), fun t ht => ?_⟩
      have u3 := same_new ht (.tup [V.int x, V.int y])
      have et : upd H' t (.tup [V.int x, V.int y]) t = some (.tup [V.int x, V.int y]) := upd_same
      generalize upd H' t (.tup [V.int x, V.int y]) = H3 at u3 et ⊢
      have sm3 := sm.trans u3
      have hT3 := u3 _ _ hT
      have hB3 := u3 _ _ hB
      refine ⟨_, rfl, Bd, rfl, .inr ⟨q.2, .inl hB3⟩, _, rfl, _, DGet.t (k := [.inl x, .inl y]) hB3 et, _, rfl, nV q.2 x y, _, kp.2.get x y, rfl, _, rfl, ?_⟩
      by_cases hle : nV q.2 x y ≤ (i : Int)
      rotate_left
      · rw [decide_eq_false hle, if_neg hle]
        refine iteF ?_
        exact ⟨_, _, rfl, hT3, hB3, sm3⟩
      rw [decide_eq_true hle, if_pos hle]
      refine iteT ?_
      refine ⟨_, rfl, Td, rfl, .inr ⟨q.1, .inl hT3⟩, _, rfl, _, DGet.t (k := [.inl x, .inl y]) hT3 et, nV q.1 x y, _, kp.1.get x y, rfl, _, rfl, _, rfl, Td, _, rfl, DPut.t (k := [.inl x, .inl y]) hT3 et (fits_lt (by trivial)), ?_⟩
      have hnT : t ≠ Td := fun e => by rw [e] at et; rw [et] at hT3; cases hT3
      try simp only []
      generalize putK q.1 ([Sum.inl x, Sum.inl y] : List Key) (V.int (nV q.1 x y + 1)) = kt'
      have hT4 : upd H3 Td (.dT kt') Td = some (.dT kt') := upd_same
      have hB4 : upd H3 Td (.dT kt') Bd = some (.dT q.2) := by rw [upd_ne (Ne.symm hTB)]; exact hB3
      have et4 : upd H3 Td (.dT kt') t = some (.tup [V.int x, V.int y]) := by rw [upd_ne hnT]; exact et
      have sm4 := same_upd sm3 (.dT kt') hTd
      generalize upd H3 Td (.dT kt') = H4 at hT4 hB4 et4 sm4 ⊢
      refine ⟨_, rfl, _, _, rfl, rfl, _, rfl, _, rfl, Bd, _, rfl, DPut.t (k := [.inl x, .inl y]) hB4 et4 (fits_lt (by trivial)), ?_⟩
      exact ⟨_, _, rfl, by rw [upd_ne hTB]; exact hT4, upd_same, same_upd sm4 _ hBH⟩
    · rintro σ H' ⟨v3, v4, rfl, hT, hB, sm⟩
      refine ⟨_, rfl, ?_⟩
      exact hQ Td H' sm hTd hT
end
end K38
set_option Elab.async false
set_option linter.all false
set_option maxRecDepth 100000
set_option maxHeartbeats 4000000
namespace K38
open PySem L2 PySem.W PH
section
variable {P : Program} {w : World} {K : PySem.W.Frag} {mg : Str → Option Value} {base : Heap}
theorem sc_most : FnScope ["times", "found", "pair"] ["times"] (defScope s_most) := ⟨rfl, rfl, rfl, by decide +kernel, rfl, by decide +kernel, by decide +kernel⟩
theorem ok_most {f : Addr} {fd : FuncData} (F : Fun K "most_frequent" "most_frequent" s_most f fd) (B : Bls mg) : FnOk P w K mg base (CXW P w) 1 f fd ["times"] (spMostX) := by
  refine F.okN sc_most (fun vs H Q E h => ?_) (fun cdv A outer s H vs Q E hr h => ?_)
  · obtain ⟨d, kvs, rfl, _⟩ := h
    rfl
  · obtain ⟨d, kvs, rfl, hd, kp, hQ⟩ := h
    refine ⟨_, (pss_cons (ps_set (i := 1) sc_most.nd rfl (Or.inl rfl) pe_non)
      (pss_cons (ps_for PassesOwn.never rfl (pi_dictT (pv 0)) (pg_name (i := 2) sc_most.nd rfl (Or.inl rfl))
        (pss_one (ps_if (PW.pt (pw_and (pt_cmpR op_gt (pe_dget (hu_of hr) (pv 0) (pv 2) (fun _ _ => rfl)) pe_int (nomark _)) (pw_and1 (PW.pt (pw_or (pt_cmp (pc_isN (pv 1))) (pw_or1 (pt_cmpR op_gt (pe_dget (hu_of hr) (pv 0) (pv 2) (fun _ _ => rfl)) (pe_dget (hu_of hr) (pv 0) (pv 1) (fun _ _ => rfl)) (nomark _))))))))
          (pss_one (ps_set (i := 1) sc_most.nd rfl (Or.inl rfl) (pv 2)))
          pss_nil)))
      (pss_one (ps_ret (pv 1))))), ?_⟩
    refine ⟨_, rfl, d, kvs, rfl, hd, fun o => ?_⟩
    have kb0 : ∀ b u, b ≠ d → H b = some u → upd H d (.frz o (.dT kvs)) b = some u := fun b u hb e => by rw [upd_ne hb]; exact e
    have hf0 : upd H d (.frz o (.dT kvs)) d = some (.frz o (.dT kvs)) := upd_same
    generalize upd H d (.frz o (.dT kvs)) = H1 at kb0 hf0 ⊢
    refine for_dictT (a := d) (o := o) (kvs := kvs) (fun i σ H' => ∃ (f : V) (v2 : Option V), σ = [some (.ref d), some f, v2] ∧ H' = H1 ∧ ((f = .non ∧ ms kvs i = none) ∨ ∃ (t : Addr) (x y n : Int), f = .ref t ∧ H1 t = some (.tup [.int x, .int y]) ∧ ms kvs i = some (x, y) ∧ valV kvs [.inl x, .inl y] = some (.int n)))
      ⟨_, none, rfl, rfl, .inl ⟨rfl, rfl⟩⟩ (fun i σ H' _ ⟨_, _, _, e, _⟩ => by rw [e]; exact hf0) ?_ ?_
    · rintro i k v b σ H' hi ⟨f, v2, rfl, rfl, hf⟩ hb
      obtain ⟨x, y, n, rfl, rfl⟩ := kp k v (List.mem_of_getElem? hi)
      obtain ⟨v', hv'⟩ := valV_has (List.mem_of_getElem? hi)
      obtain ⟨x', y', n', ek', rfl⟩ := kp _ _ (valV_mem hv')
      have est := ms_step hi
      rw [nV_some hv'] at est
      refine ⟨_, rfl, _, rfl, d, _, rfl, .inr ⟨kvs, [.inl x, .inl y], b, .inr ⟨o, hf0⟩, rfl, hb, hv'.symm⟩, _, _, rfl, rfl, _, rfl, ?_⟩
      by_cases h1 : (1 : Int) < n'
      rotate_left
      · rw [decide_eq_false h1]
        refine iteF (iteF ?_)
        rw [if_neg (fun z => h1 z.1)] at est
        exact ⟨f, _, rfl, rfl, by rw [est]; exact hf⟩
      rw [decide_eq_true h1]
      refine iteT ?_
      rcases hf with ⟨rfl, em⟩ | ⟨t, x2, y2, n2, rfl, ht, em, hv2⟩
      · refine ⟨_, rfl, _, rfl, ?_⟩
        refine iteT (iteT ?_)
        refine ⟨_, rfl, ?_⟩
        rw [if_pos ⟨h1, by rw [em]; rfl⟩] at est
        exact ⟨_, _, rfl, rfl, .inr ⟨b, x, y, n', rfl, hb, est, hv'⟩⟩
      · refine ⟨_, rfl, _, rfl, ?_⟩
        refine iteF ?_
        refine ⟨_, rfl, _, rfl, d, _, rfl, .inr ⟨kvs, [.inl x, .inl y], b, .inr ⟨o, hf0⟩, rfl, hb, hv'.symm⟩, _, rfl, _, rfl, d, _, rfl, .inr ⟨kvs, [.inl x2, .inl y2], t, .inr ⟨o, hf0⟩, rfl, ht, hv2.symm⟩, _, _, rfl, rfl, _, rfl, ?_⟩
        have el : lsf kvs (ms kvs i) n' = decide (n2 < n') := by rw [em]; show decide (nV kvs x2 y2 < n') = _; rw [nV_some hv2]
        rw [el] at est
        by_cases h2 : n2 < n'
        · rw [decide_eq_true h2]
          refine iteT ?_
          refine ⟨_, rfl, ?_⟩
          rw [if_pos ⟨h1, decide_eq_true h2⟩] at est
          exact ⟨_, _, rfl, rfl, .inr ⟨b, x, y, n', rfl, hb, est, hv'⟩⟩
        · rw [decide_eq_false h2]
          refine iteF ?_
          rw [if_neg (fun z => h2 (of_decide_eq_true z.2))] at est
          exact ⟨_, _, rfl, rfl, .inr ⟨t, x2, y2, n2, rfl, ht, by rw [est]; exact em, hv2⟩⟩
    · rintro σ H' ⟨f, v2, rfl, rfl, hf⟩
      refine ⟨_, rfl, ?_⟩
      rcases hf with ⟨rfl, em⟩ | ⟨t, x2, y2, n2, rfl, ht, em, hv2⟩
      · exact hQ _ H' kb0 (.inl ⟨rfl, em⟩)
      · exact hQ _ H' kb0 (.inr ⟨t, x2, y2, rfl, ht, em⟩)
end
end K38
set_option Elab.async false
set_option linter.all false
set_option maxRecDepth 100000
set_option maxHeartbeats 4000000
namespace K38
open PySem L2 PySem.W PH
section
variable {P : Program} {w : World} {K : PySem.W.Frag} {mg : Str → Option Value} {base : Heap}
theorem sc_withs : FnScope ["row", "pair", "symbol", "made", "at"] ["row", "pair", "symbol"] (defScope s_withs) := ⟨rfl, rfl, rfl, by decide +kernel, rfl, by decide +kernel, by decide +kernel⟩
theorem ok_withs {f : Addr} {fd : FuncData} (F : Fun K "with_symbol" "with_symbol" s_withs f fd) (B : Bls mg) : FnOk P w K mg base (CXW P w) 1 f fd ["row", "pair", "symbol"] (spWith) := by
  refine F.okN sc_withs (fun vs H Q E h => ?_) (fun cdv A outer s H vs Q E hr h => ?_)
  · obtain ⟨p, t, row, x, y, s, rfl, _⟩ := h
    rfl
  · obtain ⟨p, t, row, x, y, s, rfl, hp, ht, hl, hQ⟩ := h
    refine ⟨_, (pss_cons (ps_set (i := 3) sc_withs.nd rfl (Or.inl rfl) (pe_lst pa_nil))
      (pss_cons (ps_set (i := 4) sc_withs.nd rfl (Or.inl rfl) pe_int)
      (pss_cons (ps_while PassesOwn.never (pt_cmpR op_lt (pv 4) (pe_callB call_len_seq rfl B.len PySem.boot_len (pa_cons (pv 0) pa_nil)) (nomark _))
        (pss_one (ps_if (pt_cmpR (op_eqL (units_of hr)) (pe_slice sl_list (pv 0) (po_some (pv 4)) (po_some (pe_op op_add (pv 4) pe_int))) (pe_lst (pa_cons (pe_ix ix_tup (pv 1) pe_int (fun _ _ => rfl)) (pa_cons (pe_ix ix_tup (pv 1) pe_int (fun _ _ => rfl)) pa_nil))) (nomark _))
          (pss_cons (ps_expr (pe_bm PySem.F.plainAttrs_list PySem.F.slot_list_append PySem.F.type_list_append mt_append (pv 3) (pa_cons (pv 2) pa_nil)))
          (pss_one (ps_set (i := 4) sc_withs.nd rfl (Or.inl rfl) (pe_op op_add (pv 4) pe_int))))
          (pss_cons (ps_expr (pe_bm PySem.F.plainAttrs_list PySem.F.slot_list_append PySem.F.type_list_append mt_append (pv 3) (pa_cons (pe_ix ix_list (pv 0) (pv 4) (fun _ _ => rfl)) pa_nil)))
          (pss_one (ps_set (i := 4) sc_withs.nd rfl (Or.inl rfl) (pe_op op_add (pv 4) pe_int)))))))
      (pss_one (ps_ret (pv 3)))))), ?_⟩
    refine ⟨(by show 0 ≤ sizeLine; decide), fun W hW => ?_⟩
    have s1 := same_new hW (.lst [])
    have hW1 : upd H W (.lst []) W = some (lsI []) := upd_same
    generalize upd H W (.lst []) = H1 at s1 hW1 ⊢
    refine ⟨fun mm σ H' => ∃ (k : Nat) (ms : List Int), mm = row.length - k ∧ σ = [some (.ref p), some (.ref t), some (.int s), some (.ref W), some (.int (k : Nat))] ∧ k ≤ row.length ∧ H' W = some (lsI ms) ∧ ms ++ wsy x y s (row.drop k) = wsy x y s row ∧ ms.length ≤ k ∧ Same H H',
      ⟨_, 0, [], rfl, rfl, Nat.zero_le _, hW1, by rw [List.drop_zero]; rfl, Nat.le_refl _, s1⟩, ?_⟩
    rintro mm σ H' ⟨k, ms, rfl, rfl, hk, hW', hms, hml, sm⟩
    refine ⟨_, rfl, _, rfl, p, _, rfl, .inl (SqL.of (sm _ _ hp)), _, _, rfl, rfl, _, rfl, ?_⟩
    rw [List.length_map]
    by_cases hkl : k < row.length
    rotate_left
    · rw [decide_eq_false (show ¬ ((k : Nat) : Int) < ((row.length : Nat) : Int) by trivial)]
      refine iteF ?_
      refine ⟨_, rfl, ?_⟩
      have e : row.drop k = [] := List.drop_eq_nil_of_le (by trivial)
      rw [e, wsy_nil, List.append_nil] at hms
      rw [hms] at hW'
      exact hQ W H' sm hW hW'
    rw [decide_eq_true (show ((k : Nat) : Int) < ((row.length : Nat) : Int) by trivial)]
    refine iteT ?_
    refine ⟨fun σ' H'' => ∃ m', m' < row.length - k ∧ ∃ (k : Nat) (ms : List Int), m' = row.length - k ∧ σ' = [some (.ref p), some (.ref t), some (.int s), some (.ref W), some (.int (k : Nat))] ∧ k ≤ row.length ∧ H'' W = some (lsI ms) ∧ ms ++ wsy x y s (row.drop k) = wsy x y s row ∧ ms.length ≤ k ∧ Same H H'', fun σ' H'' z => z, ?_⟩
    refine ⟨_, rfl, _, rfl, _, rfl, _, rfl, _, _, rfl, rfl, _, rfl, p, _, rfl, SqL.of (sm _ _ hp), fun c hc => ?_⟩
    have ecut : HO.lst (cutV (row.map V.int) (some (k : Int)) (some ((k : Int) + 2))) = lsI ((row.drop k).take 2) := cut_step' row k 2
    try simp only []
    rw [ecut]
    have uc := same_new hc (lsI ((row.drop k).take 2))
    have ec : upd H' c (lsI ((row.drop k).take 2)) c = some (lsI ((row.drop k).take 2)) := upd_same
    generalize upd H' c (lsI ((row.drop k).take 2)) = H2 at uc ec ⊢
    have ht2 := uc _ _ (sm _ _ ht)
    refine ⟨_, rfl, t, _, _, _, rfl, rfl, SqT.of ht2, rfl, _, rfl, t, _, _, _, rfl, rfl, SqT.of ht2, rfl, (by show 2 ≤ sizeLine; decide), fun l hl2 => ?_⟩
    have ul := same_new hl2 (.lst [V.int x, V.int y])
    have el : upd H2 l (.lst [V.int x, V.int y]) l = some (.lst [V.int x, V.int y]) := upd_same
    generalize upd H2 l (.lst [V.int x, V.int y]) = H3 at ul el ⊢
    have el' : H3 l = some (lsI [x, y]) := el
    have sH3 := sm.trans (uc.trans ul)
    have hW3 := ul _ _ (uc _ _ hW')
    refine ⟨c, l, _, [x, y], rfl, rfl, SqL.of (ul _ _ ec), SqL.of el', _, rfl, ?_⟩
    by_cases hm : (row.drop k).take 2 = [x, y]
    · rw [decide_eq_true hm]
      refine iteT ?_
      obtain ⟨h2, e2⟩ := wsy_yes (s := s) hm
      refine ⟨_, rfl, .inl ⟨rfl, _, SqL.of hW3⟩, _, rfl, W, _, _, rfl, rfl, hW3, fits_lt (by rw [List.length_map]; trivial), ?_⟩
      refine ⟨_, rfl, _, _, rfl, rfl, ?_⟩
      refine gNz (v' := V.int ((k + 2 : Nat) : Int)) (congrArg V.int (by trivial)) ?_
      exact ⟨row.length - (k + 2), by trivial, k + 2, ms ++ [s], rfl, rfl, h2, by rw [upd_same, lsI_app1], by rw [List.append_assoc, ← hms, e2]; rfl, by rw [List.length_append, List.length_singleton]; trivial, same_upd sH3 _ hW⟩
    · rw [decide_eq_false hm]
      refine iteF ?_
      obtain ⟨z, hz⟩ := bounded_at hkl
      have e1 := wsy_no (x := x) (y := y) (s := s) hz hm
      refine ⟨_, rfl, .inl ⟨rfl, _, SqL.of hW3⟩, _, rfl, _, rfl, p, _, _, _, rfl, rfl, SqL.of (sH3 _ _ hp), at_intsZ hz, W, _, _, rfl, rfl, hW3, fits_lt (by rw [List.length_map]; trivial), ?_⟩
      refine ⟨_, rfl, _, _, rfl, rfl, ?_⟩
      refine gNz (v' := V.int ((k + 1 : Nat) : Int)) (congrArg V.int (by trivial)) ?_
      exact ⟨row.length - (k + 1), by trivial, k + 1, ms ++ [z], rfl, rfl, by trivial, by rw [upd_same, lsI_app1], by rw [List.append_assoc, ← hms, e1]; rfl, by rw [List.length_append, List.length_singleton]; trivial, same_upd sH3 _ hW⟩
end
end K38
set_option Elab.async false
set_option linter.all false
set_option maxRecDepth 100000
set_option maxHeartbeats 4000000
namespace K38
open PySem L2 PySem.W PH
section
variable {P : Program} {w : World} {K : PySem.W.Frag} {mg : Str → Option Value} {base : Heap}
theorem sc_grof : FnScope ["text", "rules", "row", "pair"] ["text"] (defScope s_grof) := ⟨rfl, rfl, rfl, by decide +kernel, rfl, by decide +kernel, by decide +kernel⟩
theorem ok_grof {f f_pairt f_most f_withs : Addr} {fd d_pairt d_most d_withs : FuncData} (F : Fun K "grammar_of" "grammar_of" s_grof f fd) (B : Bls mg) (m_FR : FRg mg) 
    (G_pairt : FnOk P w K mg base (CXW P w) 1 f_pairt d_pairt ["row"] (spPairX)) (b_pairt : Binds K d_pairt ["row"] []) (k_pairt : keepIn K (.ref f_pairt) = true) (m_pairt : mg "pair_times" = some (.ref f_pairt)) 
    (G_most : FnOk P w K mg base (CXW P w) 1 f_most d_most ["times"] (spMostX)) (b_most : Binds K d_most ["times"] []) (k_most : keepIn K (.ref f_most) = true) (m_most : mg "most_frequent" = some (.ref f_most)) 
    (G_withs : FnOk P w K mg base (CXW P w) 1 f_withs d_withs ["row", "pair", "symbol"] (spWith)) (b_withs : Binds K d_withs ["row", "pair", "symbol"] []) (k_withs : keepIn K (.ref f_withs) = true) (m_withs : mg "with_symbol" = some (.ref f_withs)) : FnOk P w K mg base (CXW P w) 2 f fd ["text"] (spGrX) := by
  refine F.okN sc_grof (fun vs H Q E h => ?_) (fun cdv A outer s H vs Q E hr h => ?_)
  · obtain ⟨p, ts, rfl, _⟩ := h
    rfl
  · obtain ⟨p, ts, rfl, hp, hl, hsg, hQ⟩ := h
    obtain ⟨u_FR, m_v, r_v⟩ := m_FR
    refine ⟨_, (pss_cons (ps_set (i := 1) sc_grof.nd rfl (Or.inl rfl) (pe_lst pa_nil))
      (pss_cons (ps_set (i := 2) sc_grof.nd rfl (Or.inl rfl) (pe_callTy call_list_of rfl B.list boot_list' (pa_cons (pv 0) pa_nil)))
      (pss_cons (ps_set (i := 3) sc_grof.nd rfl (Or.inl rfl) (pe_call G_most hr rfl m_most k_most b_most .nil passN (pa_cons (pe_call G_pairt hr rfl m_pairt k_pairt b_pairt .nil passN (pa_cons (pv 2) pa_nil)) pa_nil)))
      (pss_cons (ps_while PassesOwn.never (pt_cmp (pc_notN (pv 3)))
        (pss_cons (ps_set (i := 2) sc_grof.nd rfl (Or.inl rfl) (pe_call G_withs hr rfl m_withs k_withs b_withs .nil passN (pa_cons (pv 2) (pa_cons (pv 3) (pa_cons (pe_op op_add (pe_glob (v := .int 256) rfl m_v r_v) (pe_callB call_len_seq rfl B.len PySem.boot_len (pa_cons (pv 1) pa_nil))) pa_nil)))))
        (pss_cons (ps_expr (pe_bm PySem.F.plainAttrs_list PySem.F.slot_list_append PySem.F.type_list_append mt_append (pv 1) (pa_cons (pv 3) pa_nil)))
        (pss_one (ps_set (i := 3) sc_grof.nd rfl (Or.inl rfl) (pe_call G_most hr rfl m_most k_most b_most .nil passN (pa_cons (pe_call G_pairt hr rfl m_pairt k_pairt b_pairt .nil passN (pa_cons (pv 2) pa_nil)) pa_nil)))))))
      (pss_one (ps_ret (pe_tup (pa_cons (pv 1) (pa_cons (pv 2) pa_nil))))))))), ?_⟩
    refine ⟨(by show 0 ≤ sizeLine; decide), fun P hP => ?_⟩
    have uP := same_new hP (.lst [])
    have eP : upd H P (.lst []) P = some (.lst []) := upd_same
    generalize upd H P (.lst []) = H1 at uP eP ⊢
    have pr1 : Prs H1 P [] := ⟨eP, fun z hz => by cases hz⟩
    refine ⟨_, rfl, p, _, rfl, .inl (SqL.of (uP _ _ hp)), fun W hW => ?_⟩
    have hWH : H W = none := uP.free hW
    have hPW : P ≠ W := fun z => by rw [z, hW] at eP; cases eP
    have uW := same_new hW (.lst (ts.map V.int))
    have eW : upd H1 W (.lst (ts.map V.int)) W = some (.lst (ts.map V.int)) := upd_same
    generalize upd H1 W (.lst (ts.map V.int)) = H2 at uW eW ⊢
    have s2 := uP.trans uW
    refine ⟨_, rfl, W, ts, rfl, eW, by trivial, fun D H3 s3 hD hD3 => ?_⟩
    refine ⟨D, _, rfl, hD3, (pt_kvp ts _).1, fun v H4 k4 fd => ?_⟩
    have k24 : Same H2 H4 := fun b o e => k4 _ _ (fun z => by rw [z] at e; rw [e] at hD; cases hD) (s3 _ _ e)
    refine ⟨fun mm σ H' => ∃ (W : Addr) (zs : List (Addr × Int × Int)) (row : List Int) (v : V), mm = row.length ∧ σ = [some (.ref p), some (.ref P), some (.ref W), some v] ∧ Prs H' P zs ∧ H' W = some (lsI row) ∧ H W = none ∧ P ≠ W ∧ GI ts (zs.map (·.2)) row ∧ (∃ f, row.length ≤ f ∧ grm f (zs.map (·.2)) row = gr ts) ∧ FndX H' (mst row) v ∧ Same H H',
      ⟨_, W, [], ts, v, rfl, rfl, (pr1.same uW).same k24, k24 _ _ eW, hWH, hPW, gi_start hsg, ⟨ts.length, Nat.le_refl _, rfl⟩, fd, s2.trans k24⟩, ?_⟩
    clear fd k24 k4 hD3 hD s3 eW s2 uW hPW hWH hW pr1 eP uP
    rintro mm σ H5 ⟨W, zs, row, v, rfl, rfl, pr, hW, hWH, hPW, gi, ⟨f, hf, ef⟩, fd, sm⟩
    have hsz := gi.sz
    rw [List.length_map] at hsz
    refine ⟨_, rfl, _, rfl, ?_⟩
    rcases fd with ⟨rfl, em⟩ | ⟨t, x, y, rfl, ht, em⟩
    · refine iteF ?_
      refine ⟨_, rfl, _, rfl, (by show 2 ≤ sizeLine; decide), fun R hR => ?_⟩
      have u := same_new hR (.tup [V.ref P, V.ref W])
      have eg : grm f (zs.map (·.2)) row = (zs.map (·.2), row) := grm_end em f _
      rw [eg] at ef
      exact hQ R P W zs _ (sm.trans u) upd_same hP hWH hPW (pr.same u) (by rw [← ef]) (by rw [← ef]; exact u _ _ hW)
    refine iteT ?_
    refine ⟨fun σ' H'' => ∃ m', m' < row.length ∧ ∃ (W : Addr) (zs : List (Addr × Int × Int)) (row : List Int) (v : V), m' = row.length ∧ σ' = [some (.ref p), some (.ref P), some (.ref W), some v] ∧ Prs H'' P zs ∧ H'' W = some (lsI row) ∧ H W = none ∧ P ≠ W ∧ GI ts (zs.map (·.2)) row ∧ (∃ f, row.length ≤ f ∧ grm f (zs.map (·.2)) row = gr ts) ∧ FndX H'' (mst row) v ∧ Same H H'', fun σ' H'' z => z, ?_⟩
    refine ⟨_, rfl, _, rfl, _, rfl, P, _, rfl, .inl (SqL.of pr.at_), _, _, rfl, rfl, W, t, row, x, y, _, rfl, hW, ht, by trivial, fun W2 H6 s6 hW2n hW2 => ?_⟩
    rw [List.length_map] at hW2
    have pr6 := pr.same s6
    have ht6 := s6 _ _ ht
    have hW2P : W2 ≠ P := fun e => by rw [e, pr.at_] at hW2n; cases hW2n
    refine ⟨_, rfl, .inl ⟨rfl, _, SqL.of pr6.at_⟩, _, rfl, P, _, _, rfl, rfl, pr6.at_, fits_lt (by rw [List.length_map]; trivial), ?_⟩
    have pr7 := pr6.app ht6
    have hW7 : upd H6 P (.lst ((zs.map fun z => V.ref z.1) ++ [V.ref t])) W2 = some (lsI (wsy x y (256 + ((zs.length : Nat) : Int)) row)) := by rw [upd_ne hW2P]; exact hW2
    have sm7 := same_upd (sm.trans s6) (.lst ((zs.map fun z => V.ref z.1) ++ [V.ref t])) hP
    generalize upd H6 P (.lst ((zs.map fun z => V.ref z.1) ++ [V.ref t])) = H7 at pr7 hW7 sm7 ⊢
    obtain ⟨a, b, hab, ha, hb⟩ := mst_some em
    have hlt := wsy_lt x y (256 + ((zs.length : Nat) : Int)) row a ha.1 ha.2
    refine ⟨_, rfl, W2, _, rfl, hW7, by trivial, fun D H8 s8 hD hD8 => ?_⟩
    refine ⟨D, _, rfl, hD8, (pt_kvp _ _).1, fun v H9 k9 fd9 => ?_⟩
    have k79 : Same H7 H9 := fun b o e => k9 _ _ (fun z => by rw [z] at e; rw [e] at hD; cases hD) (s8 _ _ e)
    have ezs : (zs ++ [(t, x, y)]).map (·.2) = zs.map (·.2) ++ [(x, y)] := by rw [List.map_append]; rfl
    have gi2 := gi.step em
    rw [List.length_map] at gi2
    refine ⟨_, hlt, W2, zs ++ [(t, x, y)], wsy x y (256 + ((zs.length : Nat) : Int)) row, v, rfl, rfl, pr7.same k79, k79 _ _ hW7, (sm.free hW2n), Ne.symm hW2P, by rw [ezs]; exact gi2, ?_, fd9, sm7.trans k79⟩
    obtain ⟨f', rfl⟩ : ∃ f', f = f' + 1 := ⟨f - 1, by trivial⟩
    refine ⟨f', by trivial, ?_⟩
    rw [grm_next em, List.length_map] at ef
    rw [ezs]
    exact ef
end
end K38
set_option Elab.async false
set_option linter.all false
set_option maxRecDepth 100000
set_option maxHeartbeats 4000000
namespace K38
open PySem L2 PySem.W PH
section
variable {P : Program} {w : World} {K : PySem.W.Frag} {mg : Str → Option Value} {base : Heap}
theorem sc_cellat : FnScope ["script", "k"] ["script", "k"] (defScope s_cellat) := ⟨rfl, rfl, rfl, by decide +kernel, rfl, by decide +kernel, by decide +kernel⟩
theorem ok_cellat {f : Addr} {fd : FuncData} (F : Fun K "_law_cell_at" "_law_cell_at" s_cellat f fd) (B : Bls mg) : FnOk P w K mg base (CXW P w) 1 f fd ["script", "k"] (spCellAt K) := by
  refine F.okN sc_cellat (fun vs H Q E h => ?_) (fun cdv A outer s H vs Q E hr h => ?_)
  · obtain ⟨a, ns, k, rfl, _⟩ := h
    rfl
  · obtain ⟨a, ns, k, rfl, hS, hQ⟩ := h
    refine ⟨_, (pss_cons (ps_if (pt_cmpR op_lt (pv 1) (pe_callB call_len_seq rfl B.len PySem.boot_len (pa_cons (pv 0) pa_nil)) (nomark _))
        (pss_one (ps_ret (pe_ix ix_list (pv 0) (pv 1) (fun _ _ => rfl))))
        pss_nil)
      (pss_one (ps_ret pe_int))), ?_⟩
    refine ⟨_, rfl, _, rfl, a, _, rfl, .inl hS, _, _, rfl, rfl, _, rfl, ?_⟩
    refine ite2 (fun c => ?_) (fun c => ?_)
    · have hlt : k < ns.length := by
        have := of_decide_eq_true c
        rw [List.length_map] at this
        trivial
      obtain ⟨x, hx⟩ : ∃ x, ns[k]? = some x := ⟨_, List.getElem?_eq_getElem hlt⟩
      refine ⟨_, rfl, _, rfl, a, _, _, .int x, rfl, rfl, hS, at_intsZ hx, ?_⟩
      exact hQ x
    · exact hQ 0
theorem sc_stir : FnScope ["cell", "k", "number"] ["cell", "k"] (defScope s_stir) := ⟨rfl, rfl, rfl, by decide +kernel, rfl, by decide +kernel, by decide +kernel⟩
theorem ok_stir {f : Addr} {fd : FuncData} (F : Fun K "_law_stir" "_law_stir" s_stir f fd) (B : Bls mg) : FnOk P w K mg base (CXW P w) 1 f fd ["cell", "k"] (spStir) := by
  refine F.okN sc_stir (fun vs H Q E h => ?_) (fun cdv A outer s H vs Q E hr h => ?_)
  · obtain ⟨c, k, rfl, _⟩ := h
    rfl
  · obtain ⟨c, k, rfl, hk, hQ⟩ := h
    refine ⟨_, (pss_cons (ps_set (i := 2) sc_stir.nd rfl (Or.inl rfl) (pe_op op_mod (pe_op op_add (pe_op op_add (pe_op op_mul (pe_op op_mod (pv 0) (pe_op op_pow pe_int pe_int)) pe_int) (pe_op op_mul pe_int (pv 1))) pe_int) pe_int))
      (pss_cons (ps_set (i := 2) sc_stir.nd rfl (Or.inl rfl) (pe_op op_mod (pe_op op_add (pe_op op_mul (pv 2) (pv 2)) (pe_op op_mul pe_int (pv 2))) pe_int))
      (pss_one (ps_ret (pe_op op_add (pe_op op_mod (pe_op op_mul (pv 2) (pv 2)) pe_int) (pv 2)))))), ?_⟩
    refine ⟨_, rfl, _, _, rfl, rfl, ⟨by decide, by decide, by decide⟩, _, _, rfl, rfl, (by show (0 : Int) < 10 ^ (15 : Int).toNat; decide), _, _, rfl, rfl, .inr ⟨by decide, by decide⟩, _, rfl, _, _, rfl, rfl, .inl ⟨by decide, by decide⟩, _, _, rfl, rfl, _, _, rfl, rfl, _, _, rfl, rfl, (by show (0 : Int) < 2147483647; decide), ?_⟩
    obtain ⟨m1, e1, b10, b11⟩ : ∃ m1 : Int, m1 = (c % 10 ^ (15 : Int).toNat * 48271 + 104729 * (k : Int) + 7) % 2147483647 ∧ 0 ≤ m1 ∧ m1 < 2147483647 := ⟨_, rfl, Int.emod_nonneg _ (by decide), Int.emod_lt_of_pos _ (by decide)⟩
    refine gNz (v' := V.int m1) (by rw [e1]) ?_
    refine ⟨_, rfl, _, rfl, _, _, rfl, rfl, .inl ⟨?_, ?_⟩, _, rfl, _, _, rfl, rfl, .inl ⟨by decide, by decide⟩, _, _, rfl, rfl, _, _, rfl, rfl, (by show (0 : Int) < 2147483629; decide), ?_⟩
    · show -(2 ^ 64) < m1
      trivial
    · show m1 < 2 ^ 64
      trivial
    obtain ⟨m2, e2, b20, b21⟩ : ∃ m2 : Int, m2 = (m1 * m1 + 7919 * m1) % 2147483629 ∧ 0 ≤ m2 ∧ m2 < 2147483629 := ⟨_, rfl, Int.emod_nonneg _ (by decide), Int.emod_lt_of_pos _ (by decide)⟩
    refine gNz (v' := V.int m2) (by rw [e2]) ?_
    refine ⟨_, rfl, _, rfl, _, _, rfl, rfl, .inl ⟨?_, ?_⟩, _, _, rfl, rfl, (by show (0 : Int) < 2147483587; decide), _, rfl, _, _, rfl, rfl, ?_⟩
    · show -(2 ^ 64) < m2
      trivial
    · show m2 < 2 ^ 64
      trivial
    have h := Int.emod_nonneg (m2 * m2) (show (2147483587 : Int) ≠ 0 by decide)
    exact hQ _ (by trivial)
end
end K38
set_option Elab.async false
set_option linter.all false
set_option maxRecDepth 100000
set_option maxHeartbeats 4000000
namespace K38
open PySem L2 PySem.W PH
section
variable {P : Program} {w : World} {K : PySem.W.Frag} {mg : Str → Option Value} {base : Heap}
theorem sc_text : FnScope ["script", "most", "first", "base", "found", "cell", "k", "number", "back", "j"] ["script", "most"] (defScope s_text) := ⟨rfl, rfl, rfl, by decide +kernel, rfl, by decide +kernel, by decide +kernel⟩
theorem ok_text {f f_cellat f_stir : Addr} {fd d_cellat d_stir : FuncData} (F : Fun K "_law_text" "_law_text" s_text f fd) (B : Bls mg) 
    (G_cellat : FnOk P w K mg base (CXW P w) 1 f_cellat d_cellat ["script", "k"] (spCellAt K)) (b_cellat : Binds K d_cellat ["script", "k"] []) (k_cellat : keepIn K (.ref f_cellat) = true) (m_cellat : mg "_law_cell_at" = some (.ref f_cellat)) 
    (G_stir : FnOk P w K mg base (CXW P w) 1 f_stir d_stir ["cell", "k"] (spStir)) (b_stir : Binds K d_stir ["cell", "k"] []) (k_stir : keepIn K (.ref f_stir) = true) (m_stir : mg "_law_stir" = some (.ref f_stir)) : FnOk P w K mg base (CXW P w) 2 f fd ["script", "most"] (spTextS K) := by
  refine F.okN sc_text (fun vs H Q E h => ?_) (fun cdv A outer s H vs Q E hr h => ?_)
  · obtain ⟨a, ns, most, rfl, _⟩ := h
    rfl
  · obtain ⟨a, ns, most, rfl, hS, h63, hm0, hm4, hQ⟩ := h
    refine ⟨_, (pss_cons (ps_set (i := 2) sc_text.nd rfl (Or.inl rfl) (pe_call G_cellat hr rfl m_cellat k_cellat b_cellat .nil passN (pa_cons (pv 0) (pa_cons pe_int pa_nil))))
      (pss_cons (ps_set (i := 3) sc_text.nd rfl (Or.inl rfl) (pe_ix ix_list (pe_lst (pa_cons pe_int (pa_cons pe_int (pa_cons pe_int (pa_cons pe_int pa_nil))))) (pe_op op_mod (pe_op op_fdiv (pv 2) pe_int) pe_int) (fun _ _ => rfl)))
      (pss_cons (ps_set (i := 4) sc_text.nd rfl (Or.inl rfl) (pe_lst pa_nil))
      (pss_cons (ps_if (pt_cmpR op_eq (pe_op op_mod (pv 2) pe_int) pe_int (nomark _))
        (pss_cons (ps_set (i := 5) sc_text.nd rfl (Or.inl rfl) (pe_call G_cellat hr rfl m_cellat k_cellat b_cellat .nil passN (pa_cons (pv 0) (pa_cons pe_int pa_nil))))
        (pss_cons (ps_for PassesOwn.never rfl (pi_range1 rfl B.range (pa_cons (pe_op op_mod (pe_op op_fdiv (pv 2) pe_int) pe_int) pa_nil)) (pg_name (i := 6) sc_text.nd rfl (Or.inl rfl))
          (pss_cons (ps_expr (pe_bm PySem.F.plainAttrs_list PySem.F.slot_list_append PySem.F.type_list_append mt_append (pv 4) (pa_cons (pe_op op_mod (pv 5) (pv 3)) pa_nil)))
          (pss_one (ps_set (i := 5) sc_text.nd rfl (Or.inl rfl) (pe_op op_fdiv (pv 5) (pv 3))))))
        (pss_one (ps_ret (pv 4)))))
        pss_nil)
      (pss_cons (ps_for PassesOwn.never rfl (pi_range2 rfl B.range (pa_cons pe_int (pa_cons (pe_callB (call_min2 rfl) rfl B.min boot_min' (pa_cons (pe_callB call_len_seq rfl B.len PySem.boot_len (pa_cons (pv 0) pa_nil)) (pa_cons pe_int pa_nil))) pa_nil))) (pg_name (i := 6) sc_text.nd rfl (Or.inl rfl))
        (pss_cons (ps_set (i := 7) sc_text.nd rfl (Or.inl rfl) (pe_call G_stir hr rfl m_stir k_stir b_stir .nil passN (pa_cons (pe_ix ix_list (pv 0) (pv 6) (fun _ _ => rfl)) (pa_cons (pv 6) pa_nil))))
        (pss_one (ps_if (PW.pt (pw_and (pt_cmpR (op_neL (units_of hr)) (pv 4) (pe_lst pa_nil) (nomark _)) (pw_and1 (pt_cmpR op_gt (pe_op op_mod (pv 7) pe_int) pe_int (nomark _)))))
          (pss_cons (ps_set (i := 8) sc_text.nd rfl (Or.inl rfl) (pe_op op_add pe_int (pe_op op_mod (pe_op op_fdiv (pv 7) pe_int) (pe_callB call_len_seq rfl B.len PySem.boot_len (pa_cons (pv 4) pa_nil)))))
          (pss_one (ps_for PassesOwn.never rfl (pi_range1 rfl B.range (pa_cons (pe_op op_add pe_int (pe_op op_mod (pe_op op_fdiv (pv 7) pe_int) (pe_ix ix_list (pe_lst (pa_cons pe_int (pa_cons pe_int (pa_cons pe_int pa_nil)))) (pe_op op_mod (pe_op op_fdiv (pv 7) pe_int) pe_int) (fun _ _ => rfl)))) pa_nil)) (pg_name (i := 9) sc_text.nd rfl (Or.inl rfl))
            (pss_one (ps_expr (pe_bm PySem.F.plainAttrs_list PySem.F.slot_list_append PySem.F.type_list_append mt_append (pv 4) (pa_cons (pe_ix ix_list (pv 4) (pe_op op_sub pe_int (pv 8)) (fun _ _ => rfl)) pa_nil)))))))
          (pss_one (ps_expr (pe_bm PySem.F.plainAttrs_list PySem.F.slot_list_append PySem.F.type_list_append mt_append (pv 4) (pa_cons (pe_op op_mod (pe_op op_fdiv (pv 7) pe_int) (pv 3)) pa_nil))))))))
      (pss_one (ps_ret (pe_slice sl_list (pv 4) po_none (po_some (pv 1)))))))))), ?_⟩
    refine ⟨_, rfl, a, ns, 0, rfl, hS, fun x => ?_⟩
    obtain ⟨bs, hbs, bs0, bs1⟩ : ∃ bs : Int, atI [V.int 2, V.int 3, V.int 16, V.int 256] (x / 2 % 4) = some (.int bs) ∧ 0 < bs ∧ bs ≤ 256 := by
      have hr : x / 2 % 4 = 0 ∨ x / 2 % 4 = 1 ∨ x / 2 % 4 = 2 ∨ x / 2 % 4 = 3 := by trivial
      rcases hr with h | h | h | h <;> rw [h] <;> exact ⟨_, rfl, by decide, by decide⟩
    refine ⟨(by show 4 ≤ sizeLine; decide), fun l1 hl1 => ?_⟩
    have s1 := same_new hl1 (.lst [V.int 2, V.int 3, V.int 16, V.int 256])
    refine ⟨_, rfl, _, _, rfl, rfl, ⟨by decide, by decide⟩, _, _, rfl, rfl, (by show (0 : Int) < 4; decide), l1, _, _, _, rfl, rfl, SqL.of upd_same, hbs, ?_⟩
    refine ⟨(by show 0 ≤ sizeLine; decide), fun F hF => ?_⟩
    have s2 := s1.trans (same_new hF (.lst []))
    have hFH : H F = none := s1.free hF
    have hF2 : upd (upd H l1 (.lst [V.int 2, V.int 3, V.int 16, V.int 256])) F (.lst []) F = some (lsI []) := upd_same
    generalize upd (upd H l1 (.lst [V.int 2, V.int 3, V.int 16, V.int 256])) F (.lst []) = H2 at s2 hF2 ⊢
    refine ⟨_, rfl, _, _, rfl, rfl, (by show (0 : Int) < 2; decide), rfl, _, rfl, ?_⟩
    refine ite2 (fun _ => ?_) (fun _ => ?_)
    · refine ⟨_, rfl, a, ns, 1, rfl, s2.seq hS, fun c0 => ?_⟩
      obtain ⟨m, hm, hm6⟩ : ∃ m : Nat, x / 8 % 61 = (m : Int) ∧ m ≤ 60 := ⟨(x / 8 % 61).toNat, by trivial, by trivial⟩
      refine ⟨_, rfl, _, _, rfl, rfl, ⟨by decide, by decide⟩, _, _, rfl, rfl, (by show (0 : Int) < 61; decide), (m : Int), congrArg (fun y => [V.int y]) hm, by trivial, by trivial, ?_⟩
      rw [Int.toNat_natCast]
      refine for_range (n := m) (fun i σ H' => ∃ (c : Int) (fs : List Int) (v6 : Option V), σ = [some (.ref a), some (.int (most : Int)), some (.int x), some (.int bs), some (.ref F), some (.int c), v6, none, none, none] ∧ H' F = some (lsI fs) ∧ fs.length = i ∧ (∀ y ∈ fs, 0 ≤ y ∧ y ≤ 255) ∧ Same H H')
        ⟨c0, [], none, rfl, hF2, rfl, (fun _ z => by cases z), s2⟩ ?_ ?_
      · rintro i σ H' hi ⟨c, fs, v6, rfl, hF', hfl, hsg, sm⟩
        refine ⟨_, rfl, .inl ⟨rfl, _, SqL.of hF'⟩, _, rfl, _, rfl, _, _, rfl, rfl, bs0, F, _, _, rfl, rfl, hF', fits_lt (by rw [List.length_map]; trivial), ?_⟩
        refine ⟨_, rfl, _, rfl, _, _, rfl, rfl, ⟨bs0, by trivial⟩, ?_⟩
        exact ⟨_, fs ++ [c % bs], _, rfl, by rw [upd_same, lsI_app1], by rw [List.length_append, hfl]; rfl, sgs_app hsg (Int.emod_nonneg _ (by trivial)) (by have := Int.emod_lt_of_pos c bs0; trivial), same_upd sm _ hFH⟩
      · rintro σ H' ⟨c, fs, v6, rfl, hF', hfl, hsg, sm⟩
        refine ⟨_, rfl, ?_⟩
        exact hQ F fs H' sm hFH hF' (by trivial) hsg
    · obtain ⟨hi0, ehi, hh0, hh1, hh2⟩ : ∃ hi : Int, hi = (if (63 : Int) < ((ns.map V.int).length : Int) then 63 else ((ns.map V.int).length : Int)) ∧ 0 ≤ hi ∧ hi ≤ 63 ∧ hi ≤ ns.length := by
        refine ⟨_, rfl, ?_⟩
        rw [List.length_map]
        split <;> trivial
      refine ⟨_, rfl, a, _, rfl, .inl (s2.seq hS), _, _, rfl, 1, hi0, by rw [ehi], ⟨by trivial, by trivial, by trivial, by trivial⟩, ?_⟩
      refine for_range (n := (hi0 - 1).toNat) (fun i σ H' => ∃ (fs : List Int) (v6 v7 v8 v9 : Option V), σ = [some (.ref a), some (.int (most : Int)), some (.int x), some (.int bs), some (.ref F), none, v6, v7, v8, v9] ∧ H' F = some (lsI fs) ∧ fs.length ≤ 60 * i ∧ (∀ y ∈ fs, 0 ≤ y ∧ y ≤ 255) ∧ Same H H')
        ⟨[], none, none, none, none, rfl, hF2, Nat.le_refl _, (fun _ z => by cases z), s2⟩ ?_ ?_
      · rintro i σ H' hi ⟨fs, v6, v7, v8, v9, rfl, hF', hfl, hsg, sm⟩
        rw [show (1 : Int) + (i : Int) = ((i + 1 : Nat) : Int) by trivial]
        have hil : i + 1 < ns.length := by trivial
        obtain ⟨c, hc⟩ : ∃ c, ns[i + 1]? = some c := ⟨_, List.getElem?_eq_getElem hil⟩
        refine ⟨_, rfl, _, rfl, a, _, _, .int c, rfl, rfl, sm.seq hS, at_intsZ hc, _, rfl, c, i + 1, rfl, by trivial, fun nu nu0 => ?_⟩
        refine ⟨_, rfl, (by show 0 ≤ sizeLine; decide), fun e he => ?_⟩
        have se := same_new he (.lst [])
        refine ⟨F, e, fs, [], rfl, rfl, SqL.of (se _ _ hF'), SqL.of upd_same, _, rfl, ?_⟩
        have hFe := se _ _ hF'
        have sme := sm.trans se
        generalize upd H' e (.lst []) = H3 at se hFe sme ⊢
        by_cases hne : fs = []
        · rw [decide_eq_true hne]
          refine iteF (iteF ?_)
          refine ⟨_, rfl, .inl ⟨rfl, _, SqL.of hFe⟩, _, rfl, _, _, rfl, rfl, ⟨by decide, by decide⟩, _, rfl, _, _, rfl, rfl, bs0, F, _, _, rfl, rfl, hFe, fits_lt (by rw [List.length_map]; trivial), ?_⟩
          exact ⟨fs ++ [nu / 3 % bs], _, _, _, _, rfl, by rw [upd_same, lsI_app1], by rw [List.length_append, List.length_singleton]; trivial, sgs_app hsg (Int.emod_nonneg _ (by trivial)) (by have := Int.emod_lt_of_pos (nu / 3) bs0; trivial), same_upd sme _ hFH⟩
        · rw [decide_eq_false hne]
          refine iteT ?_
          have hf0 : 0 < fs.length := List.length_pos_iff.mpr hne
          refine ⟨_, rfl, _, _, rfl, rfl, (by show (0 : Int) < 3; decide), _, _, rfl, rfl, _, rfl, ?_⟩
          refine ite2 (fun _ => ?_) (fun _ => ?_)
          · refine ⟨_, rfl, _, _, rfl, rfl, ⟨by decide, by decide⟩, _, rfl, F, _, rfl, .inl (SqL.of hFe), _, _, rfl, rfl, ?_, _, _, rfl, rfl, ?_⟩
            · show (0 : Int) < ((fs.map V.int).length : Int)
              rw [List.length_map]
              trivial
            obtain ⟨bk, ebk, bk1, bk2⟩ : ∃ bk : Nat, ((bk : Nat) : Int) = 1 + nu / 3 % ((fs.map V.int).length : Int) ∧ 1 ≤ bk ∧ bk ≤ fs.length := by
              have h1 := Int.emod_nonneg (nu / 3) (show ((fs.map V.int).length : Int) ≠ 0 by rw [List.length_map]; trivial)
              have h2 := Int.emod_lt_of_pos (nu / 3) (show 0 < ((fs.map V.int).length : Int) by rw [List.length_map]; trivial)
              rw [List.length_map] at h1 h2 ⊢
              exact ⟨(1 + nu / 3 % (fs.length : Int)).toNat, by trivial, by trivial, by trivial⟩
            refine gNz (v' := V.int (bk : Nat)) (by rw [ebk]) ?_
            obtain ⟨wd, hwd, wd0, wd1⟩ : ∃ wd : Int, atI [V.int 4, V.int 16, V.int 60] (nu / 11 % 3) = some (.int wd) ∧ 0 < wd ∧ wd ≤ 60 := by
              have hr : nu / 11 % 3 = 0 ∨ nu / 11 % 3 = 1 ∨ nu / 11 % 3 = 2 := by trivial
              rcases hr with h | h | h <;> rw [h] <;> exact ⟨_, rfl, by decide, by decide⟩
            refine ⟨_, rfl, _, _, rfl, rfl, ⟨by decide, by decide⟩, (by show 3 ≤ sizeLine; decide), fun l2 hl2 => ?_⟩
            have sl := same_new hl2 (.lst [V.int 4, V.int 16, V.int 60])
            obtain ⟨M, hM, hM6⟩ : ∃ M : Nat, 1 + nu / 30011 % wd = (M : Int) ∧ M ≤ 60 := by
              have h1 := Int.emod_nonneg (nu / 30011) (show wd ≠ 0 by trivial)
              have h2 := Int.emod_lt_of_pos (nu / 30011) wd0
              exact ⟨(1 + nu / 30011 % wd).toNat, by trivial, by trivial⟩
            refine ⟨_, rfl, _, _, rfl, rfl, ⟨by decide, by decide⟩, _, _, rfl, rfl, (by show (0 : Int) < 3; decide), l2, _, _, _, rfl, rfl, SqL.of upd_same, hwd, _, _, rfl, rfl, wd0, _, _, rfl, rfl, (M : Int), congrArg (fun y => [V.int y]) hM, by trivial, by trivial, ?_⟩
            rw [Int.toNat_natCast]
            have hFl := sl _ _ hFe
            have sml := sme.trans sl
            refine for_range (n := M) (fun j σ H' => ∃ (gs : List Int) (v9 : Option V), σ = [some (.ref a), some (.int (most : Int)), some (.int x), some (.int bs), some (.ref F), none, some (.int ((i + 1 : Nat) : Int)), some (.int nu), some (.int (bk : Nat)), v9] ∧ H' F = some (lsI gs) ∧ gs.length = fs.length + j ∧ (∀ y ∈ gs, 0 ≤ y ∧ y ≤ 255) ∧ Same H H')
              ⟨fs, _, rfl, hFl, rfl, hsg, sml⟩ ?_ ?_
            · rintro j σ H4 hj ⟨gs, w9, rfl, hF4, hgl, hgs, sm4⟩
              obtain ⟨y, hy⟩ : ∃ y, gs[gs.length - bk]? = some y := ⟨_, List.getElem?_eq_getElem (by trivial)⟩
              have hat : atI (gs.map V.int) (0 - (bk : Int)) = some (.int y) := atI_neg (d := bk) (by trivial) bk1 (by rw [List.length_map]; trivial) (by rw [List.length_map, List.getElem?_map, hy]; rfl)
              refine ⟨_, rfl, .inl ⟨rfl, _, SqL.of hF4⟩, _, rfl, _, rfl, _, _, rfl, rfl, F, _, _, .int y, rfl, rfl, SqL.of hF4, hat, F, _, _, rfl, rfl, hF4, fits_lt (by rw [List.length_map]; trivial), ?_⟩
              exact ⟨gs ++ [y], _, rfl, by rw [upd_same, lsI_app1], by rw [List.length_append, List.length_singleton]; trivial, sgs_app hgs (hgs y (List.mem_of_getElem? hy)).1 (hgs y (List.mem_of_getElem? hy)).2, same_upd sm4 _ hFH⟩
            · rintro σ H4 ⟨gs, w9, rfl, hF4, hgl, hgs, sm4⟩
              exact ⟨gs, _, _, _, _, rfl, hF4, by trivial, hgs, sm4⟩
          · refine ⟨_, rfl, .inl ⟨rfl, _, SqL.of hFe⟩, _, rfl, _, _, rfl, rfl, ⟨by decide, by decide⟩, _, rfl, _, _, rfl, rfl, bs0, F, _, _, rfl, rfl, hFe, fits_lt (by rw [List.length_map]; trivial), ?_⟩
            exact ⟨fs ++ [nu / 3 % bs], _, _, _, _, rfl, by rw [upd_same, lsI_app1], by rw [List.length_append, List.length_singleton]; trivial, sgs_app hsg (Int.emod_nonneg _ (by trivial)) (by have := Int.emod_lt_of_pos (nu / 3) bs0; trivial), same_upd sme _ hFH⟩
      · rintro σ H' ⟨fs, v6, v7, v8, v9, rfl, hF', hfl, hsg, sm⟩
        refine ⟨_, rfl, _, rfl, _, rfl, F, _, rfl, SqL.of hF', fun T hT => ?_⟩
        rw [cut_to (α := Int)]
        exact hQ T (fs.take most) _ (sm.trans (same_new hT _)) (sm.free hT) upd_same (by rw [List.length_take]; trivial) (fun y hy => hsg y (List.mem_of_mem_take hy))
end
end K38
set_option Elab.async false
set_option linter.all false
set_option maxRecDepth 100000
set_option maxHeartbeats 4000000
namespace K38
open PySem L2 PySem.W PH
section
variable {P : Program} {w : World} {K : PySem.W.Frag} {mg : Str → Option Value} {base : Heap}
theorem sc_putin : FnScope ["rules", "row", "texts", "one", "other", "found", "symbol"] ["rules", "row"] (defScope s_putin) := ⟨rfl, rfl, rfl, by decide +kernel, rfl, by decide +kernel, by decide +kernel⟩
theorem ok_putin {f : Addr} {fd : FuncData} (F : Fun K "_law_put_in" "_law_put_in" s_putin f fd) (B : Bls mg) : FnOk P w K mg base (CXW P w) 1 f fd ["rules", "row"] (spPut) := by
  refine F.okN sc_putin (fun vs H Q E h => ?_) (fun cdv A outer s H vs Q E hr h => ?_)
  · obtain ⟨p, q, zs, row, rfl, _⟩ := h
    rfl
  · obtain ⟨p, q, zs, row, rfl, pr, gr, hq, hrw, hzl, hrl, hbd, hfl, hQ⟩ := h
    refine ⟨_, (pss_cons (ps_setC (iy := 2) (N := ["sign"]) (js := [none]) (g := (gName 0)) (tc := tTrue) (te := (tLst (tCons (tVar 0) tNil))) sc_putin.nd rfl rfl rfl (comp_scope (osc := defScope s_putin) (XN := ["rules", "row", "texts", "one", "other", "found", "symbol"]) rfl rfl rfl (by decide +kernel)) (pi_range1 rfl B.range (pa_cons pe_int pa_nil)) (fun _ _ _ _ => pg_name (i := 0) (show (["sign"] : List Str).Nodup by decide +kernel) rfl (Or.inl rfl)) (fun _ _ _ _ => pif_nil) (fun _ _ _ _ => (pe_lst (pa_cons (pv 0) pa_nil))))
      (pss_cons (ps_for PassesOwn.never rfl (pi_list (pv 0)) (pg_tup rfl (pgs_cons (pg_name (i := 3) sc_putin.nd rfl (Or.inl rfl)) (pgs_cons (pg_name (i := 4) sc_putin.nd rfl (Or.inl rfl)) pgs_nil)))
        (pss_one (ps_expr (pe_bm PySem.F.plainAttrs_list PySem.F.slot_list_append PySem.F.type_list_append mt_append (pv 2) (pa_cons (pe_op op_cat (pe_ix ix_list (pv 2) (pv 3) (fun _ _ => rfl)) (pe_ix ix_list (pv 2) (pv 4) (fun _ _ => rfl))) pa_nil)))))
      (pss_cons (ps_set (i := 5) sc_putin.nd rfl (Or.inl rfl) (pe_lst pa_nil))
      (pss_cons (ps_for PassesOwn.never rfl (pi_list (pv 1)) (pg_name (i := 6) sc_putin.nd rfl (Or.inl rfl))
        (pss_one (ps_set (i := 5) sc_putin.nd rfl (Or.inl rfl) (pe_op op_cat (pv 5) (pe_ix ix_list (pv 2) (pv 6) (fun _ _ => rfl))))))
      (pss_one (ps_ret (pv 5))))))), ?_⟩
    refine ⟨256, rfl, by decide, by decide, fun X hX => ?_⟩
    refine comp_rngQ (fun i σ' H' => ∃ (v0 : Option V) (as : List Addr), σ' = [v0] ∧ as.length = i ∧ Txs H' X as (fun k => [(k : Int)]) ∧ Same H H')
      ⟨none, [], rfl, rfl, ⟨upd_same, fun j a e => by cases e⟩, same_new hX _⟩ ?_ ?_
    · rintro i σ' H' hi ⟨v0, as, rfl, hal, tx, sm⟩
      have hi6 : i < 256 := hi
      rw [Int.zero_add]
      refine nameT ?_
      refine ⟨_, rfl, (by show 1 ≤ sizeLine; decide), fun l hl => ?_⟩
      have hn : l ≠ X := fun e => by rw [e, tx.at_] at hl; cases hl
      have s1 := same_new hl (.lst [V.int (i : Int)])
      have tx1 := tx.same s1
      refine ⟨X, _, _, rfl, rfl, tx1.at_, fits_lt (by rw [List.length_map]; trivial), ?_⟩
      exact CW.next hi ⟨_, as ++ [l], rfl, by rw [List.length_append, hal]; rfl, tx1.app (t := [(i : Int)]) upd_same hn (fun _ _ => rfl) (by rw [hal]), same_upd (sm.trans s1) _ hX⟩
    rintro σ' H1 ⟨v0, as0, rfl, hal0, tx0, sm1⟩
    have hal0' : as0.length = 256 := hal0
    have tx0' : Txs H1 X as0 (ex (rn (zs.take 0))) := ⟨tx0.at_, fun j a e => ⟨(tx0.each j a e).1, by rw [ex_low (by have := (List.getElem?_eq_some_iff.mp e).1; trivial)]; exact (tx0.each j a e).2⟩⟩
    refine ⟨_, rfl, p, rfl, ⟨_, SqL.of (sm1 _ _ pr.at_)⟩, for_list (K := K) (a := p) (xs := zs.map fun z => V.ref z.1) (fun i σ H' => ∃ (v3 v4 : Option V) (as : List Addr), σ = [some (.ref p), some (.ref q), some (.ref X), v3, v4, none, none] ∧ as.length = 256 + i ∧ Txs H' X as (ex (rn (zs.take i))) ∧ Same H H')
      ⟨none, none, as0, rfl, by trivial, tx0', sm1⟩ (fun i σ H' _ ⟨_, _, _, _, _, _, e⟩ => SqL.of (e _ _ pr.at_)) ?_ ?_⟩
    · rintro i y σ H2 hi ⟨v3, v4, as, rfl, hal, tx, sm⟩
      obtain ⟨z, hz, rfl⟩ := ref_at hi
      have hil : i < zs.length := (List.getElem?_eq_some_iff.mp hz).1
      have hg := gr i z hz
      have hl : (rn (zs.take i)).length = i := by rw [rn_len, List.length_take]; trivial
      obtain ⟨a1, ha1⟩ : ∃ a, as[z.2.1.toNat]? = some a := ⟨_, List.getElem?_eq_getElem (by trivial)⟩
      obtain ⟨a2, ha2⟩ : ∃ a, as[z.2.2.toNat]? = some a := ⟨_, List.getElem?_eq_getElem (by trivial)⟩
      have epre : ∀ k, k < 256 + i → ex (rn zs) k = ex (rn (zs.take i)) k := fun k hk => by
        have e : rn zs = rn (zs.take i) ++ rn (zs.drop i) := by unfold rn; rw [← List.map_append, List.take_append_drop]
        rw [e, ex_pre (by trivial)]
      have b1 := hbd z.2.1.toNat (by trivial)
      have b2 := hbd z.2.2.toNat (by trivial)
      rw [epre _ (by trivial)] at b1 b2
      refine ⟨z.1, _, rfl, SqT.of (sm _ _ (pr.each z (List.mem_of_getElem? hz))), rfl, _, _, rfl, _, _, rfl, rfl, ?_⟩
      refine ⟨_, rfl, .inl ⟨rfl, _, SqL.of tx.at_⟩, _, rfl, _, rfl, X, _, ((z.2.1.toNat : Nat) : Int), _, rfl, congrArg V.int (by trivial), SqL.of tx.at_, at_refsA ha1, _, rfl, _, rfl, X, _, ((z.2.2.toNat : Nat) : Int), _, rfl, congrArg V.int (by trivial), SqL.of tx.at_, at_refsA ha2, a1, a2, _, _, rfl, rfl, (tx.each _ _ ha1).2, (tx.each _ _ ha2).2, fits (by rw [List.length_map, List.length_map]; trivial), fun l hl2 => ?_⟩
      have hn : l ≠ X := fun e => by rw [e, tx.at_] at hl2; cases hl2
      have s1 := same_new hl2 (.lst ((ex (rn (zs.take i)) z.2.1.toNat).map V.int ++ (ex (rn (zs.take i)) z.2.2.toNat).map V.int))
      have tx1 := tx.same s1
      refine ⟨X, _, _, rfl, rfl, tx1.at_, fits_lt (by rw [List.length_map]; trivial), ?_⟩
      have er : rn (zs.take (i + 1)) = rn (zs.take i) ++ [(z.2.1.toNat, z.2.2.toNat)] := by rw [take_at hz]; unfold rn; rw [List.map_append]; rfl
      refine ⟨_, _, as ++ [l], rfl, by rw [List.length_append, hal]; rfl, tx1.app (t := ex (rn (zs.take i)) z.2.1.toNat ++ ex (rn (zs.take i)) z.2.2.toNat) (by rw [upd_same]; unfold lsI; rw [List.map_append]) hn (fun j hj => by rw [er, ex_pre (by trivial)]) ?_, same_upd (sm.trans s1) _ hX⟩
      have := ex_new (rn (zs.take i)) (z.2.1.toNat, z.2.2.toNat)
      rw [hl] at this
      rw [hal, er]
      exact this
    rintro σ H2 ⟨v3, v4, as, rfl, hal, tx, sm⟩
    rw [List.length_map] at hal
    rw [List.length_map, List.take_length] at tx
    refine ⟨(by show 0 ≤ sizeLine; decide), fun F0 hF0 => ?_⟩
    have s1 := same_new hF0 (.lst [])
    have tx2 := tx.same s1
    have sm2 := sm.trans s1
    refine ⟨_, rfl, q, rfl, ⟨_, SqL.of (sm2 _ _ hq)⟩, for_list (K := K) (a := q) (xs := row.map V.int) (fun i σ H' => ∃ (v6 : Option V) (F : Addr), σ = [some (.ref p), some (.ref q), some (.ref X), v3, v4, some (.ref F), v6] ∧ H F = none ∧ H' F = some (lsI (exs (rn zs) (rwN (row.take i)))) ∧ Txs H' X as (ex (rn zs)) ∧ Same H H')
      ⟨none, F0, rfl, sm.free hF0, upd_same, tx2, sm2⟩ (fun i σ H' _ ⟨_, _, _, _, _, _, e⟩ => SqL.of (e _ _ hq)) ?_ ?_⟩
    · rintro i y σ H3 hi ⟨v6, F, rfl, hFH, hF3, tx3, sm3⟩
      obtain ⟨z, rfl, hz⟩ := int_at hi
      have hb := hrw.at hz
      obtain ⟨a1, ha1⟩ : ∃ a, as[z.toNat]? = some a := ⟨_, List.getElem?_eq_getElem (by trivial)⟩
      have b1 := hbd z.toNat (by trivial)
      have b2 := exs_pre_len (rs := rn zs) (row := row) i
      refine ⟨_, rfl, _, rfl, _, rfl, X, _, ((z.toNat : Nat) : Int), _, rfl, congrArg V.int (by trivial), SqL.of tx3.at_, at_refsA ha1, F, a1, _, _, rfl, rfl, hF3, (tx3.each _ _ ha1).2, fits (by rw [List.length_map, List.length_map]; trivial), fun l hl2 => ?_⟩
      have s4 := same_new hl2 (.lst ((exs (rn zs) (rwN (row.take i))).map V.int ++ (ex (rn zs) z.toNat).map V.int))
      exact ⟨_, l, rfl, sm3.free hl2, by rw [upd_same, exs_take hz]; unfold lsI; rw [List.map_append], tx3.same s4, sm3.trans s4⟩
    · rintro σ H3 ⟨v6, F, rfl, hFH, hF3, tx3, sm3⟩
      rw [List.length_map, List.take_length] at hF3
      refine ⟨_, rfl, ?_⟩
      exact hQ F H3 sm3 hFH hF3
end
end K38
set_option Elab.async false
set_option linter.all false
set_option maxRecDepth 100000
set_option maxHeartbeats 4000000
namespace K38
open PySem L2 PySem.W PH
section
variable {P : Program} {w : World} {K : PySem.W.Frag} {mg : Str → Option Value} {base : Heap}
theorem sc_symb : FnScope ["some", "many", "symbol"] ["some", "many"] (defScope s_symb) := ⟨rfl, rfl, rfl, by decide +kernel, rfl, by decide +kernel, by decide +kernel⟩
theorem ok_symb {f : Addr} {fd : FuncData} (F : Fun K "_law_symbols" "_law_symbols" s_symb f fd) (B : Bls mg) : FnOk P w K mg base (CXW P w) 1 f fd ["some", "many"] (spSym38 K) := by
  refine F.okN sc_symb (fun vs H Q E h => ?_) (fun cdv A outer s H vs Q E hr h => ?_)
  · obtain ⟨p, ns, m, rfl, _⟩ := h
    rfl
  · obtain ⟨p, ns, m, rfl, hS, hrz, hQ⟩ := h
    refine ⟨_, (pss_cons (ps_for PassesOwn.never rfl (pi_or (pi_list (pv 0)) (pi_tup (pv 0))) (pg_name (i := 2) sc_symb.nd rfl (Or.inl rfl))
        (pss_one (ps_if (PW.pt (pw_or (pt_not (pt_val (pe_callB (r := rIsi K) call_isi rfl B.isi boot_isi (pa_cons (pv 2) (pa_cons (pe_bltn (v := .ty "int") rfl B.int boot_int' rfl) pa_nil))))) (pw_or (pt_val (pe_callB (r := rIsi K) call_isi rfl B.isi boot_isi (pa_cons (pv 2) (pa_cons (pe_bltn (v := .ty "bool") rfl B.bool boot_bool' rfl) pa_nil)))) (pw_or (pt_cmpR op_lt (pv 2) pe_int (nomark _)) (pw_or1 (pt_cmpR op_ge (pv 2) (pe_op op_add pe_int (pv 1)) (nomark _)))))))
          (pss_one (ps_ret pe_bl))
          pss_nil)))
      (pss_one (ps_ret pe_bl))), ?_⟩
    rcases hS with hS | hS
    · skip
      refine .inl ⟨_, rfl, p, rfl, ⟨_, hS⟩, for_list (K := K) (a := p) (xs := ns.map V.int) (fun i σ H' => ∃ v2 : Option V, σ = [some (.ref p), some (.int m), v2] ∧ H' = H)
        ⟨none, rfl, rfl⟩ (fun i σ H' _ ⟨_, _, e⟩ => by rw [e]; exact hS) ?_ ?_⟩
      · rintro i y σ H' hi ⟨v2, rfl, rfl⟩
        obtain ⟨z, rfl, hz⟩ := int_at hi
        have hb := hrz z (List.mem_of_getElem? hz)
        refine ⟨_, rfl, _, _, _, _, true, rfl, .of (.int _), rfl, kit_refl _ _, _, rfl, ?_⟩
        refine iteF ?_
        refine ⟨_, rfl, _, _, _, _, false, rfl, .of (.int _), rfl, kit_ib _, _, rfl, ?_⟩
        refine iteF ?_
        refine ⟨_, rfl, _, _, rfl, rfl, _, rfl, ?_⟩
        rw [decide_eq_false (show ¬ z < 0 by trivial)]
        refine iteF ?_
        refine ⟨_, rfl, _, rfl, _, _, rfl, rfl, _, _, rfl, rfl, _, rfl, ?_⟩
        rw [decide_eq_false (show ¬ 256 + m ≤ z by trivial)]
        refine iteF ?_
        exact ⟨_, rfl, rfl⟩
      · rintro σ H' ⟨v2, rfl, rfl⟩
        exact hQ _ (Same.refl _)
    · skip
      refine .inr ⟨_, rfl, p, rfl, ⟨_, hS⟩, for_tup (K := K) (a := p) (xs := ns.map V.int) (fun i σ H' => ∃ v2 : Option V, σ = [some (.ref p), some (.int m), v2] ∧ H' = H)
        ⟨none, rfl, rfl⟩ (fun i σ H' _ ⟨_, _, e⟩ => by rw [e]; exact hS) ?_ ?_⟩
      · rintro i y σ H' hi ⟨v2, rfl, rfl⟩
        obtain ⟨z, rfl, hz⟩ := int_at hi
        have hb := hrz z (List.mem_of_getElem? hz)
        refine ⟨_, rfl, _, _, _, _, true, rfl, .of (.int _), rfl, kit_refl _ _, _, rfl, ?_⟩
        refine iteF ?_
        refine ⟨_, rfl, _, _, _, _, false, rfl, .of (.int _), rfl, kit_ib _, _, rfl, ?_⟩
        refine iteF ?_
        refine ⟨_, rfl, _, _, rfl, rfl, _, rfl, ?_⟩
        rw [decide_eq_false (show ¬ z < 0 by trivial)]
        refine iteF ?_
        refine ⟨_, rfl, _, rfl, _, _, rfl, rfl, _, _, rfl, rfl, _, rfl, ?_⟩
        rw [decide_eq_false (show ¬ 256 + m ≤ z by trivial)]
        refine iteF ?_
        exact ⟨_, rfl, rfl⟩
      · rintro σ H' ⟨v2, rfl, rfl⟩
        exact hQ _ (Same.refl _)
end
end K38
set_option Elab.async false
set_option linter.all false
set_option maxRecDepth 100000
set_option maxHeartbeats 4000000
namespace K38
open PySem L2 PySem.W PH
section
variable {P : Program} {w : World} {K : PySem.W.Frag} {mg : Str → Option Value} {base : Heap}
theorem sc_form : FnScope ["found", "k", "rule"] ["found"] (defScope s_form) := ⟨rfl, rfl, rfl, by decide +kernel, rfl, by decide +kernel, by decide +kernel⟩
theorem ok_form {f f_symb : Addr} {fd d_symb : FuncData} (F : Fun K "_law_formed" "_law_formed" s_form f fd) (B : Bls mg) 
    (G_symb : FnOk P w K mg base (CXW P w) 1 f_symb d_symb ["some", "many"] (spSym38 K)) (b_symb : Binds K d_symb ["some", "many"] []) (k_symb : keepIn K (.ref f_symb) = true) (m_symb : mg "_law_symbols" = some (.ref f_symb)) : FnOk P w K mg base (CXW P w) 2 f fd ["found"] (spForm38) := by
  refine F.okN sc_form (fun vs H Q E h => ?_) (fun cdv A outer s H vs Q E hr h => ?_)
  · obtain ⟨R, P, W, zs, row, rfl, _⟩ := h
    rfl
  · obtain ⟨R, P, W, zs, row, rfl, hR, pr, gr, hW, rz, hl, hQ⟩ := h
    refine ⟨_, (pss_cons (ps_if (PW.pt (pw_or (pt_not (pt_val (pe_callB (r := rIsi K) call_isi rfl B.isi boot_isi (pa_cons (pv 0) (pa_cons (pe_bltn (v := .ty "tuple") rfl B.tuple boot_tuple' rfl) pa_nil))))) (pw_or1 (pt_cmpR op_ne (pe_callB call_len_seq rfl B.len PySem.boot_len (pa_cons (pv 0) pa_nil)) pe_int (nomark _)))))
        (pss_one (ps_ret pe_bl))
        pss_nil)
      (pss_cons (ps_if (PW.pt (pw_or (pt_not (pt_val (pe_callB (r := rIsi K) call_isi rfl B.isi boot_isi (pa_cons (pe_ix ix_tup (pv 0) pe_int (fun _ _ => rfl)) (pa_cons (pe_bltn (v := .ty "list") rfl B.list boot_list' rfl) pa_nil))))) (pw_or1 (pt_not (pt_val (pe_callB (r := rIsi K) call_isi rfl B.isi boot_isi (pa_cons (pe_ix ix_tup (pv 0) pe_int (fun _ _ => rfl)) (pa_cons (pe_bltn (v := .ty "list") rfl B.list boot_list' rfl) pa_nil))))))))
        (pss_one (ps_ret pe_bl))
        pss_nil)
      (pss_cons (ps_for PassesOwn.never rfl (pi_range1 rfl B.range (pa_cons (pe_callB call_len_seq rfl B.len PySem.boot_len (pa_cons (pe_ix ix_tup (pv 0) pe_int (fun _ _ => rfl)) pa_nil)) pa_nil)) (pg_name (i := 1) sc_form.nd rfl (Or.inl rfl))
        (pss_cons (ps_set (i := 2) sc_form.nd rfl (Or.inl rfl) (pe_ix ix_list (pe_ix ix_tup (pv 0) pe_int (fun _ _ => rfl)) (pv 1) (fun _ _ => rfl)))
        (pss_one (ps_if (PW.pt (pw_or (pt_not (pt_val (pe_callB (r := rIsi K) call_isi rfl B.isi boot_isi (pa_cons (pv 2) (pa_cons (pe_bltn (v := .ty "tuple") rfl B.tuple boot_tuple' rfl) pa_nil))))) (pw_or (pt_cmpR op_ne (pe_callB call_len_seq rfl B.len PySem.boot_len (pa_cons (pv 2) pa_nil)) pe_int (nomark _)) (pw_or1 (pt_not (pt_val (pe_call G_symb hr rfl m_symb k_symb b_symb .nil passN (pa_cons (pv 2) (pa_cons (pv 1) pa_nil)))))))))
          (pss_one (ps_ret pe_bl))
          pss_nil))))
      (pss_one (ps_ret (pe_call G_symb hr rfl m_symb k_symb b_symb .nil passN (pa_cons (pe_ix ix_tup (pv 0) pe_int (fun _ _ => rfl)) (pa_cons (pe_callB call_len_seq rfl B.len PySem.boot_len (pa_cons (pe_ix ix_tup (pv 0) pe_int (fun _ _ => rfl)) pa_nil)) pa_nil)))))))), ?_⟩
    refine ⟨_, rfl, _, _, _, _, true, rfl, .of (.tup hR), rfl, kit_refl _ _, _, rfl, ?_⟩
    refine iteF ?_
    refine ⟨_, rfl, R, _, rfl, .inr (SqT.of hR), rfl, _, rfl, ?_⟩
    refine iteNS rfl ?_
    refine ⟨_, rfl, R, _, 0, _, rfl, rfl, SqT.of hR, rfl, _, _, _, _, true, rfl, .of (.lst pr.at_), rfl, kit_refl _ _, _, rfl, ?_⟩
    refine iteF ?_
    refine ⟨_, rfl, R, _, 1, _, rfl, rfl, SqT.of hR, rfl, _, _, _, _, true, rfl, .of (.lst hW), rfl, kit_refl _ _, _, rfl, ?_⟩
    refine iteF ?_
    refine ⟨_, rfl, R, _, 0, _, rfl, rfl, SqT.of hR, rfl, P, _, rfl, .inl (SqL.of pr.at_), ((zs.length : Nat) : Int), by rw [List.length_map], by trivial, by trivial, ?_⟩
    rw [Int.toNat_natCast]
    refine for_range (n := zs.length) (fun i σ H' => ∃ v1 v2 : Option V, σ = [some (.ref R), v1, v2] ∧ Same H H')
      ⟨none, none, rfl, Same.refl _⟩ ?_ ?_
    · rintro i σ H' hi ⟨v1, v2, rfl, sm⟩
      rw [Int.zero_add]
      obtain ⟨z, hz⟩ : ∃ z, zs[i]? = some z := ⟨_, List.getElem?_eq_getElem hi⟩
      have hg := gr i z hz
      have hzt := sm _ _ (pr.each z (List.mem_of_getElem? hz))
      refine ⟨_, rfl, R, _, 0, _, rfl, rfl, SqT.of (sm _ _ hR), rfl, _, rfl, P, _, _, _, rfl, rfl, SqL.of (sm _ _ pr.at_), at_refs hz, ?_⟩
      refine ⟨_, rfl, _, _, _, _, true, rfl, .of (.tup hzt), rfl, kit_refl _ _, _, rfl, ?_⟩
      refine iteF ?_
      refine ⟨_, rfl, z.1, _, rfl, .inr (SqT.of hzt), rfl, _, rfl, ?_⟩
      refine iteNS rfl ?_
      refine ⟨_, rfl, _, rfl, z.1, [z.2.1, z.2.2], _, rfl, .inr (SqT.of hzt), (fun y hy => ?_), fun H2 s2 => ?_⟩
      · rcases List.mem_cons.mp hy with rfl | hy
        · trivial
        · rw [List.mem_singleton.mp hy]; trivial
      refine ⟨_, rfl, ?_⟩
      refine iteF ?_
      exact ⟨_, _, rfl, sm.trans s2⟩
    · rintro σ H' ⟨v1, v2, rfl, sm⟩
      refine ⟨_, rfl, R, _, 1, _, rfl, rfl, SqT.of (sm _ _ hR), rfl, _, rfl, R, _, 0, _, rfl, rfl, SqT.of (sm _ _ hR), rfl, P, _, rfl, .inl (SqL.of (sm _ _ pr.at_)), W, row, _, rfl, .inl (SqL.of (sm _ _ hW)), (fun y hy => ?_), fun H2 s2 => ?_⟩
      · rw [List.length_map]; exact rz y hy
      exact hQ _ (sm.trans s2)
end
end K38
set_option Elab.async false
set_option linter.all false
set_option maxRecDepth 100000
set_option maxHeartbeats 4000000
namespace K38
open PySem L2 PySem.W PH
section
variable {P : Program} {w : World} {K : PySem.W.Frag} {mg : Str → Option Value} {base : Heap}
theorem sc_once : FnScope ["rules", "row", "stood", "k", "pair"] ["rules", "row"] (defScope s_once) := ⟨rfl, rfl, rfl, by decide +kernel, rfl, by decide +kernel, by decide +kernel⟩
theorem ok_once {f : Addr} {fd : FuncData} (F : Fun K "_law_pairs_once" "_law_pairs_once" s_once f fd) (B : Bls mg) (n_set : mg "set" = none) : FnOk P w K mg base (CXW P w) 1 f fd ["rules", "row"] (spOnce38) := by
  refine F.okN sc_once (fun vs H Q E h => ?_) (fun cdv A outer s H vs Q E hr h => ?_)
  · obtain ⟨P, W, zs, row, rfl, _⟩ := h
    rfl
  · obtain ⟨P, W, zs, row, rfl, pr, hW, hrl, hzl, hnd, hno, honce, hQ⟩ := h
    refine ⟨_, (pss_cons (ps_set (i := 2) sc_once.nd rfl (Or.inr rfl) pe_dnewT)
      (pss_cons (ps_for PassesOwn.never rfl (pi_range1 rfl B.range (pa_cons (pe_op op_sub (pe_callB call_len_seq rfl B.len PySem.boot_len (pa_cons (pv 1) pa_nil)) pe_int) pa_nil)) (pg_name (i := 3) sc_once.nd rfl (Or.inl rfl))
        (pss_cons (ps_set (i := 4) sc_once.nd rfl (Or.inl rfl) (pe_tup (pa_cons (pe_ix ix_list (pv 1) (pv 3) (fun _ _ => rfl)) (pa_cons (pe_ix ix_list (pv 1) (pe_op op_add (pv 3) pe_int) (fun _ _ => rfl)) pa_nil))))
        (pss_cons (ps_if (pt_cmpR op_gt (pe_op op_sub (pv 3) (pe_dget2 (hu_of hr) (pv 2) (pv 4) (pv 3) ⟨rfl, rfl, rfl, rfl⟩)) pe_int (nomark _))
          (pss_one (ps_ret pe_bl))
          pss_nil)
        (pss_one (ps_dput (hu_of hr) (pv 2) (pv 4) (pe_callB (call_min2 rfl) rfl B.min boot_min' (pa_cons (pv 3) (pa_cons (pe_dget2 (hu_of hr) (pv 2) (pv 4) (pv 3) ⟨rfl, rfl, rfl, rfl⟩) pa_nil))) rfl)))))
      (pss_one (ps_ret (pe_and (pe_cmpR op_eq (pe_lenset rfl (units_of hr) rfl B.len rfl n_set (pv 0)) (pe_callB call_len_seq rfl B.len PySem.boot_len (pa_cons (pv 0) pa_nil)) (nomark _)) (pe_one (pe_cmpR (op_eqL (units_of hr)) (pe_comp (N := ["rule", "stood"]) (js := [none, some 2]) (g := (gName 0)) (tc := (tB (tDIn (tVar 0) (tVar 1)))) (te := (tVar 0)) rfl (comp_scope (osc := defScope s_once) (XN := ["rules", "row", "stood", "k", "pair"]) rfl rfl rfl (by decide +kernel)) (pi_list (pv 0)) (fun _ _ _ _ => pg_name (i := 0) (show (["rule", "stood"] : List Str).Nodup by decide +kernel) rfl (Or.inl rfl)) (fun _ _ _ _ => (pif_one (pt_cmp (pc_din (hu_of hr) (pv 0) (pv 1))))) (fun _ _ _ _ => (pv 0))) (pe_lst pa_nil) (nomark _)))))))), ?_⟩
    intro Sa hSa
    have s1 := same_new hSa (.dT [])
    have hS1 : upd H Sa (.dT []) Sa = some (.dT []) := upd_same
    generalize upd H Sa (.dT []) = H1 at s1 hS1 ⊢
    refine ⟨_, rfl, W, _, rfl, .inl (SqL.of (s1 _ _ hW)), _, _, rfl, rfl, ((row.length : Nat) : Int) - 1, by rw [List.length_map], by trivial, by trivial, ?_⟩
    rw [show (((row.length : Nat) : Int) - 1).toNat = row.length - 1 by trivial]
    refine for_range (n := row.length - 1) (fun i σ H' => ∃ (kvs : KVs) (v3 v4 : Option V), σ = [some (.ref P), some (.ref W), some (.ref Sa), v3, v4] ∧ H' Sa = some (.dT kvs) ∧ Sd row i kvs ∧ kvs.length ≤ i ∧ Same H H')
      ⟨[], none, none, rfl, hS1, Sd.nil row, Nat.le_refl _, s1⟩ ?_ ?_
    · rintro i σ H' hi ⟨kvs, v3, v4, rfl, hB, sd, hkl, sm⟩
      rw [Int.zero_add]
      obtain ⟨x, hx⟩ := bounded_at (l := row) (k := i) (by trivial)
      obtain ⟨y, hy⟩ := bounded_at (l := row) (k := i + 1) (by trivial)
      have hW' := sm _ _ hW
      obtain ⟨l, hl, hAl, el, sd2⟩ := sd.put (x := x) (y := y) ⟨hx, hy⟩
      have hon := honce l i x y hAl ⟨hx, hy⟩
      refine ⟨_, rfl, _, rfl, W, _, _, _, rfl, rfl, SqL.of hW', at_intsZ hx, _, rfl, _, rfl, _, _, rfl, rfl, W, _, ((i + 1 : Nat) : Int), _, rfl, rfl, SqL.of hW', at_intsZ hy, (by show 2 ≤ sizeLine; decide), fun t ht => ?_⟩
      have u3 := same_new ht (.tup [V.int x, V.int y])
      have et : upd H' t (.tup [V.int x, V.int y]) t = some (.tup [V.int x, V.int y]) := upd_same
      generalize upd H' t (.tup [V.int x, V.int y]) = H3 at u3 et ⊢
      have sm3 := sm.trans u3
      have hB3 := u3 _ _ hB
      refine ⟨_, rfl, _, rfl, Sa, rfl, .inr ⟨kvs, .inl hB3⟩, _, rfl, _, rfl, _, DGet.t (k := [.inl x, .inl y]) hB3 et, _, (l : Int), rfl, el, _, _, rfl, rfl, _, rfl, ?_⟩
      rw [decide_eq_false (show ¬ (1 : Int) < (i : Int) - (l : Int) by trivial)]
      refine iteF ?_
      refine ⟨_, rfl, _, rfl, Sa, rfl, .inr ⟨kvs, .inl hB3⟩, _, rfl, _, rfl, _, DGet.t (k := [.inl x, .inl y]) hB3 et, ?_⟩
      rw [el]
      refine ⟨_, _, rfl, ?_⟩
      rw [show (if (l : Int) < (i : Int) then (l : Int) else (i : Int)) = (l : Int) by split <;> trivial]
      refine ⟨_, rfl, _, rfl, Sa, _, rfl, DPut.t (k := [.inl x, .inl y]) hB3 et (fits_lt (by trivial)), ?_⟩
      exact ⟨_, _, _, rfl, upd_same, sd2, Nat.le_trans (length_putK kvs _ _) (by trivial), same_upd sm3 _ hSa⟩
    rintro σ H2 ⟨kvs, v3, v4, rfl, hB, sd, hkl, sm⟩
    have pr2 := pr.same sm
    refine ⟨_, rfl, P, zs.map fun z => (z.1, [z.2.1, z.2.2]), rfl, by rw [List.map_map]; exact SqL.of pr2.at_, (fun z hz => ?_), nd_two hnd, by rw [List.length_map]; exact hzl, ?_⟩
    · obtain ⟨z', hz', rfl⟩ := List.mem_map.mp hz
      exact pr2.each z' hz'
    refine ⟨_, rfl, P, _, rfl, .inl (SqL.of pr2.at_), rfl, _, rfl, ?_⟩
    rw [decide_eq_true (congrArg V.int (by rw [List.length_map, List.length_map]))]
    refine iteT ?_
    refine ⟨_, rfl, P, rfl, ⟨_, SqL.of pr2.at_⟩, fun D hD => ?_⟩
    refine comp_lstQ (K := K) (a := P) (xs := zs.map fun z => V.ref z.1) (fun i σ' H' => ∃ (v0 : Option V), σ' = [v0, some (.ref Sa)] ∧ H' D = some (lsI []) ∧ Same H2 H')
      ⟨none, rfl, upd_same, same_new hD _⟩ (fun i σ' H' _ ⟨_, _, _, e⟩ => SqL.of (e _ _ pr2.at_)) ?_ ?_
    · rintro i v σ' H' hi ⟨v0, rfl, hD', sm'⟩
      have hlt := (List.getElem?_eq_some_iff.mp hi).1
      obtain ⟨z, hz, rfl⟩ := ref_at hi
      have hzm := List.mem_of_getElem? hz
      have eno : valV kvs [.inl z.2.1, .inl z.2.2] = none := by
        rcases sd z.2.1 z.2.2 with ⟨e, _⟩ | ⟨l, _, hA, _⟩
        · exact e
        · exact absurd hA (hno z hzm l)
      refine ⟨_, rfl, _, rfl, Sa, _, rfl, DGet.t (k := [.inl z.2.1, .inl z.2.2]) (sm' _ _ hB) (sm' _ _ (pr2.each z hzm)), _, rfl, ?_⟩
      rw [eno]
      refine iteF ?_
      exact CW.next hlt ⟨_, rfl, hD', sm'⟩
    rintro σ' H3 ⟨v0, rfl, hD3, sm3⟩
    refine ⟨(by show 0 ≤ sizeLine; decide), fun e0 he0 => ?_⟩
    have u4 := same_new he0 (.lst [])
    refine ⟨D, e0, [], [], rfl, rfl, SqL.of (u4 _ _ hD3), SqL.of upd_same, ?_⟩
    exact hQ _ (sm.trans (sm3.trans u4))
end
end K38
set_option Elab.async false
set_option linter.all false
set_option maxRecDepth 100000
set_option maxHeartbeats 4000000
namespace K38
open PySem L2 PySem.W PH
section
variable {P : Program} {w : World} {K : PySem.W.Frag} {mg : Str → Option Value} {base : Heap}
theorem sc_good : FnScope ["text", "handed", "found", "rules", "row", "used", "rule", "kept"] ["text"] (defScope s_good) := ⟨rfl, rfl, rfl, by decide +kernel, rfl, by decide +kernel, by decide +kernel⟩
theorem ok_good {f f_grof f_putin f_form f_once : Addr} {fd d_grof d_putin d_form d_once : FuncData} (F : Fun K "_law_good" "_law_good" s_good f fd) (B : Bls mg) 
    (G_grof : FnOk P w K mg base (CXW P w) 2 f_grof d_grof ["text"] (spGrX)) (b_grof : Binds K d_grof ["text"] []) (k_grof : keepIn K (.ref f_grof) = true) (m_grof : mg "grammar_of" = some (.ref f_grof)) 
    (G_putin : FnOk P w K mg base (CXW P w) 1 f_putin d_putin ["rules", "row"] (spPut)) (b_putin : Binds K d_putin ["rules", "row"] []) (k_putin : keepIn K (.ref f_putin) = true) (m_putin : mg "_law_put_in" = some (.ref f_putin)) 
    (G_form : FnOk P w K mg base (CXW P w) 2 f_form d_form ["found"] (spForm38)) (b_form : Binds K d_form ["found"] []) (k_form : keepIn K (.ref f_form) = true) (m_form : mg "_law_formed" = some (.ref f_form)) 
    (G_once : FnOk P w K mg base (CXW P w) 1 f_once d_once ["rules", "row"] (spOnce38)) (b_once : Binds K d_once ["rules", "row"] []) (k_once : keepIn K (.ref f_once) = true) (m_once : mg "_law_pairs_once" = some (.ref f_once)) : FnOk P w K mg base (CXW P w) 3 f fd ["text"] (spGood38) := by
  refine F.okN sc_good (fun vs H Q E h => ?_) (fun cdv A outer s H vs Q E hr h => ?_)
  · obtain ⟨T, ts, rfl, _⟩ := h
    rfl
  · obtain ⟨T, ts, rfl, hT, hl, hsg, hQ⟩ := h
    refine ⟨_, (pss_cons (ps_set (i := 1) sc_good.nd rfl (Or.inl rfl) (pe_callTy call_list_of rfl B.list boot_list' (pa_cons (pv 0) pa_nil)))
      (pss_cons (ps_set (i := 2) sc_good.nd rfl (Or.inl rfl) (pe_call G_grof hr rfl m_grof k_grof b_grof .nil passN (pa_cons (pv 1) pa_nil)))
      (pss_cons (ps_if (PW.pt (pw_or (pt_not (pt_val (pe_call G_form hr rfl m_form k_form b_form .nil passN (pa_cons (pv 2) pa_nil)))) (pw_or1 (pt_cmpR (op_neL (units_of hr)) (pv 1) (pv 0) (nomark _)))))
        (pss_one (ps_ret pe_bl))
        pss_nil)
      (pss_cons (ps_asg (pv 2) (pg_tup rfl (pgs_cons (pg_name (i := 3) sc_good.nd rfl (Or.inl rfl)) (pgs_cons (pg_name (i := 4) sc_good.nd rfl (Or.inl rfl)) pgs_nil))))
      (pss_cons (ps_if (PW.pt (pw_or (pt_cmpR (op_neL (units_of hr)) (pe_call G_putin (hr.mono (show 1 ≤ 2 by decide)) rfl m_putin k_putin b_putin .nil passN (pa_cons (pv 3) (pa_cons (pv 4) pa_nil))) (pv 0) (nomark _)) (pw_or (pt_cmpR op_gt (pe_op op_add (pe_callB call_len_seq rfl B.len PySem.boot_len (pa_cons (pv 4) pa_nil)) (pe_op op_mul pe_int (pe_callB call_len_seq rfl B.len PySem.boot_len (pa_cons (pv 3) pa_nil)))) (pe_callB call_len_seq rfl B.len PySem.boot_len (pa_cons (pv 0) pa_nil)) (nomark _)) (pw_or1 (pt_not (pt_val (pe_call G_once (hr.mono (show 1 ≤ 2 by decide)) rfl m_once k_once b_once .nil passN (pa_cons (pv 3) (pa_cons (pv 4) pa_nil)))))))))
        (pss_one (ps_ret pe_bl))
        pss_nil)
      (pss_cons (ps_set (i := 5) sc_good.nd rfl (Or.inr rfl) (pe_callTy call_list_of rfl B.list boot_list' (pa_cons (pv 4) pa_nil)))
      (pss_cons (ps_for PassesOwn.never rfl (pi_list (pv 3)) (pg_name (i := 6) sc_good.nd rfl (Or.inl rfl))
        (pss_one (ps_set (i := 5) sc_good.nd rfl (Or.inr rfl) (pe_op op_cat (pv 5) (pe_callTy call_list_of rfl B.list boot_list' (pa_cons (pv 6) pa_nil))))))
      (pss_cons (ps_if (pt_cmpR (op_neL (units_of hr)) (pe_comp (N := ["k", "used"]) (js := [none, some 5]) (g := (gName 0)) (tc := (tTest (tOp (rIn K true) (tOp (rI0 fun i j => .int (i + j)) (tC (.int 256)) (tVar 0)) (tVar 1)))) (te := (tVar 0)) rfl (comp_scope (osc := defScope s_good) (XN := ["text", "handed", "found", "rules", "row", "used", "rule", "kept"]) rfl rfl rfl (by decide +kernel)) (pi_range1 rfl B.range (pa_cons (pe_callB call_len_seq rfl B.len PySem.boot_len (pa_cons (pv 3) pa_nil)) pa_nil)) (fun _ _ _ _ => pg_name (i := 0) (show (["k", "used"] : List Str).Nodup by decide +kernel) rfl (Or.inl rfl)) (fun _ _ _ _ => (pif_one (pt_cmpR op_notIn_seq (pe_op op_add pe_int (pv 0)) (pv 1) (by with_unfolding_all rfl)))) (fun _ _ _ _ => (pv 0))) (pe_lst pa_nil) (nomark _))
        (pss_one (ps_ret pe_bl))
        pss_nil)
      (pss_cons (ps_set (i := 7) sc_good.nd rfl (Or.inl rfl) (pe_tup (pa_cons (pe_callTy call_list_of rfl B.list boot_list' (pa_cons (pv 3) pa_nil)) (pa_cons (pe_callTy call_list_of rfl B.list boot_list' (pa_cons (pv 4) pa_nil)) pa_nil))))
      (pss_cons (ps_expr (pe_bm PySem.F.plainAttrs_list PySem.F.slot_list_append PySem.F.type_list_append mt_append (pv 3) (pa_cons (pe_tup (pa_cons pe_int (pa_cons pe_int pa_nil))) pa_nil)))
      (pss_cons (ps_expr (pe_bm PySem.F.plainAttrs_list PySem.F.slot_list_append PySem.F.type_list_append mt_append (pv 4) (pa_cons pe_int pa_nil)))
      (pss_one (ps_ret (pe_and (pe_cmpR (op_eqD (units_of hr)) (pe_call G_grof hr rfl m_grof k_grof b_grof .nil passN (pa_cons (pv 1) pa_nil)) (pv 7) (nomark _)) (pe_one (pe_cmpR (op_eqL (units_of hr)) (pv 1) (pv 0) (nomark _))))))))))))))))), ?_⟩
    refine ⟨_, rfl, T, _, rfl, .inl (SqL.of hT), fun hd hhd => ?_⟩
    have uhd := same_new hhd (.lst (ts.map V.int))
    have ehd : upd H hd (.lst (ts.map V.int)) hd = some (.lst (ts.map V.int)) := upd_same
    generalize upd H hd (.lst (ts.map V.int)) = H1 at uhd ehd ⊢
    refine ⟨_, rfl, hd, ts, rfl, ehd, hl, hsg, fun R P W zs H2 s2 hR hPn hWn hPW pr ezs hW => ?_⟩
    obtain ⟨gi, hend⟩ := gr_ok hsg
    generalize egr : gr ts = g at gi hend ezs hW
    obtain ⟨rs, row⟩ := g
    have ezs : zs.map (·.2) = rs := ezs
    subst ezs
    have gi : GI ts (zs.map (·.2)) row := gi
    have hend : mst row = none := hend
    have hW : H2 W = some (lsI row) := hW
    have hsz := gi.sz
    have hzl : (zs.map (·.2)).length = zs.length := List.length_map _
    rw [hzl] at hsz
    have rz := gi.rz
    rw [hzl] at rz
    have s12 := uhd.trans s2
    have hT2 := s12 _ _ hT
    refine ⟨_, rfl, R, P, W, zs, row, rfl, hR, pr, gi_grz gi, hW, rz, by trivial, fun H3 s3 => ?_⟩
    refine ⟨_, rfl, ?_⟩
    refine iteF ?_
    refine ⟨_, rfl, _, rfl, hd, T, _, _, rfl, rfl, SqL.of (s3 _ _ (s2 _ _ ehd)), SqL.of (s3 _ _ hT2), _, rfl, ?_⟩
    refine iteNS rfl ?_
    have s13 := s12.trans s3
    have hT3 := s3 _ _ hT2
    have pr3 := pr.same s3
    have hW3 := s3 _ _ hW
    refine ⟨_, rfl, R, _, rfl, SqT.of (s3 _ _ hR), rfl, _, _, rfl, _, _, rfl, rfl, ?_⟩
    have hel := gi.el
    rw [hzl, gi_rn] at hel
    have hex := gi.ex
    rw [gi_rn] at hex
    refine ⟨_, rfl, _, rfl, P, W, zs, row, rfl, pr3, gi_grz gi, hW3, rz, by trivial, by trivial, (fun k hk => Nat.le_trans (hel k hk) (by trivial)), (by rw [hex]; trivial), fun D4 H4 s4 hD4n hD4 => ?_⟩
    rw [hex] at hD4
    refine ⟨_, rfl, D4, T, _, _, rfl, rfl, SqL.of hD4, SqL.of (s4 _ _ hT3), _, rfl, ?_⟩
    refine iteNS rfl ?_
    have pr4 := pr3.same s4
    have hW4 := s4 _ _ hW3
    have hT4 := s4 _ _ hT3
    have s14 := s13.trans s4
    refine ⟨_, rfl, W, _, rfl, .inl (SqL.of hW4), _, rfl, P, _, rfl, .inl (SqL.of pr4.at_), _, _, rfl, rfl, .inl ⟨by decide, by decide⟩, _, _, rfl, rfl, _, rfl, T, _, rfl, .inl (SqL.of hT4), _, _, rfl, rfl, _, rfl, ?_⟩
    rw [List.length_map, List.length_map, List.length_map, decide_eq_false (show ¬ ((ts.length : Nat) : Int) < ((row.length : Nat) : Int) + 2 * ((zs.length : Nat) : Int) by trivial)]
    refine iteF ?_
    refine ⟨_, rfl, _, rfl, P, W, zs, row, rfl, pr4, hW4, by trivial, by trivial, gi.nd, (fun z hz a => gi.no z.2 (List.mem_map.mpr ⟨z, hz, rfl⟩) a), (fun a b x y ha hb => mst_none hend ha hb), fun H5 s5 => ?_⟩
    refine ⟨_, rfl, ?_⟩
    refine iteF ?_
    have pr5 := pr4.same s5
    have hW5 := s5 _ _ hW4
    have s15 := s14.trans s5
    refine ⟨_, rfl, W, _, rfl, .inl (SqL.of hW5), fun U hU => ?_⟩
    have uU := same_new hU (.lst (row.map V.int))
    have eU : upd H5 U (.lst (row.map V.int)) U = some (.lst (row.map V.int)) := upd_same
    generalize upd H5 U (.lst (row.map V.int)) = H6 at uU eU ⊢
    refine ⟨_, rfl, P, rfl, ⟨_, SqL.of (uU _ _ pr5.at_)⟩, for_list (K := K) (a := P) (xs := zs.map fun z => V.ref z.1) (fun i σ H' => ∃ (U : Addr) (v6 : Option V), σ = [some (.ref T), some (.ref hd), some (.ref R), some (.ref P), some (.ref W), some (.ref U), v6, none] ∧ H' U = some (lsI (usd row (zs.take i))) ∧ Same H5 H')
      ⟨U, none, rfl, by rw [show usd row (zs.take 0) = row from by unfold usd; simp]; exact eU, uU⟩ (fun i σ H' _ ⟨_, _, _, _, e⟩ => SqL.of (e _ _ pr5.at_)) ?_ ?_⟩
    · rintro i v σ H' hi ⟨U, v6, rfl, hU, sm⟩
      obtain ⟨z, hz, rfl⟩ := ref_at hi
      have hil : i < zs.length := (List.getElem?_eq_some_iff.mp hz).1
      have hzt := sm _ _ (pr5.each z (List.mem_of_getElem? hz))
      refine ⟨_, rfl, _, rfl, z.1, _, rfl, .inr (SqT.of hzt), fun c hc => ?_⟩
      have uc := same_new hc (.lst [V.int z.2.1, V.int z.2.2])
      have ec : upd H' c (.lst [V.int z.2.1, V.int z.2.2]) c = some (.lst [V.int z.2.1, V.int z.2.2]) := upd_same
      generalize upd H' c (.lst [V.int z.2.1, V.int z.2.2]) = H7 at uc ec ⊢
      have hul := usd_len row (zs.take i)
      rw [List.length_take] at hul
      refine ⟨U, c, _, _, rfl, rfl, uc _ _ hU, ec, fits (by rw [List.length_map]; show _ + 2 ≤ _; trivial), fun l hl2 => ?_⟩
      have s8 := same_new hl2 (.lst ((usd row (zs.take i)).map V.int ++ [V.int z.2.1, V.int z.2.2]))
      exact ⟨l, _, rfl, by rw [upd_same, take_at hz, usd_app]; unfold lsI; rw [List.map_append]; rfl, sm.trans (uc.trans s8)⟩
    rintro σ H6' ⟨U, v6, rfl, hU6, sm6⟩
    clear eU uU H6
    rw [List.length_map, List.take_length] at hU6
    have pr6 := pr5.same sm6
    refine ⟨_, rfl, P, _, rfl, .inl (SqL.of pr6.at_), ((zs.length : Nat) : Int), by rw [List.length_map], by trivial, by trivial, fun D hD => ?_⟩
    rw [Int.toNat_natCast]
    refine comp_rngQ (n := zs.length) (fun i σ' H' => ∃ v0 : Option V, σ' = [v0, some (.ref U)] ∧ H' D = some (lsI []) ∧ Same H6' H')
      ⟨none, rfl, upd_same, same_new hD _⟩ ?_ ?_
    · rintro i σ' H' hi ⟨v0, rfl, hD', sm⟩
      rw [Int.zero_add]
      refine ⟨_, rfl, _, _, rfl, rfl, _, rfl, U, _, rfl, .inl (SqL.of (sm _ _ hU6)), rfl, flat_ints _, _, rfl, ?_⟩
      rw [show inV (V.int (256 + (i : Int))) ((usd row zs).map V.int) = true from (in_ints _ _).trans (decide_eq_true (gi_used gi hi))]
      refine iteF ?_
      exact CW.next hi ⟨_, rfl, hD', sm⟩
    rintro σ' H7 ⟨v0, rfl, hD7, sm7⟩
    refine ⟨(by show 0 ≤ sizeLine; decide), fun e0 he0 => ?_⟩
    have ue0 := same_new he0 (.lst [])
    have ee0 : upd H7 e0 (.lst []) e0 = some (.lst []) := upd_same
    generalize upd H7 e0 (.lst []) = H8 at ue0 ee0 ⊢
    refine ⟨D, e0, [], [], rfl, rfl, SqL.of (ue0 _ _ hD7), SqL.of ee0, _, rfl, ?_⟩
    refine iteNS rfl ?_
    have s58 := sm6.trans (sm7.trans ue0)
    have s18 := s15.trans s58
    have pr8 := pr5.same s58
    have hW8 := s58 _ _ hW5
    refine ⟨_, rfl, P, _, rfl, .inl (SqL.of pr8.at_), fun k1 hk1 => ?_⟩
    have uk1 := same_new hk1 (.lst (zs.map fun z => V.ref z.1))
    have ek1 : upd H8 k1 (.lst (zs.map fun z => V.ref z.1)) k1 = some (.lst (zs.map fun z => V.ref z.1)) := upd_same
    generalize upd H8 k1 (.lst (zs.map fun z => V.ref z.1)) = H9 at uk1 ek1 ⊢
    refine ⟨_, rfl, W, _, rfl, .inl (SqL.of (uk1 _ _ hW8)), fun k2 hk2 => ?_⟩
    have uk2 := same_new hk2 (.lst (row.map V.int))
    have ek2 : upd H9 k2 (.lst (row.map V.int)) k2 = some (.lst (row.map V.int)) := upd_same
    generalize upd H9 k2 (.lst (row.map V.int)) = Ha at uk2 ek2 ⊢
    refine ⟨(by show 2 ≤ sizeLine; decide), fun kt hkt => ?_⟩
    have ukt := same_new hkt (.tup [V.ref k1, V.ref k2])
    have ekt : upd Ha kt (.tup [V.ref k1, V.ref k2]) kt = some (.tup [V.ref k1, V.ref k2]) := upd_same
    generalize upd Ha kt (.tup [V.ref k1, V.ref k2]) = Hb at ukt ekt ⊢
    have wS : Same H1 H8 := s2.trans (s3.trans (s4.trans (s5.trans s58)))
    have wB : Same H8 Hb := uk1.trans (uk2.trans ukt)
    have prb := pr8.same wB
    have hWb := wB _ _ hW8
    refine ⟨_, rfl, .inl ⟨rfl, _, SqL.of prb.at_⟩, (by show 2 ≤ sizeLine; decide), fun t0 ht0 => ?_⟩
    have ut0 := same_new ht0 (.tup [V.int 0, V.int 0])
    have et0 : upd Hb t0 (.tup [V.int 0, V.int 0]) t0 = some (.tup [V.int 0, V.int 0]) := upd_same
    generalize upd Hb t0 (.tup [V.int 0, V.int 0]) = Hc at ut0 et0 ⊢
    have prc := prb.same ut0
    have hWc := ut0 _ _ hWb
    have wC : Same H1 Hc := wS.trans (wB.trans ut0)
    have k1c := ut0 _ _ (ukt _ _ (uk2 _ _ ek1))
    have k2c := ut0 _ _ (ukt _ _ ek2)
    have ktc := ut0 _ _ ekt
    have k1P : k1 ≠ P := fun e => by rw [e, pr8.at_] at hk1; cases hk1
    have k1W : k1 ≠ W := fun e => by rw [e, hW8] at hk1; cases hk1
    have k2P : k2 ≠ P := fun e => by rw [e, uk1 _ _ pr8.at_] at hk2; cases hk2
    have k2W : k2 ≠ W := fun e => by rw [e, uk1 _ _ hW8] at hk2; cases hk2
    have ktP : kt ≠ P := fun e => by rw [e, uk2 _ _ (uk1 _ _ pr8.at_)] at hkt; cases hkt
    have ktW : kt ≠ W := fun e => by rw [e, uk2 _ _ (uk1 _ _ hW8)] at hkt; cases hkt
    have pk : Prs Hc k1 zs := ⟨k1c, prc.each⟩
    have hPc := prc.at_
    refine ⟨P, _, _, rfl, rfl, hPc, fits_lt (by rw [List.length_map]; trivial), ?_⟩
    have pk2 := pk.other (ys := (zs.map fun z => V.ref z.1) ++ [V.ref t0]) hPc k1P
    have hWd : upd Hc P (.lst ((zs.map fun z => V.ref z.1) ++ [V.ref t0])) W = some (lsI row) := by rw [upd_ne (Ne.symm hPW)]; exact hWc
    have k2d : upd Hc P (.lst ((zs.map fun z => V.ref z.1) ++ [V.ref t0])) k2 = some (lsI row) := by rw [upd_ne k2P]; exact k2c
    have ktd : upd Hc P (.lst ((zs.map fun z => V.ref z.1) ++ [V.ref t0])) kt = some (.tup [V.ref k1, V.ref k2]) := by rw [upd_ne ktP]; exact ktc
    have wD := same_upd wC (.lst ((zs.map fun z => V.ref z.1) ++ [V.ref t0])) hPn
    generalize upd Hc P (.lst ((zs.map fun z => V.ref z.1) ++ [V.ref t0])) = Hd at pk2 hWd k2d ktd wD ⊢
    refine ⟨_, rfl, .inl ⟨rfl, _, SqL.of hWd⟩, W, _, _, rfl, rfl, hWd, fits_lt (by rw [List.length_map]; trivial), ?_⟩
    have pk3 := pk2.other (ys := row.map V.int ++ [V.int 0]) hWd k1W
    have k2e : upd Hd W (.lst (row.map V.int ++ [V.int 0])) k2 = some (lsI row) := by rw [upd_ne k2W]; exact k2d
    have kte : upd Hd W (.lst (row.map V.int ++ [V.int 0])) kt = some (.tup [V.ref k1, V.ref k2]) := by rw [upd_ne ktW]; exact ktd
    have wE := same_upd wD (.lst (row.map V.int ++ [V.int 0])) hWn
    generalize upd Hd W (.lst (row.map V.int ++ [V.int 0])) = He at pk3 k2e kte wE ⊢
    refine ⟨_, rfl, hd, ts, rfl, wE _ _ ehd, hl, hsg, fun R2 P2 W2 zs2 Hf sf hR2 _ _ _ pr2 ezs2 hW2 => ?_⟩
    rw [egr] at ezs2 hW2
    have ezs2 : zs2.map (·.2) = zs.map (·.2) := ezs2
    have hW2 : Hf W2 = some (lsI row) := hW2
    have dp := deep_gr (K := K) hR2 pr2 hW2
    rw [ezs2] at dp
    refine ⟨_, rfl, _, _, dp, deep_gr (sf _ _ kte) (pk3.same sf) (sf _ _ k2e), ht_gr _ _, _, rfl, ?_⟩
    rw [eqD_refl]
    refine iteT ?_
    have wF := wE.trans sf
    refine ⟨_, rfl, _, rfl, hd, T, _, _, rfl, rfl, SqL.of (wF _ _ ehd), SqL.of (wF _ _ (uhd _ _ hT)), ?_⟩
    rw [decide_eq_true rfl]
    exact hQ _ (uhd.trans wF)
end
end K38
set_option Elab.async false
set_option linter.all false
set_option maxRecDepth 100000
set_option maxHeartbeats 4000000
namespace K38
open PySem L2 PySem.W PH
section
variable {P : Program} {w : World} {K : PySem.W.Frag} {mg : Str → Option Value} {base : Heap}
theorem sc_law : FnScope ["script", "text"] ["script"] (defScope s_law) := ⟨rfl, rfl, rfl, by decide +kernel, rfl, by decide +kernel, by decide +kernel⟩
theorem ok_law {f f_cellat f_text f_good : Addr} {fd d_cellat d_text d_good : FuncData} (F : Fun K "law" "law" s_law f fd) (B : Bls mg) 
    (G_cellat : FnOk P w K mg base (CXW P w) 1 f_cellat d_cellat ["script", "k"] (spCellAt K)) (b_cellat : Binds K d_cellat ["script", "k"] []) (k_cellat : keepIn K (.ref f_cellat) = true) (m_cellat : mg "_law_cell_at" = some (.ref f_cellat)) 
    (G_text : FnOk P w K mg base (CXW P w) 2 f_text d_text ["script", "most"] (spTextS K)) (b_text : Binds K d_text ["script", "most"] []) (k_text : keepIn K (.ref f_text) = true) (m_text : mg "_law_text" = some (.ref f_text)) 
    (G_good : FnOk P w K mg base (CXW P w) 3 f_good d_good ["text"] (spGood38)) (b_good : Binds K d_good ["text"] []) (k_good : keepIn K (.ref f_good) = true) (m_good : mg "_law_good" = some (.ref f_good)) : FnOk P w K mg base (CXW P w) 4 f fd ["script"] (spLaw K) := by
  refine F.okN sc_law (fun vs H Q E h => ?_) (fun cdv A outer s H vs Q E hr h => ?_)
  · obtain ⟨a, ns, rfl, _⟩ := h
    rfl
  · obtain ⟨a, ns, rfl, hS, hl, hQ⟩ := h
    refine ⟨_, (pss_cons (ps_set (i := 1) sc_law.nd rfl (Or.inl rfl) (pe_call G_text (hr.mono (show 2 ≤ 3 by decide)) rfl m_text k_text b_text .nil passN (pa_cons (pv 0) (pa_cons pe_int pa_nil))))
      (pss_cons (ps_if (PW.pt (pw_and (pt_cmpR op_eq (pe_op op_mod (pe_op op_fdiv (pe_call G_cellat (hr.mono (show 1 ≤ 3 by decide)) rfl m_cellat k_cellat b_cellat .nil passN (pa_cons (pv 0) (pa_cons pe_int pa_nil))) pe_int) pe_int) pe_int (nomark _)) (pw_and1 (pt_not (pt_val (pe_call G_good hr rfl m_good k_good b_good .nil passN (pa_cons (pe_slice sl_list (pe_op op_rep (pv 1) pe_int) po_none (po_some pe_int)) pa_nil)))))))
        (pss_one (ps_ret pe_bl))
        pss_nil)
      (pss_one (ps_ret (pe_and (pe_call G_good hr rfl m_good k_good b_good .nil passN (pa_cons (pv 1) pa_nil)) (pe_and (pe_call G_good hr rfl m_good k_good b_good .nil passN (pa_cons (pe_slice sl_list (pv 1) (po_some (pe_op op_fdiv (pe_callB call_len_seq rfl B.len PySem.boot_len (pa_cons (pv 1) pa_nil)) pe_int)) po_none) pa_nil)) (pe_one (pe_call G_good hr rfl m_good k_good b_good .nil passN (pa_cons (pe_lst pa_nil) pa_nil))))))))), ?_⟩
    refine ⟨_, rfl, a, ns, 200, rfl, hS, hl, by decide, by decide, fun T ts H1 s1 hT hT1 htl hsg => ?_⟩
    have hS1 := s1.seq hS
    try dsimp only
    refine sqMidH (fun σ H' => σ = [some (.ref a), some (.ref T)] ∧ Same H1 H') ?_ (fun N hN => ?_)
    rotate_left
    · refine ⟨_, rfl, a, ns, 0, rfl, hS1, fun x => ?_⟩
      refine ⟨_, _, rfl, rfl, (by show CDiv x 64; exact ⟨by decide, by decide⟩), _, _, rfl, rfl, (by show (0 : Int) < 4; decide), rfl, _, rfl, ?_⟩
      refine ite2 (fun _ => ?_) (fun _ => ?_)
      · refine ⟨_, rfl, T, 9, _, rfl, rfl, hT1, by decide, by decide, (by rw [List.length_map]; show ts.length * 9 ≤ 16777216; trivial), fun R hR => ?_⟩
        have u2 := same_new hR (.lst (List.replicate (Int.toNat 9) (ts.map V.int)).flatten)
        have eR : upd H1 R (.lst (List.replicate (Int.toNat 9) (ts.map V.int)).flatten) R = some (lsI (List.replicate 9 ts).flatten) := by rw [upd_same]; unfold lsI; rw [List.map_flatten, List.map_replicate]; rfl
        try simp only []
        generalize upd H1 R (.lst (List.replicate (Int.toNat 9) (ts.map V.int)).flatten) = H2 at u2 eR ⊢
        refine ⟨_, rfl, R, _, rfl, SqL.of eR, fun q hq => ?_⟩
        have ecut : HO.lst (cutV ((List.replicate 9 ts).flatten.map V.int) none (some 400)) = lsI ((List.replicate 9 ts).flatten.take 400) := cut_to' _ 400
        try simp only []
        rw [ecut]
        have uq := same_new hq (lsI ((List.replicate 9 ts).flatten.take 400))
        have eq : upd H2 q (lsI ((List.replicate 9 ts).flatten.take 400)) q = some (lsI ((List.replicate 9 ts).flatten.take 400)) := upd_same
        generalize upd H2 q (lsI ((List.replicate 9 ts).flatten.take 400)) = H3 at uq eq ⊢
        refine ⟨q, _, rfl, eq, by rw [List.length_take]; trivial, (fun y hy => hsg y (rep_mem38 9 400 hy)), fun H4 s4 => ?_⟩
        refine ⟨_, rfl, ?_⟩
        refine iteF ?_
        exact hN _ _ ⟨rfl, u2.trans (uq.trans s4)⟩
      · exact hN _ _ ⟨rfl, Same.refl _⟩
    rintro σ H2 ⟨rfl, sm⟩
    have hT2 := sm _ _ hT1
    refine ⟨_, rfl, T, ts, rfl, hT2, by trivial, hsg, fun H3 s3 => ?_⟩
    refine ⟨_, rfl, ?_⟩
    refine iteT ?_
    have hT3 := s3 _ _ hT2
    refine ⟨_, rfl, _, rfl, T, _, rfl, .inl (SqL.of hT3), _, _, rfl, rfl, (by show CDiv _ 2; exact ⟨by decide, by decide⟩), _, rfl, T, _, rfl, SqL.of hT3, fun q hq => ?_⟩
    have ecut : HO.lst (cutV (ts.map V.int) (some (((ts.map V.int).length : Int) / 2)) none) = lsI (ts.drop (ts.length / 2)) := by
      rw [List.length_map, show ((ts.length : Nat) : Int) / 2 = ((ts.length / 2 : Nat) : Int) by trivial]
      exact cut_from' _ _
    try simp only []
    rw [ecut]
    have uq := same_new hq (lsI (ts.drop (ts.length / 2)))
    have eq : upd H3 q (lsI (ts.drop (ts.length / 2))) q = some (lsI (ts.drop (ts.length / 2))) := upd_same
    generalize upd H3 q (lsI (ts.drop (ts.length / 2))) = H4 at uq eq ⊢
    refine ⟨q, _, rfl, eq, by rw [List.length_drop]; trivial, (fun y hy => hsg y (List.mem_of_mem_drop hy)), fun H5 s5 => ?_⟩
    refine ⟨_, rfl, ?_⟩
    refine iteT ?_
    refine ⟨(by show 0 ≤ sizeLine; decide), fun e0 he0 => ?_⟩
    refine ⟨e0, [], rfl, upd_same, by decide, (fun y hy => by cases hy), fun H6 s6 => ?_⟩
    exact hQ _
end
end K38
set_option Elab.async false
set_option linter.all false
set_option maxRecDepth 100000
set_option maxHeartbeats 4000000
namespace K38
open PySem L2 PySem.W PH
theorem len_1 {α : Type} : ∀ {us : List α}, us.length = 1 → ∃ x0, us = [x0]
  | [x0], _ => ⟨x0, rfl⟩
theorem len_2 {α : Type} : ∀ {us : List α}, us.length = 2 → ∃ x0 x1, us = [x0, x1]
  | [x0, x1], _ => ⟨x0, x1, rfl⟩
theorem len_3 {α : Type} : ∀ {us : List α}, us.length = 3 → ∃ x0 x1 x2, us = [x0, x1, x2]
  | [x0, x1, x2], _ => ⟨x0, x1, x2, rfl⟩
section
theorem all_mk {l : PySem.W.OpenLaw} {w : World} {K : PySem.W.Frag} {h : Heap} {mg : Str → Option Value} {fa f1 f2 f3 f4 f5 f6 f7 f8 f9 f10 f11 f12 f13  : Addr} (X : K.In h) (G : h.Ns mainGlobals mg) (hfa : mg "law" = some (.ref fa))
    {od1 an1 od2 an2 od3 an3 od4 an4 od5 an5 od6 an6 od7 an7 od8 an8 od9 an9 od10 an10 od11 an11 od12 an12 od13 an13 : Option Addr} {sl1 sl2 sl3 sl4 sl5 sl6 sl7 sl8 sl9 sl10 sl11 sl12 sl13 : Array (Option Value)} {oc1 kV1 dc1 pm1 cd1 ct1 oc2 kV2 dc2 pm2 cd2 ct2 oc3 kV3 dc3 pm3 cd3 ct3 oc4 kV4 dc4 pm4 cd4 ct4 oc5 kV5 dc5 pm5 cd5 ct5 oc6 kV6 dc6 pm6 cd6 ct6 oc7 kV7 dc7 pm7 cd7 ct7 oc8 kV8 dc8 pm8 cd8 ct8 oc9 kV9 dc9 pm9 cd9 ct9 oc10 kV10 dc10 pm10 cd10 ct10 oc11 kV11 dc11 pm11 cd11 ct11 oc12 kV12 dc12 pm12 cd12 ct12 oc13 kV13 dc13 pm13 cd13 ct13 : Value}
    {tk_FIRST_RULE : Tok}
    (a1 : PySem.W.nsIn K mainGlobals "pair_times" = some (some (.ref f1))) (l1 : K.lookup f1 = some ⟨oc1, od1, .func (PySem.W.fnOf "pair_times" "pair_times" (defArgs s_pairt) (defBody s_pairt) (defScope s_pairt) .none kV1 dc1 pm1 an1 cd1 ct1), sl1⟩) (cc1 : PySem.W.codeIn K cd1 "pair_times" = true) (k1 : PySem.W.keepIn K (.ref f1) = true)
    (a2 : PySem.W.nsIn K mainGlobals "most_frequent" = some (some (.ref f2))) (l2 : K.lookup f2 = some ⟨oc2, od2, .func (PySem.W.fnOf "most_frequent" "most_frequent" (defArgs s_most) (defBody s_most) (defScope s_most) .none kV2 dc2 pm2 an2 cd2 ct2), sl2⟩) (cc2 : PySem.W.codeIn K cd2 "most_frequent" = true) (k2 : PySem.W.keepIn K (.ref f2) = true)
    (a3 : PySem.W.nsIn K mainGlobals "with_symbol" = some (some (.ref f3))) (l3 : K.lookup f3 = some ⟨oc3, od3, .func (PySem.W.fnOf "with_symbol" "with_symbol" (defArgs s_withs) (defBody s_withs) (defScope s_withs) .none kV3 dc3 pm3 an3 cd3 ct3), sl3⟩) (cc3 : PySem.W.codeIn K cd3 "with_symbol" = true) (k3 : PySem.W.keepIn K (.ref f3) = true)
    (a4 : PySem.W.nsIn K mainGlobals "grammar_of" = some (some (.ref f4))) (l4 : K.lookup f4 = some ⟨oc4, od4, .func (PySem.W.fnOf "grammar_of" "grammar_of" (defArgs s_grof) (defBody s_grof) (defScope s_grof) .none kV4 dc4 pm4 an4 cd4 ct4), sl4⟩) (cc4 : PySem.W.codeIn K cd4 "grammar_of" = true) (k4 : PySem.W.keepIn K (.ref f4) = true)
    (a5 : PySem.W.nsIn K mainGlobals "_law_cell_at" = some (some (.ref f5))) (l5 : K.lookup f5 = some ⟨oc5, od5, .func (PySem.W.fnOf "_law_cell_at" "_law_cell_at" (defArgs s_cellat) (defBody s_cellat) (defScope s_cellat) .none kV5 dc5 pm5 an5 cd5 ct5), sl5⟩) (cc5 : PySem.W.codeIn K cd5 "_law_cell_at" = true) (k5 : PySem.W.keepIn K (.ref f5) = true)
    (a6 : PySem.W.nsIn K mainGlobals "_law_stir" = some (some (.ref f6))) (l6 : K.lookup f6 = some ⟨oc6, od6, .func (PySem.W.fnOf "_law_stir" "_law_stir" (defArgs s_stir) (defBody s_stir) (defScope s_stir) .none kV6 dc6 pm6 an6 cd6 ct6), sl6⟩) (cc6 : PySem.W.codeIn K cd6 "_law_stir" = true) (k6 : PySem.W.keepIn K (.ref f6) = true)
    (a7 : PySem.W.nsIn K mainGlobals "_law_text" = some (some (.ref f7))) (l7 : K.lookup f7 = some ⟨oc7, od7, .func (PySem.W.fnOf "_law_text" "_law_text" (defArgs s_text) (defBody s_text) (defScope s_text) .none kV7 dc7 pm7 an7 cd7 ct7), sl7⟩) (cc7 : PySem.W.codeIn K cd7 "_law_text" = true) (k7 : PySem.W.keepIn K (.ref f7) = true)
    (a8 : PySem.W.nsIn K mainGlobals "_law_put_in" = some (some (.ref f8))) (l8 : K.lookup f8 = some ⟨oc8, od8, .func (PySem.W.fnOf "_law_put_in" "_law_put_in" (defArgs s_putin) (defBody s_putin) (defScope s_putin) .none kV8 dc8 pm8 an8 cd8 ct8), sl8⟩) (cc8 : PySem.W.codeIn K cd8 "_law_put_in" = true) (k8 : PySem.W.keepIn K (.ref f8) = true)
    (a9 : PySem.W.nsIn K mainGlobals "_law_symbols" = some (some (.ref f9))) (l9 : K.lookup f9 = some ⟨oc9, od9, .func (PySem.W.fnOf "_law_symbols" "_law_symbols" (defArgs s_symb) (defBody s_symb) (defScope s_symb) .none kV9 dc9 pm9 an9 cd9 ct9), sl9⟩) (cc9 : PySem.W.codeIn K cd9 "_law_symbols" = true) (k9 : PySem.W.keepIn K (.ref f9) = true)
    (a10 : PySem.W.nsIn K mainGlobals "_law_formed" = some (some (.ref f10))) (l10 : K.lookup f10 = some ⟨oc10, od10, .func (PySem.W.fnOf "_law_formed" "_law_formed" (defArgs s_form) (defBody s_form) (defScope s_form) .none kV10 dc10 pm10 an10 cd10 ct10), sl10⟩) (cc10 : PySem.W.codeIn K cd10 "_law_formed" = true) (k10 : PySem.W.keepIn K (.ref f10) = true)
    (a11 : PySem.W.nsIn K mainGlobals "_law_pairs_once" = some (some (.ref f11))) (l11 : K.lookup f11 = some ⟨oc11, od11, .func (PySem.W.fnOf "_law_pairs_once" "_law_pairs_once" (defArgs s_once) (defBody s_once) (defScope s_once) .none kV11 dc11 pm11 an11 cd11 ct11), sl11⟩) (cc11 : PySem.W.codeIn K cd11 "_law_pairs_once" = true) (k11 : PySem.W.keepIn K (.ref f11) = true)
    (a12 : PySem.W.nsIn K mainGlobals "_law_good" = some (some (.ref f12))) (l12 : K.lookup f12 = some ⟨oc12, od12, .func (PySem.W.fnOf "_law_good" "_law_good" (defArgs s_good) (defBody s_good) (defScope s_good) .none kV12 dc12 pm12 an12 cd12 ct12), sl12⟩) (cc12 : PySem.W.codeIn K cd12 "_law_good" = true) (k12 : PySem.W.keepIn K (.ref f12) = true)
    (a13 : PySem.W.nsIn K mainGlobals "law" = some (some (.ref f13))) (l13 : K.lookup f13 = some ⟨oc13, od13, .func (PySem.W.fnOf "law" "law" (defArgs s_law) (defBody s_law) (defScope s_law) .none kV13 dc13 pm13 an13 cd13 ct13), sl13⟩) (cc13 : PySem.W.codeIn K cd13 "law" = true) (k13 : PySem.W.keepIn K (.ref f13) = true)
    (z_isinstance : PySem.W.nsIn K mainGlobals "isinstance" = some none)
    (z_list : PySem.W.nsIn K mainGlobals "list" = some none)
    (z_int : PySem.W.nsIn K mainGlobals "int" = some none)
    (z_bool : PySem.W.nsIn K mainGlobals "bool" = some none)
    (z_len : PySem.W.nsIn K mainGlobals "len" = some none)
    (z_range : PySem.W.nsIn K mainGlobals "range" = some none)
    (z_max : PySem.W.nsIn K mainGlobals "max" = some none)
    (z_ValueError : PySem.W.nsIn K mainGlobals "ValueError" = some none)
    (z_tuple : PySem.W.nsIn K mainGlobals "tuple" = some none)
    (z_min : PySem.W.nsIn K mainGlobals "min" = some none)
    (z_sorted : PySem.W.nsIn K mainGlobals "sorted" = some none)
    (z_all : PySem.W.nsIn K mainGlobals "all" = some none)
    (z_dict : PySem.W.nsIn K mainGlobals "dict" = some none)
    (z_set : PySem.W.nsIn K mainGlobals "set" = some none)
    (g_FIRST_RULE : PySem.W.nsIn K mainGlobals "FIRST_RULE" = some (some (.int 256 tk_FIRST_RULE)))
    : ∃ fd : FuncData, (∀ (s : Shared) (v : Value), BindsTo s fd ⟨[v], []⟩ [("script", v)]) ∧ ∀ base : Heap, K.In base → base.Ns mainGlobals mg → FnOk l.prog w K mg base (CXW l.prog w) 4 fa fd ["script"] (spLaw K) := by
  have e := hfa.symm.trans (PySem.W.mg_of X G a13)
  cases e
  have F1 := fun_mk (st := s_pairt) l1 cc1 k1
  have b1 := F1.binds (ps := ["row"]) fun _ _ _ _ _ _ us hl => by obtain ⟨x0, rfl⟩ := len_1 hl; rfl
  have m1 := PySem.W.mg_of X G a1
  have F2 := fun_mk (st := s_most) l2 cc2 k2
  have b2 := F2.binds (ps := ["times"]) fun _ _ _ _ _ _ us hl => by obtain ⟨x0, rfl⟩ := len_1 hl; rfl
  have m2 := PySem.W.mg_of X G a2
  have F3 := fun_mk (st := s_withs) l3 cc3 k3
  have b3 := F3.binds (ps := ["row", "pair", "symbol"]) fun _ _ _ _ _ _ us hl => by obtain ⟨x0, x1, x2, rfl⟩ := len_3 hl; rfl
  have m3 := PySem.W.mg_of X G a3
  have F4 := fun_mk (st := s_grof) l4 cc4 k4
  have b4 := F4.binds (ps := ["text"]) fun _ _ _ _ _ _ us hl => by obtain ⟨x0, rfl⟩ := len_1 hl; rfl
  have m4 := PySem.W.mg_of X G a4
  have F5 := fun_mk (st := s_cellat) l5 cc5 k5
  have b5 := F5.binds (ps := ["script", "k"]) fun _ _ _ _ _ _ us hl => by obtain ⟨x0, x1, rfl⟩ := len_2 hl; rfl
  have m5 := PySem.W.mg_of X G a5
  have F6 := fun_mk (st := s_stir) l6 cc6 k6
  have b6 := F6.binds (ps := ["cell", "k"]) fun _ _ _ _ _ _ us hl => by obtain ⟨x0, x1, rfl⟩ := len_2 hl; rfl
  have m6 := PySem.W.mg_of X G a6
  have F7 := fun_mk (st := s_text) l7 cc7 k7
  have b7 := F7.binds (ps := ["script", "most"]) fun _ _ _ _ _ _ us hl => by obtain ⟨x0, x1, rfl⟩ := len_2 hl; rfl
  have m7 := PySem.W.mg_of X G a7
  have F8 := fun_mk (st := s_putin) l8 cc8 k8
  have b8 := F8.binds (ps := ["rules", "row"]) fun _ _ _ _ _ _ us hl => by obtain ⟨x0, x1, rfl⟩ := len_2 hl; rfl
  have m8 := PySem.W.mg_of X G a8
  have F9 := fun_mk (st := s_symb) l9 cc9 k9
  have b9 := F9.binds (ps := ["some", "many"]) fun _ _ _ _ _ _ us hl => by obtain ⟨x0, x1, rfl⟩ := len_2 hl; rfl
  have m9 := PySem.W.mg_of X G a9
  have F10 := fun_mk (st := s_form) l10 cc10 k10
  have b10 := F10.binds (ps := ["found"]) fun _ _ _ _ _ _ us hl => by obtain ⟨x0, rfl⟩ := len_1 hl; rfl
  have m10 := PySem.W.mg_of X G a10
  have F11 := fun_mk (st := s_once) l11 cc11 k11
  have b11 := F11.binds (ps := ["rules", "row"]) fun _ _ _ _ _ _ us hl => by obtain ⟨x0, x1, rfl⟩ := len_2 hl; rfl
  have m11 := PySem.W.mg_of X G a11
  have F12 := fun_mk (st := s_good) l12 cc12 k12
  have b12 := F12.binds (ps := ["text"]) fun _ _ _ _ _ _ us hl => by obtain ⟨x0, rfl⟩ := len_1 hl; rfl
  have m12 := PySem.W.mg_of X G a12
  have F13 := fun_mk (st := s_law) l13 cc13 k13
  have n_isinstance := PySem.W.mg_none_of X G z_isinstance
  have n_list := PySem.W.mg_none_of X G z_list
  have n_int := PySem.W.mg_none_of X G z_int
  have n_bool := PySem.W.mg_none_of X G z_bool
  have n_len := PySem.W.mg_none_of X G z_len
  have n_range := PySem.W.mg_none_of X G z_range
  have n_max := PySem.W.mg_none_of X G z_max
  have n_ValueError := PySem.W.mg_none_of X G z_ValueError
  have n_tuple := PySem.W.mg_none_of X G z_tuple
  have n_min := PySem.W.mg_none_of X G z_min
  have n_sorted := PySem.W.mg_none_of X G z_sorted
  have n_all := PySem.W.mg_none_of X G z_all
  have n_dict := PySem.W.mg_none_of X G z_dict
  have n_set := PySem.W.mg_none_of X G z_set
  refine ⟨PySem.W.fnOf "law" "law" (defArgs s_law) (defBody s_law) (defScope s_law) .none kV13 dc13 pm13 an13 cd13 ct13, fun s v => .of_eq rfl, fun base _ _ => ?_⟩
  have m_FR : FRg mg := ⟨_, PySem.W.mg_of X G g_FIRST_RULE, ⟨_, rfl⟩⟩
  have B : Bls mg := ⟨n_isinstance, n_list, n_int, n_bool, n_len, n_range, n_max, n_ValueError, n_tuple, n_min, n_sorted, n_all, n_dict⟩
  have G_pairt := ok_pairt (P := l.prog) (w := w) (mg := mg) (base := base) F1 B
  have G_most := ok_most (P := l.prog) (w := w) (mg := mg) (base := base) F2 B
  have G_withs := ok_withs (P := l.prog) (w := w) (mg := mg) (base := base) F3 B
  have G_grof := ok_grof (P := l.prog) (w := w) (mg := mg) (base := base) F4 B m_FR G_pairt b1 k1 m1 G_most b2 k2 m2 G_withs b3 k3 m3
  have G_cellat := ok_cellat (P := l.prog) (w := w) (mg := mg) (base := base) F5 B
  have G_stir := ok_stir (P := l.prog) (w := w) (mg := mg) (base := base) F6 B
  have G_text := ok_text (P := l.prog) (w := w) (mg := mg) (base := base) F7 B G_cellat b5 k5 m5 G_stir b6 k6 m6
  have G_putin := ok_putin (P := l.prog) (w := w) (mg := mg) (base := base) F8 B
  have G_symb := ok_symb (P := l.prog) (w := w) (mg := mg) (base := base) F9 B
  have G_form := ok_form (P := l.prog) (w := w) (mg := mg) (base := base) F10 B G_symb b9 k9 m9
  have G_once := ok_once (P := l.prog) (w := w) (mg := mg) (base := base) F11 B n_set
  have G_good := ok_good (P := l.prog) (w := w) (mg := mg) (base := base) F12 B G_grof b4 k4 m4 G_putin b8 k8 m8 G_form b10 k10 m10 G_once b11 k11 m11
  exact ok_law (P := l.prog) (w := w) (mg := mg) (base := base) F13 B G_cellat b5 k5 m5 G_text b7 k7 m7 G_good b12 k12 m12
theorem walk {l : PySem.W.OpenLaw} {q : Program} {loose : List Str} {XP : (Str → Option Value) → Heap → Prop} {YP : World → Heap → Prop} {d : DefRec} {K : Params → PySem.W.Frag} (hn : l.most = some 63) (hdf : d.params.defaults = [])
    (hY : ∀ (w : World) (h : Heap), YP w h → (K w.params).In h)
    (F : ∀ (w : World) (mg : Str → Option Value) (fa : Addr) (h : Heap), (K w.params).In h → h.Ns mainGlobals mg → mg d.name = some (.ref fa) →
      ∃ fd : FuncData, (∀ (s : Shared) (u : Value), BindsTo s fd ⟨[u], []⟩ [("script", u)]) ∧ ∀ base : Heap, (K w.params).In base → base.Ns mainGlobals mg → FnOk l.prog w (K w.params) mg base (CXW l.prog w) 4 fa fd ["script"] (spLaw (K w.params))) :
    PySem.W.WalkO q loose XP YP l.row.toRowW d [] (fun f vs => PySem.call f vs) :=
  L2.walk_of (n := 63) (k := 4) (x := "script") (CX := fun w => CXW l.prog w) (sp := fun w => spLaw (K w.params)) hn (by decide) hdf ⟨rfl, by decide, by decide⟩ hY F (fun _ _ a ns hl _ hS => ⟨a, ns, rfl, hS, hl, fun _ => rfl⟩) fun _ _ _ _ _ z => by
    obtain ⟨_, _, _, _, _, _, _, _, _, _, _, _, _, hE⟩ := z
    exact hE
end
end K38
theorem PySem.W.Fast.tw8763555737731392420:True:=trivial
theorem PySem.W.Fast.tw12080947615997292937:True:=trivial
theorem PySem.W.Fast.tw15848048623034453989:True:=trivial
theorem PySem.W.Fast.tw14065184204093372638:True:=trivial
theorem PySem.W.Fast.tw14911882411691107793:True:=trivial
theorem PySem.W.Fast.tw7151612195821506500:True:=trivial
theorem PySem.W.Fast.tw14607012009527070878:True:=trivial
theorem PySem.W.Fast.tw12419365197821131862:True:=trivial
theorem PySem.W.Fast.tw11469341135899691519:True:=trivial
theorem PySem.W.Fast.tw12393699918003732276:True:=trivial
theorem PySem.W.Fast.tw13687622465318068177:True:=trivial
theorem PySem.W.Fast.tw4980300052312475729:True:=trivial
theorem PySem.W.Fast.tw5720729778434809728:True:=trivial
theorem PySem.W.Fast.tw6737729478952637679:True:=trivial
theorem PySem.W.Fast.tw8522697180787038266:True:=trivial
theorem PySem.W.Fast.tw15330097082453518809:True:=trivial
theorem PySem.W.Fast.tw6690559952701966278:True:=trivial
open PySem PySem.W PyProof.Rows
set_option maxRecDepth 100000 in
set_option maxHeartbeats 0 in
theorem PySem.Challenge.cw_packhall_k38_grammar_of_texts_holds : PySem.Challenge.rw_packhall_k38_grammar_of_texts.Holds := by
  w_on; o_law; k_head; (case hw => w_witness2)
  k_fill
  refine K38.walk (l := PySem.Challenge.rw_packhall_k38_grammar_of_texts) rfl rfl (fun w h Y => PySem.W.kIn_of Y) ?F
  case F =>
    intro w mg fa h KX G hmg
    refine' K38.all_mk KX G hmg ?a1 ?l1 ?cc1 ?k1 ?a2 ?l2 ?cc2 ?k2 ?a3 ?l3 ?cc3 ?k3 ?a4 ?l4 ?cc4 ?k4 ?a5 ?l5 ?cc5 ?k5 ?a6 ?l6 ?cc6 ?k6 ?a7 ?l7 ?cc7 ?k7 ?a8 ?l8 ?cc8 ?k8 ?a9 ?l9 ?cc9 ?k9 ?a10 ?l10 ?cc10 ?k10 ?a11 ?l11 ?cc11 ?k11 ?a12 ?l12 ?cc12 ?k12 ?a13 ?l13 ?cc13 ?k13 ?z_isinstance ?z_list ?z_int ?z_bool ?z_len ?z_range ?z_max ?z_ValueError ?z_tuple ?z_min ?z_sorted ?z_all ?z_dict ?z_set ?g_FIRST_RULE
    (case a1 => k_is)
    (case l1 => k_is)
    (case cc1 => k_is)
    (case k1 => k_is)
    (case a2 => k_is)
    (case l2 => k_is)
    (case cc2 => k_is)
    (case k2 => k_is)
    (case a3 => k_is)
    (case l3 => k_is)
    (case cc3 => k_is)
    (case k3 => k_is)
    (case a4 => k_is)
    (case l4 => k_is)
    (case cc4 => k_is)
    (case k4 => k_is)
    (case a5 => k_is)
    (case l5 => k_is)
    (case cc5 => k_is)
    (case k5 => k_is)
    (case a6 => k_is)
    (case l6 => k_is)
    (case cc6 => k_is)
    (case k6 => k_is)
    (case a7 => k_is)
    (case l7 => k_is)
    (case cc7 => k_is)
    (case k7 => k_is)
    (case a8 => k_is)
    (case l8 => k_is)
    (case cc8 => k_is)
    (case k8 => k_is)
    (case a9 => k_is)
    (case l9 => k_is)
    (case cc9 => k_is)
    (case k9 => k_is)
    (case a10 => k_is)
    (case l10 => k_is)
    (case cc10 => k_is)
    (case k10 => k_is)
    (case a11 => k_is)
    (case l11 => k_is)
    (case cc11 => k_is)
    (case k11 => k_is)
    (case a12 => k_is)
    (case l12 => k_is)
    (case cc12 => k_is)
    (case k12 => k_is)
    (case a13 => k_is)
    (case l13 => k_is)
    (case cc13 => k_is)
    (case k13 => k_is)
    (case z_isinstance => k_is)
    (case z_list => k_is)
    (case z_int => k_is)
    (case z_bool => k_is)
    (case z_len => k_is)
    (case z_range => k_is)
    (case z_max => k_is)
    (case z_ValueError => k_is)
    (case z_tuple => k_is)
    (case z_min => k_is)
    (case z_sorted => k_is)
    (case z_all => k_is)
    (case z_dict => k_is)
    (case z_set => k_is)
    (case g_FIRST_RULE => k_is)

