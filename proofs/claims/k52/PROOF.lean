import PyProof.Rows.All
import Wide.All
import OpenK.AllK
import Wide.FinOn
import Lean
import PyProof.EqAt
import PyProof.EqKinds
import PyProof.TupleCall
import PyProof.NsDelKeeps
import PyProof.NeKinds
import PySem.Challenge.RW_packhall_k52_shares_of_small_texts
local macro_rules | `(tactic| trivial) => `(tactic| first | with_reducible assumption | lia | omega)
set_option Elab.async false
set_option linter.all false
set_option maxRecDepth 100000
namespace L2
open PySem PySem.Spec PyProof.Rows
noncomputable abbrev Key := Sum Int Str
noncomputable def keyIs : Key → Value → Bool
  | .inl k, v => Value.isInt k v
  | .inr x, v => Value.isStrOf x v
noncomputable def keyH (w : World) : Key → Int
  | .inl k => hashInt k
  | .inr x => hashStr w x
theorem keyIs_shape : ∀ {k : Key} {v : Value}, keyIs k v = true → (∃ i t, k = Sum.inl i ∧ v = Value.int i t) ∨ (∃ x t, k = Sum.inr x ∧ v = Value.str x t)
  | .inl i, v, h => by
    obtain ⟨t, e⟩ := Value.isInt_shape (k := i) (v := v) h
    exact .inl ⟨i, t, rfl, e⟩
  | .inr x, v, h => by
    obtain ⟨t, e⟩ := Value.isStrOf_shape (x := x) (v := v) h
    exact .inr ⟨x, t, rfl, e⟩
theorem keyIs_int (i : Int) (t : Tok) : keyIs (.inl i) (.int i t) = true := by simp [keyIs, Value.isInt]
theorem keyIs_str (x : Str) (t : Tok) : keyIs (.inr x) (.str x t) = true := by simp [keyIs, Value.isStrOf]
theorem key_ll (a b : Int) : decide ((Sum.inl a : Key) = Sum.inl b) = (a == b) := by
  by_cases e : a = b
  · subst e; simp
  · have h : ¬ (Sum.inl a : Key) = Sum.inl b := fun q => e (Sum.inl.inj q)
    rw [decide_eq_false h]
    exact (beq_eq_false_iff_ne.mpr e).symm
theorem key_rr (a b : Str) : decide ((Sum.inr a : Key) = Sum.inr b) = decide (a = b) := by
  by_cases e : a = b
  · subst e; simp
  · have h : ¬ (Sum.inr a : Key) = Sum.inr b := fun q => e (Sum.inr.inj q)
    rw [decide_eq_false h, decide_eq_false e]
theorem key_lr (a : Int) (b : Str) : decide ((Sum.inl a : Key) = Sum.inr b) = false := decide_eq_false (fun q => nomatch q)
theorem key_rl (a : Str) (b : Int) : decide ((Sum.inr a : Key) = Sum.inl b) = false := decide_eq_false (fun q => nomatch q)
noncomputable def mixKind (prog : Program) (w : World) : PySem.KeyKind prog w Key where
  is := keyIs
  hash := keyH w
  inj := fun v a b ha hb => by
    rcases keyIs_shape ha with ⟨i, t, rfl, rfl⟩ | ⟨x, t, rfl, rfl⟩
    · rcases keyIs_shape hb with ⟨j, u, rfl, e⟩ | ⟨y, u, rfl, e⟩
      · injection e with e1 _; rw [e1]
      · exact nomatch e
    · rcases keyIs_shape hb with ⟨j, u, rfl, e⟩ | ⟨y, u, rfl, e⟩
      · exact nomatch e
      · injection e with e1 _; rw [e1]
  byValue := fun k v h => by
    rcases keyIs_shape h with ⟨i, t, rfl, rfl⟩ | ⟨x, t, rfl, rfl⟩ <;> rfl
  pyHash := fun hv h => by
    rcases keyIs_shape hv with ⟨i, t, rfl, rfl⟩ | ⟨x, t, rfl, rfl⟩
    · exact wpAny_pyHash_int h
    · exact wpAny_pyHash_str h
  eqBool := fun hu hv h => by
    rcases keyIs_shape hu with ⟨i, t, rfl, rfl⟩ | ⟨x, t, rfl, rfl⟩
    · rcases keyIs_shape hv with ⟨j, u, rfl, rfl⟩ | ⟨y, u, rfl, rfl⟩
      · rw [key_ll] at h; exact wpAny_eqBool_int h
      · rw [key_lr] at h; exact SeqAt.EqAt.int_str i t y u _ _ _ _ h
    · rcases keyIs_shape hv with ⟨j, u, rfl, rfl⟩ | ⟨y, u, rfl, rfl⟩
      · rw [key_rl] at h; exact SeqAt.EqAt.str_int x t j u _ _ _ _ h
      · rw [key_rr] at h; exact wpAny_eqBool_str h
  «strs» := fun k x t v h => by
    rcases keyIs_shape h with ⟨i, u, rfl, e⟩ | ⟨y, u, rfl, e⟩
    · exact nomatch e
    · injection e with e1 _
      subst e1
      cases v <;> rfl
theorem mixKind_int (prog : Program) (w : World) (i : Int) (t : Tok) : (mixKind prog w).is (.inl i) (.int i t) = true := keyIs_int i t
theorem mixKind_str (prog : Program) (w : World) (x : Str) (t : Tok) : (mixKind prog w).is (.inr x) (.str x t) = true := keyIs_str x t
end L2
namespace L2
open PySem PySem.Spec PyProof.Rows
inductive V where
  | non | bl (b : Bool) | int (i : Int) | str (x : Str) | byt (b : Array UInt8) | flt (b : UInt64) | ref (a : Addr) | ty (n : String)
  deriving DecidableEq
noncomputable def RelV : V → Value → Prop
  | .non, u => u = Value.none
  | .bl b, u => u = Value.bool b
  | .int i, u => ∃ t, u = Value.int i t
  | .str x, u => ∃ t, u = Value.str x t
  | .byt b, u => ∃ t, u = Value.bytes b t
  | .flt b, u => ∃ t, u = Value.float b t
  | .ref a, u => u = Value.ref a
  | .ty n, u => u = Value.type n
noncomputable abbrev Vals : List V → List Value → Prop := Paired RelV
theorem Vals.length {xs : List V} {us : List Value} (r : Vals xs us) : xs.length = us.length := Paired.length r
theorem Vals.get : ∀ {xs : List V} {us : List Value} {i : Nat} {x : V}, Vals xs us → xs[i]? = some x → ∃ u, us[i]? = some u ∧ RelV x u
  | _, _, _, _, .nil, e => by simp at e
  | _, _, 0, _, .cons r _, e => by simp at e; subst e; exact ⟨_, rfl, r⟩
  | _, _, i + 1, x, .cons _ t, e => by
    obtain ⟨u, h1, h2⟩ := Vals.get (i := i) (x := x) t (by simpa using e)
    exact ⟨u, by simpa using h1, h2⟩
theorem Vals.set {x : V} {u : Value} (r : RelV x u) : ∀ {xs : List V} {us : List Value} (i : Nat), Vals xs us → Vals (xs.set i x) (us.set i u)
  | _, _, _, .nil => .nil
  | _, _, 0, .cons _ t => .cons r t
  | _, _, i + 1, .cons q t => .cons q (Vals.set r i t)
theorem Vals.append : ∀ {xs ys : List V} {us ws : List Value}, Vals xs us → Vals ys ws → Vals (xs ++ ys) (us ++ ws)
  | _, _, _, _, .nil, s => s
  | _, _, _, _, .cons r t, s => .cons r (Vals.append t s)
theorem Vals.take : ∀ {xs : List V} {us : List Value} (n : Nat), Vals xs us → Vals (xs.take n) (us.take n)
  | _, _, 0, _ => .nil
  | _, _, _ + 1, .nil => .nil
  | _, _, n + 1, .cons r t => .cons r (Vals.take n t)
theorem Vals.drop : ∀ {xs : List V} {us : List Value} (n : Nat), Vals xs us → Vals (xs.drop n) (us.drop n)
  | _, _, 0, r => r
  | _, _, _ + 1, .nil => .nil
  | _, _, n + 1, .cons _ t => Vals.drop n t
noncomputable def RelO : Option V → Option Value → Prop
  | some v, some u => RelV v u
  | none, none => True
  | _, _ => False
noncomputable def KV {κ : Type} : List (κ × V) → List (κ × Value) → Prop := Paired fun (p : κ × V) (q : κ × Value) => p.1 = q.1 ∧ RelV p.2 q.2
noncomputable def kV : Key → V
  | .inl i => .int i
  | .inr x => .str x
inductive HO where
  /-- a list -/
  | lst (xs : List V)
  /-- a tuple (never changes) -/
  | tup (xs : List V)
  /-- a dict whose keys are ints and texts; one whose keys are tuples of ints and texts (the empty one is both) -/
  | dK (kvs : List (Key × V)) | dT (kvs : List (List Key × V))
  /-- a set of ints: its members, its size -/
  | set (S : Int → Bool) (n : Nat)
  /-- an instance of the class at C, its dict at dx, its attributes -/
  | ins (C dx : Addr) (fs : List (Str × V))
  /-- the dict of the instance at x -/
  | own (x : Addr)
  /-- the dict of an exception -/
  | xd (fs : List (Str × V))
  /-- a bound method, f of x -/
  | met (f x : Addr)
  /-- a range object lo, lo + 1, .. below hi -/
  | rng (lo hi : Int)
  /-- a thing that is known to the object (the script; a dict while a loop walks it): read, never written while it is so -/
  | frz (o : Obj) (u : HO)
  /-- a code object's table -/
  | tbl (ps : Array Value)
  /-- any other thing, by what is true of its one object (a def of one's own: SetO a S n := HO.ext fun h => ..) -/
  | ext (φ : Heap → Prop)
noncomputable abbrev Hp := Addr → Option HO
noncomputable def upd (H : Hp) (a : Addr) (o : HO) : Hp := fun b => if b = a then some o else H b
theorem upd_same {H : Hp} {a : Addr} {o : HO} : upd H a o a = some o := by unfold upd; rw [if_pos rfl]
theorem upd_ne {H : Hp} {a b : Addr} {o : HO} (h : b ≠ a) : upd H a o b = H b := by unfold upd; rw [if_neg h]
theorem upd_upd {H : Hp} {a : Addr} {o u : HO} : upd (upd H a o) a u = upd H a u := by
  funext b; unfold upd; split <;> rfl
theorem ne_of {H : Hp} {a b : Addr} {o u : HO} (h : H a = some o) (h' : H b = some u) (d : o ≠ u) : a ≠ b := by
  intro e; subst e; rw [h] at h'; exact d (Option.some.inj h')
theorem ne_of_none {H : Hp} {a b : Addr} {o : HO} (h : H a = some o) (h' : H b = none) : a ≠ b := by
  intro e; subst e; rw [h] at h'; cases h'
section
variable (P : Program) (w : World)
noncomputable def ObjOk (H : Hp) (h : Heap) (a : Addr) : HO → Prop
  | .lst xs => xs.length ≤ sizeLine ∧ ∃ (its : List Value) (n : Nat), Vals xs its ∧ h.get? a = some { cls := .type "list", data := .seq its.toArray n }
  | .tup xs => xs.length ≤ sizeLine ∧ ∃ its : List Value, Vals xs its ∧ IsTup h a its.toArray
  | .dK kvs => kvs.length ≤ sizeLine ∧ (a == sysModules) = false ∧ ∃ vs, KV kvs vs ∧ h.DictOf (mixKind P w) a vs
  | .dT kvs => kvs.length ≤ sizeLine ∧ (a == sysModules) = false ∧ ∃ xs : List (List Key × Addr × Value),
      Paired (fun (p : List Key × V) (q : List Key × Addr × Value) => p.1 = q.1 ∧ H q.2.1 = some (.tup (p.1.map kV)) ∧ RelV p.2 q.2.2) kvs xs ∧
      ∃ o es ep, h.get? a = some o ∧ o.ExactDict ∧ o.data = .dict es ep ∧ es.toList = xs.map (entryOfKey (tupleKind (mixKind P w))) ∧ (xs.map (·.1)).Nodup
  | .set S n => h.SetOf (intKind P w) a S n
  | .ins C dx fs => H dx = some (.own a) ∧ fs.length ≤ 1000 ∧ dx ≠ a ∧ h.get? a = some (PySem.W.instObj C dx) ∧
      ∃ mA, h.Ns1 dx mA ∧ (∀ f, RelO (fs.lookup f) (mA f)) ∧ PySem.Within mA (fs.map (·.1))
  | .own _ => ∃ o, h.get? a = some o
  | .xd fs => ∃ mA, h.Ns1 a mA ∧ ∀ f, RelO (fs.lookup f) (mA f)
  | .rng lo hi => ∃ t u v, h.get? a = some { cls := .type "range", data := .fields #[.int lo t, .int hi u, .int 1 v] }
  | .frz o u => h.get? a = some o ∧ ObjOk H h a u
  | .tbl ps => h.get? a = some { cls := .none, data := .fields ps }
  | .met f x => h.get? a = some (PySem.W.methodObj (.ref f) (.ref x))
  | .ext φ => φ h ∧ (∃ o, h.get? a = some o) ∧ ∀ h1 h2 : Heap, φ h1 → (∀ o, h1.get? a = some o → h2.get? a = some o) → φ h2
noncomputable def HOk (H : Hp) (h : Heap) : Prop := ∀ a o, H a = some o → ObjOk P w H h a o
end
section
variable {P : Program} {w : World} {H H' : Hp} {h h' : Heap} {a : Addr} {o : HO}
theorem ObjOk.lt (x : ObjOk P w H h a o) : a < h.objs.size := by
  cases o with
  | lst xs => obtain ⟨_, _, _, _, e⟩ := x; exact Heap.lt_size e
  | tup xs => obtain ⟨_, _, _, p⟩ := x; exact p.lt
  | dK kvs => obtain ⟨_, _, _, _, o, _, _, e, _⟩ := x; exact Heap.lt_size e
  | dT kvs => obtain ⟨_, _, _, _, o, _, _, e, _⟩ := x; exact Heap.lt_size e
  | set S n => obtain ⟨o, _, _, _, e, _⟩ := x; exact Heap.lt_size e
  | ins C dx fs => obtain ⟨_, _, _, e, _⟩ := x; exact Heap.lt_size e
  | own y => obtain ⟨_, e⟩ := x; exact Heap.lt_size e
  | xd fs => obtain ⟨_, ⟨_, _, _, e, _⟩, _⟩ := x; exact Heap.lt_size e
  | rng lo hi => obtain ⟨_, _, _, e⟩ := x; exact Heap.lt_size e
  | frz ob u => obtain ⟨e, _⟩ := x; exact Heap.lt_size e
  | tbl ps => exact Heap.lt_size (show h.get? a = some _ from x)
  | met f y => exact Heap.lt_size (show h.get? a = some _ from x)
  | ext φ => obtain ⟨_, ⟨_, e⟩, _⟩ := x; exact Heap.lt_size e
theorem Paired.mapP {α β : Type} {F G : α → β → Prop} : ∀ {l₁ : List α} {l₂ : List β}, Paired F l₁ l₂ → (∀ a b, F a b → G a b) → Paired G l₁ l₂
  | _, _, .nil, _ => .nil
  | _, _, .cons r t, f => .cons (f _ _ r) (Paired.mapP t f)
theorem ObjOk.stay (x : ObjOk P w H h a o) (k : ∀ b u, (b = a ∨ H b = some (.own a)) → h.get? b = some u → h'.get? b = some u)
    (ho : ∀ b, H b = some (.own a) → H' b = some (.own a)) (ht : ∀ b xs, H b = some (.tup xs) → H' b = some (.tup xs)) : ObjOk P w H' h' a o := by
  induction o with
  | lst xs => obtain ⟨z, its, n, r, e⟩ := x; exact ⟨z, its, n, r, k _ _ (.inl rfl) e⟩
  | tup xs => obtain ⟨z, its, r, ob, e, c⟩ := x; exact ⟨z, its, r, ob, k _ _ (.inl rfl) e, c⟩
  | dK kvs => obtain ⟨z, y, vs, r, ob, es, ep, e, c⟩ := x; exact ⟨z, y, vs, r, ob, es, ep, k _ _ (.inl rfl) e, c⟩
  | dT kvs =>
    obtain ⟨z, y, xs, r, ob, es, ep, e, c⟩ := x
    exact ⟨z, y, xs, Paired.mapP r fun p q z => ⟨z.1, ht _ _ z.2.1, z.2.2⟩, ob, es, ep, k _ _ (.inl rfl) e, c⟩
  | set S n => obtain ⟨ob, es, ep, t, e, c⟩ := x; exact ⟨ob, es, ep, t, k _ _ (.inl rfl) e, c⟩
  | ins C dx fs =>
    obtain ⟨d, z, ne, e, mA, ⟨od, es, ep, e2, c⟩, r⟩ := x
    exact ⟨ho _ d, z, ne, k _ _ (.inl rfl) e, mA, ⟨od, es, ep, k _ _ (.inr d) e2, c⟩, r⟩
  | own y => obtain ⟨ob, e⟩ := x; exact ⟨ob, k _ _ (.inl rfl) e⟩
  | xd fs => obtain ⟨mA, ⟨od, es, ep, e, c⟩, r⟩ := x; exact ⟨mA, ⟨od, es, ep, k _ _ (.inl rfl) e, c⟩, r⟩
  | rng lo hi => obtain ⟨t, u, v, e⟩ := x; exact ⟨t, u, v, k _ _ (.inl rfl) e⟩
  | frz ob u ih => obtain ⟨e, q⟩ := x; exact ⟨k _ _ (.inl rfl) e, ih q⟩
  | tbl ps =>
    have e : h.get? a = some { cls := .none, data := .fields ps } := x
    show h'.get? a = some { cls := .none, data := .fields ps }
    exact k a _ (.inl rfl) e
  | met f y =>
    have e : h.get? a = some (PySem.W.methodObj (.ref f) (.ref y)) := x
    show h'.get? a = some (PySem.W.methodObj (.ref f) (.ref y))
    exact k a _ (.inl rfl) e
  | ext φ => obtain ⟨p, ⟨o, e⟩, st⟩ := x; exact ⟨st _ _ p fun o q => k _ _ (.inl rfl) q, ⟨o, k _ _ (.inl rfl) e⟩, st⟩
theorem HOk.lt (x : HOk P w H h) (e : H a = some o) : a < h.objs.size := (x a o e).lt
theorem HOk.fresh (x : HOk P w H h) (e : h.objs.size ≤ a) : H a = none := by
  cases q : H a with
  | none => rfl
  | some u => exact absurd (Nat.lt_of_lt_of_le (x.lt q) e) (Nat.lt_irrefl _)
theorem HOk.kept (x : HOk P w H h) (k : ∀ b u, h.get? b = some u → h'.get? b = some u) : HOk P w H h' := fun a o e =>
  (x a o e).stay (fun b u _ q => k b u q) (fun _ q => q) fun _ _ q => q
theorem HOk.laid (x : HOk P w H h) (k : ∀ b u, h.get? b = some u → h'.get? b = some u) (hp : h.objs.size ≤ a) (new : ObjOk P w (upd H a o) h' a o) : HOk P w (upd H a o) h' := fun b u e => by
  have hn := x.fresh hp
  by_cases hb : b = a
  · subst hb; rw [upd_same] at e; cases e; exact new
  · rw [upd_ne hb] at e
    exact (x b u e).stay (fun c v _ q => k c v q) (fun c q => by rw [upd_ne (ne_of_none q hn)]; exact q) fun c xs q => by rw [upd_ne (ne_of_none q hn)]; exact q
end
noncomputable def Rd (H : Hp) (a : Addr) (u : HO) : Prop := H a = some u ∨ ∃ o, H a = some (.frz o u)
theorem Rd.ok {P : Program} {w : World} {H : Hp} {h : Heap} {a : Addr} {u : HO} (r : Rd H a u) (x : HOk P w H h) : ObjOk P w H h a u := by
  rcases r with r | ⟨o, r⟩
  · exact x a u r
  · obtain ⟨_, q⟩ := x a _ r
    exact q
noncomputable def Mut : Option HO → Prop
  | some (.lst _) => True
  | some (.dK _) => True
  | some (.dT _) => True
  | some (.set _ _) => True
  | some (.ins _ _ _) => True
  | some (.ext _) => True
  | _ => False
section
variable {P : Program} {w : World} {H : Hp} {h h' : Heap} {x e : Addr} {o' : HO}
theorem HOk.write (ok : HOk P w H h) (mu : Mut (H x)) (he : e = x ∨ H e = some (.own x)) (k : ∀ b u, b ≠ e → h.get? b = some u → h'.get? b = some u) (heo : ∃ u, h'.get? e = some u)
    (new : ObjOk P w (upd H x o') h' x o') : HOk P w (upd H x o') h' := fun b u q => by
  have nown : ∀ c y, H c = some (.own y) → c ≠ x := fun c y r z => by subst z; rw [r] at mu; exact mu
  have ntup : ∀ c xs, H c = some (.tup xs) → c ≠ x := fun c xs r z => by subst z; rw [r] at mu; exact mu
  by_cases hb : b = x
  · subst hb; rw [upd_same] at q; cases q; exact new
  · rw [upd_ne hb] at q
    by_cases hbe : b = e
    · have q' : H b = some (.own x) := by
        rcases he with z | z
        · exact absurd (hbe.trans z) hb
        · rw [hbe]; exact z
      rw [q] at q'; cases q'
      obtain ⟨v, hv⟩ := heo
      exact ⟨v, by rw [hbe]; exact hv⟩
    · refine (ok b u q).stay (fun c v hc r => k c v ?_ r) (fun c r => by rw [upd_ne (nown c b r)]; exact r) fun c xs r => by rw [upd_ne (ntup c xs r)]; exact r
      rcases hc with rfl | hc
      · exact hbe
      · rintro rfl
        rcases he with z | z
        · exact nown c b hc z
        · rw [hc] at z; cases z; exact hb rfl
end
structure Un (fs ex : List Addr) (H H' : Hp) (h h' : Heap) : Prop where
  keep : ∀ b o, h.get? b = some o → H b = none → b ∉ fs → b ∉ ex → h'.get? b = some o
  slot : ∀ b o, h.get? b = some o → H b = none → b ∈ fs → b ∉ ex → ∃ sl, h'.get? b = some { o with slots := sl }
  free : ∀ b o, h.get? b = some o → H b = none → b ∉ ex → H' b = none
  there : ∀ b o, h.get? b = some o → b ∉ ex → ∃ o', h'.get? b = some o'
  tups : ∀ b xs, H b = some (.tup xs) → H' b = some (.tup xs)
  frzs : ∀ b o u, H b = some (.frz o u) → H' b = some (.frz o u)
  tbls : ∀ b ps, H b = some (.tbl ps) → ∃ more, H' b = some (.tbl (ps ++ more))
section
variable {fs fs' ex ex' : List Addr} {H H1 H2 : Hp} {h h1 h2 h' : Heap} {a x e : Addr} {o : HO}
theorem Un.any (u : Un fs ex H H1 h h1) {b : Addr} {ob : Obj} (q : h.get? b = some ob) (n : H b = none) (hx : b ∉ ex) : ∃ sl, h1.get? b = some { ob with slots := sl } := by
  by_cases hb : b ∈ fs
  · exact u.slot b ob q n hb hx
  · exact ⟨ob.slots, u.keep b ob q n hb hx⟩
theorem Un.kept (k : ∀ b u, h.get? b = some u → h'.get? b = some u) : Un fs ex H H h h' :=
  ⟨fun b ob q _ _ _ => k b ob q, fun b ob q _ _ _ => ⟨ob.slots, k b ob q⟩, fun _ _ _ n _ => n, fun b ob q _ => ⟨ob, k b ob q⟩, fun _ _ q => q, fun _ _ _ q => q, fun _ ps q => ⟨#[], by rw [q]; simp⟩⟩
theorem Un.refl : Un fs ex H H h h := Un.kept fun _ _ q => q
theorem Un.laid (k : ∀ b u, h.get? b = some u → h'.get? b = some u) (hp : h.objs.size ≤ a) (hn : H a = none) : Un fs ex H (upd H a o) h h' where
  keep := fun b u q _ _ _ => k b u q
  slot := fun b u q _ _ _ => ⟨u.slots, k b u q⟩
  free := fun b u q n _ => by rw [upd_ne (Nat.ne_of_lt (Nat.lt_of_lt_of_le (Heap.lt_size q) hp))]; exact n
  there := fun b u q _ => ⟨u, k b u q⟩
  tups := fun b xs q => by rw [upd_ne (ne_of_none q hn)]; exact q
  frzs := fun b u xs q => by rw [upd_ne (ne_of_none q hn)]; exact q
  tbls := fun b ps q => ⟨#[], by rw [upd_ne (ne_of_none q hn), q]; simp⟩
theorem Un.write (mu : Mut (H x)) (he : e = x ∨ H e = some (.own x)) (k : ∀ b u, b ≠ e → h.get? b = some u → h'.get? b = some u) (heo : ∃ u, h'.get? e = some u) : Un fs ex H (upd H x o) h h' := by
  have hx : ∀ b, H b = none → b ≠ x := fun b n z => by subst z; rw [n] at mu; exact mu
  have hb : ∀ b, H b = none → b ≠ e := fun b n z => by
    subst z
    rcases he with r | r
    · exact hx b n r
    · rw [n] at r; cases r
  have hm : ∀ b u, H b = some u → ¬ Mut (some u) → b ≠ x := fun b u q nm z => by subst z; rw [q] at mu; exact nm mu
  refine ⟨fun b u q n _ _ => k b u (hb b n) q, fun b u q n _ _ => ⟨u.slots, k b u (hb b n) q⟩, fun b u q n _ => by rw [upd_ne (hx b n)]; exact n, fun b u q _ => ?_,
    fun b xs q => by rw [upd_ne (hm b _ q fun z => z)]; exact q, fun b u xs q => by rw [upd_ne (hm b _ q fun z => z)]; exact q, fun b ps q => ⟨#[], by rw [upd_ne (hm b _ q fun z => z), q]; simp⟩⟩
  by_cases hbe : b = e
  · subst hbe; exact heo
  · exact ⟨u, k b u hbe q⟩
end
noncomputable def trk (h : Heap) (H : Hp) : List Addr := (List.range h.objs.size).filter fun a => (H a).isSome
noncomputable def hidT (h : Heap) (H : Hp) : Heap := PySem.W.hideAll h (trk h H)
theorem hidT_size (h : Heap) (H : Hp) : (hidT h H).objs.size = h.objs.size := PySem.W.hideAll_size _ _
theorem hidT_get {h : Heap} {H : Hp} {b : Addr} {o : Obj} (e : h.get? b = some o) (n : H b = none) : (hidT h H).get? b = some o :=
  PySem.W.hideAll_get _ e fun hm => by
    have q : (H b).isSome = true := (List.mem_filter.mp hm).2
    rw [n] at q; simp at q
theorem of_hidT {h : Heap} {H : Hp} {b : Addr} {o : Obj} (e : (hidT h H).get? b = some o) : h.get? b = some o ∧ H b = none := by
  have e' : h.get? b = some o := PySem.W.of_hideAll (trk h H) e
  refine ⟨e', ?_⟩
  cases q : H b with
  | none => rfl
  | some x =>
    have hm : b ∈ trk h H := List.mem_filter.mpr ⟨List.mem_range.mpr (Heap.lt_size e'), by simp [q]⟩
    have z : (hidT h H).get? b = none := PySem.W.hideAll_none (trk h H) hm
    rw [z] at e; cases e
end L2
namespace L2
open PySem PySem.Spec PyProof.Rows
structure Mod (K : PySem.W.Frag) (mg : Str → Option Value) (base : Heap) : Prop where
  kin : K.In base
  glob : base.Ns mainGlobals mg
  blt : ∃ mb, base.Ns builtinsNs mb ∧ ∀ x : Str, x ≠ "__name__" → mb x = bootBuiltins x
  nolimit : base.NoLimit
structure Cx where
  prog : Program
  w : World
  K : PySem.W.Frag
  mg : Str → Option Value
  base : Heap
  A : Around
  N : List Str
  s₀ : Shared
  H₀ : Hp
  env : Env
  outer : List Env
  stack : List Env
  ex : List Addr
  fn : Str → Bool
  calm : Bool
  pn : List (Addr × Obj)
  xe : Value → Shared → Prop
noncomputable def frs (l : List Env) : List Addr := l.filterMap (·.frame)
noncomputable abbrev Cx.fs (X : Cx) : List Addr := frs X.outer
noncomputable def Vis (sc : Scope) (x : Str) : Prop := sc.names.lookup x = some .local ∨ sc.names.lookup x = some .cell ∨ sc.names.lookup x = some .free
noncomputable def Loc (sc : Scope) (x : Str) : Prop := sc.names.lookup x = some .local ∨ sc.names.lookup x = some .cell
noncomputable def Look (env : Env) (h : Heap) (m : Str → Option Value) (x : Str) (u : Value) : Prop :=
  (env.kindOf x = some .local ∧ m x = some u) ∨ ((env.kindOf x = some .cell ∨ env.kindOf x = some .free) ∧ ∃ c, env.cells.lookup x = some c ∧ h.IsCell c (some u))
structure Cx.Ok (X : Cx) : Prop where
  mod : Mod X.K X.mg X.base
  kind : X.env.scope.kind = .function
  glob : X.env.globals = mainGlobals
  blt : X.env.builtins = builtinsNs
  above : X.s₀.heap.objs.size ≤ X.env.locals
  inj : ∀ x y c, X.env.cells.lookup x = some c → X.env.cells.lookup y = some c → x = y
  has : ∀ x, (X.env.kindOf x = some .cell ∨ X.env.kindOf x = some .free) → ∃ c, X.env.cells.lookup x = some c
  cab : ∀ x c, X.fn x = true → X.env.cells.lookup x = some c → X.s₀.heap.objs.size ≤ c
  hd : X.calm = true → X.A.handled = none
  frames : X.A.frames = some X.stack
  stk : X.stack = X.outer ∨ (X.stack = X.env :: X.outer ∧ X.env.frame = some X.env.locals)
  exf : ∀ b ∈ X.ex, b ≠ X.env.locals ∧ ∀ x c, X.env.cells.lookup x = some c → c ≠ b
  bs : ∀ b o, X.base.get? b = some o → X.s₀.heap.get? b = some o ∧ X.H₀ b = none
  bsz : X.base.objs.size ≤ X.s₀.heap.objs.size
  noex : ∀ b o, X.base.get? b = some o → b ∉ X.ex
  exfs : ∀ b ∈ X.ex, b ∉ X.fs
  funs : X.s₀.heap.FunFrames X.base X.outer
  frf : ∀ b ∈ X.fs, X.H₀ b = none
structure Inv (X : Cx) (pins : List (Addr × Obj)) (σ : List (Option V)) (H : Hp) (s : Shared) : Prop where
  ok : X.Ok
  os : s.os = X.s₀.os
  bare : AllBare s.gens
  base : Un X.fs X.ex X.H₀ H X.s₀.heap s.heap
  loc : ∃ m, s.heap.Ns X.env.locals m ∧ ∀ (i : Nat) (x : Str) (v : V), X.N[i]? = some x → σ[i]? = some (some v) → Vis X.env.scope x → ∃ u, RelV v u ∧ Look X.env s.heap m x u
  cell : ∀ x c, X.env.cells.lookup x = some c → ∃ v, s.heap.IsCell c v
  free : H X.env.locals = none
  freeC : ∀ x c, X.env.cells.lookup x = some c → H c = none
  pin : ∀ p ∈ X.pn ++ pins, s.heap.get? p.1 = some p.2 ∧ H p.1 = none ∧ p.1 ≠ X.env.locals ∧ p.1 ∉ X.fs ∧ ∀ v, p.2.data ≠ .cell v
  hok : HOk X.prog X.w H s.heap
  len : σ.length = X.N.length
section
variable {X : Cx} {pins : List (Addr × Obj)} {σ : List (Option V)} {H H' : Hp} {s : Shared} {h' : Heap}
theorem Cx.Ok.nofr (ok : X.Ok) {b : Addr} {o : Obj} (e : X.base.get? b = some o) : b ∉ X.fs := fun hb => by
  have := (ok.funs.mem hb).1
  rw [e] at this; cases this
theorem Inv.bs (I : Inv X pins σ H s) : ∀ b o, X.base.get? b = some o → s.heap.get? b = some o ∧ H b = none := fun b o e =>
  ⟨I.base.keep b o (I.ok.bs b o e).1 (I.ok.bs b o e).2 (I.ok.nofr e) (I.ok.noex b o e), I.base.free b o (I.ok.bs b o e).1 (I.ok.bs b o e).2 (I.ok.noex b o e)⟩
theorem Inv.bk (I : Inv X pins σ H s) : ∀ b o, X.base.get? b = some o → s.heap.get? b = some o := fun b o e => (I.bs b o e).1
theorem Inv.mod (I : Inv X pins σ H s) : Mod X.K X.mg X.base := I.ok.mod
theorem Inv.kIn (I : Inv X pins σ H s) : X.K.In s.heap := I.ok.mod.kin.keeps I.bk
theorem Inv.lt (I : Inv X pins σ H s) : X.env.locals < s.heap.objs.size := let ⟨_, hn, _⟩ := I.loc; hn.lt
theorem Inv.sz (I : Inv X pins σ H s) : X.s₀.heap.objs.size ≤ s.heap.objs.size := Nat.le_trans I.ok.above (Nat.le_of_lt I.lt)
theorem Inv.nofs (I : Inv X pins σ H s) {a : Addr} (h : s.heap.objs.size ≤ a) : a ∉ X.fs := fun hb => by
  obtain ⟨_, o, ho, _⟩ := I.ok.funs.mem hb
  exact absurd (Nat.lt_of_lt_of_le (Heap.lt_size ho) (Nat.le_trans I.sz h)) (Nat.lt_irrefl _)
theorem Inv.cne (I : Inv X pins σ H s) : ∀ x c, X.env.cells.lookup x = some c → c ≠ X.env.locals := fun x c e z => by
  obtain ⟨v, o, ho, hd⟩ := I.cell x c e
  obtain ⟨m, ⟨o', es, ep, ho', hd', _⟩, _⟩ := I.loc
  rw [z, ho'] at ho; cases ho; rw [hd'] at hd; cases hd
theorem Inv.funs (I : Inv X pins σ H s) : s.heap.FunFrames X.base X.outer := by
  have all : ∀ (l : List Env), (∀ b ∈ frs l, b ∈ X.fs) → X.s₀.heap.FunFrames X.base l → s.heap.FunFrames X.base l := by
    intro l
    induction l with
    | nil => intro _ _; trivial
    | cons env r ih =>
      intro hs hl
      obtain ⟨hk, ⟨L, o, hf, hn, ho, hd⟩, hr⟩ := hl
      have hL : L ∈ X.fs := hs L (by unfold frs; rw [List.filterMap_cons, hf]; exact List.mem_cons_self)
      obtain ⟨sl, e⟩ := I.base.slot L o ho (I.ok.frf L hL) hL fun z => I.ok.exfs L z hL
      exact ⟨hk, ⟨L, _, hf, hn, e, hd⟩, ih (fun b hb => hs b (by unfold frs; rw [List.filterMap_cons, hf]; exact List.mem_cons_of_mem _ hb)) hr⟩
  exact all X.outer (fun _ hb => hb) I.ok.funs
theorem Inv.stack (I : Inv X pins σ H s) : s.heap.FunFrames X.base X.stack := by
  rcases I.ok.stk with e | ⟨e, hf⟩
  · rw [e]; exact I.funs
  · rw [e]
    obtain ⟨m, hn, _⟩ := I.loc
    refine .cons (by rw [I.ok.kind]; decide) hf hn ?_ I.funs
    exact Heap.get?_none_of_le (Nat.le_trans I.ok.bsz I.ok.above)
theorem Inv.stkSub (I : Inv X pins σ H s) : ∀ b ∈ frs X.stack, b ∈ X.env.locals :: X.fs := fun b hb => by
  rcases I.ok.stk with e | ⟨e, hf⟩
  · rw [e] at hb; exact List.mem_cons_of_mem _ hb
  · rw [e] at hb
    unfold frs at hb
    rw [List.filterMap_cons, hf] at hb
    exact hb
theorem Inv.stkFree (I : Inv X pins σ H s) : ∀ b ∈ frs X.stack, H b = none := fun b hb => by
  rcases List.mem_cons.mp (I.stkSub b hb) with e | hb
  · rw [e]; exact I.free
  · obtain ⟨_, o, ho, _⟩ := I.ok.funs.mem hb
    exact I.base.free b o ho (I.ok.frf b hb) fun z => I.ok.exfs b z hb
theorem Inv.step {g' : Array GenState} {t' : Nat} {d' : Drawn} {ch : List Addr} (I : Inv X pins σ H s)
    (hch : ∀ b ∈ ch, (b ∈ X.ex ∨ X.s₀.heap.objs.size ≤ b) ∧ b ≠ X.env.locals ∧ (∀ x c, X.env.cells.lookup x = some c → c ≠ b) ∧ ∀ p ∈ X.pn ++ pins, p.1 ≠ b)
    (keep : ∀ b o, b ≠ X.env.locals → b ∉ X.fs → b ∉ ch → s.heap.get? b = some o → H b = none → h'.get? b = some o)
    (slot : ∀ b o, b ≠ X.env.locals → b ∈ X.fs → b ∉ ch → s.heap.get? b = some o → H b = none → ∃ sl, h'.get? b = some { o with slots := sl }) (free : ∀ b o, b ∉ ch → s.heap.get? b = some o → H b = none → H' b = none)
    (there : ∀ b o, b ∉ ch → s.heap.get? b = some o → ∃ o', h'.get? b = some o')
    (tups : ∀ b xs, H b = some (.tup xs) → H' b = some (.tup xs)) (frzs : ∀ b o u, H b = some (.frz o u) → H' b = some (.frz o u)) (tbls : ∀ b ps, H b = some (.tbl ps) → ∃ more, H' b = some (.tbl (ps ++ more)))
    (ns : ∀ m, s.heap.Ns X.env.locals m → h'.Ns X.env.locals m) (hok : HOk X.prog X.w H' h') (hg : AllBare g') :
    Inv X pins σ H' { s with heap := h', gens := g', drawn := d', toks := t' } := by
  have neL : ∀ b o, X.s₀.heap.get? b = some o → b ≠ X.env.locals := fun b o e => Nat.ne_of_lt (Nat.lt_of_lt_of_le (Heap.lt_size e) I.ok.above)
  have neC : ∀ b o, X.s₀.heap.get? b = some o → b ∉ X.ex → b ∉ ch := fun b o e hx hb => by
    rcases (hch b hb).1 with z | z
    · exact hx z
    · exact absurd (Nat.lt_of_lt_of_le (Heap.lt_size e) z) (Nat.lt_irrefl _)
  have cellK : ∀ x c, X.env.cells.lookup x = some c → ∀ v, s.heap.IsCell c v → h'.IsCell c v := fun x c e v ⟨o, ho, hd⟩ => by
    have nch : c ∉ ch := fun z => (hch c z).2.2.1 x c e rfl
    by_cases hc : c ∈ X.fs
    · obtain ⟨sl, q⟩ := slot c o (I.cne x c e) hc nch ho (I.freeC x c e)
      exact ⟨_, q, hd⟩
    · exact ⟨o, keep c o (I.cne x c e) hc nch ho (I.freeC x c e), hd⟩
  refine ⟨I.ok, I.os, hg, ⟨fun b o e n hb hx => ?_, fun b o e n hb hx => ?_, fun b o e n hx => ?_, fun b o e hx => ?_, fun b xs e => tups b xs (I.base.tups b xs e), fun b o xs e => frzs b o xs (I.base.frzs b o xs e), fun b ps e => ?_⟩, ?_, fun x c e => ?_, ?_, fun x c e => ?_, fun p hp => ?_, hok, I.len⟩
  · exact keep b o (neL b o e) hb (neC b o e hx) (I.base.keep b o e n hb hx) (I.base.free b o e n hx)
  · obtain ⟨sl, e1⟩ := I.base.slot b o e n hb hx
    obtain ⟨sl', e2⟩ := slot b _ (neL b o e) hb (neC b o e hx) e1 (I.base.free b o e n hx)
    exact ⟨sl', e2⟩
  · obtain ⟨o', e1⟩ := I.base.there b o e hx
    exact free b o' (neC b o e hx) e1 (I.base.free b o e n hx)
  · obtain ⟨o', e1⟩ := I.base.there b o e hx
    exact there b o' (neC b o e hx) e1
  · obtain ⟨m1, e1⟩ := I.base.tbls b ps e
    obtain ⟨m2, e2⟩ := tbls b _ e1
    exact ⟨m1 ++ m2, by rw [e2, Array.append_assoc]⟩
  · obtain ⟨m, hn, hl⟩ := I.loc
    refine ⟨m, ns m hn, fun i x v e1 e2 e3 => ?_⟩
    obtain ⟨u, r, l⟩ := hl i x v e1 e2 e3
    refine ⟨u, r, ?_⟩
    rcases l with l | ⟨k, c, e, z⟩
    · exact .inl l
    · exact .inr ⟨k, c, e, cellK x c e _ z⟩
  · obtain ⟨v, z⟩ := I.cell x c e
    exact ⟨v, cellK x c e v z⟩
  · obtain ⟨m, ⟨o, _, _, ho, _⟩, _⟩ := I.loc
    exact free _ o (fun z => (hch _ z).2.1 rfl) ho I.free
  · obtain ⟨v, o, ho, hd⟩ := I.cell x c e
    exact free c o (fun z => (hch c z).2.2.1 x c e rfl) ho (I.freeC x c e)
  · obtain ⟨e, n, ne, nf, d⟩ := I.pin p hp
    have nch : p.1 ∉ ch := fun z => (hch p.1 z).2.2.2 p hp rfl
    exact ⟨keep p.1 p.2 ne nf nch e n, free p.1 p.2 nch e n, ne, nf, d⟩
theorem Inv.un {t' : Nat} (I : Inv X pins σ H s) (u : Un X.fs [] H H' s.heap h') (hok : HOk X.prog X.w H' h') : Inv X pins σ H' { s with heap := h', toks := t' } := by
  obtain ⟨m, ⟨o, es, ep, ho, r⟩, _⟩ := id I.loc
  obtain ⟨sl, hL⟩ := u.any ho I.free (by simp)
  exact I.step (g' := s.gens) (d' := s.drawn) (ch := []) (fun _ z => nomatch z) (fun b o _ hb _ e n => u.keep b o e n hb (by simp)) (fun b o _ hb _ e n => u.slot b o e n hb (by simp)) (fun b o _ e n => u.free b o e n (by simp)) (fun b o _ e => u.there b o e (by simp)) u.tups u.frzs u.tbls (fun m' hm => by
    obtain ⟨o', es', ep', ho', r'⟩ := hm
    rw [ho] at ho'; cases ho'
    exact ⟨_, es', ep', hL, r'⟩) hok I.bare
theorem Inv.call {g' : Array GenState} {t' : Nat} {d' : Drawn} {ch : List Addr} (I : Inv X pins σ H s) (u : Un (frs X.stack) ch H H' s.heap h') (hok : HOk X.prog X.w H' h') (hg : AllBare g')
    (hch : ∀ b ∈ ch, (b ∈ X.ex ∨ X.s₀.heap.objs.size ≤ b) ∧ b ≠ X.env.locals ∧ (∀ x c, X.env.cells.lookup x = some c → c ≠ b) ∧ ∀ p ∈ X.pn ++ pins, p.1 ≠ b) :
    Inv X pins σ H' { s with heap := h', gens := g', drawn := d', toks := t' } := by
  obtain ⟨m, ⟨o, es, ep, ho, r⟩, _⟩ := id I.loc
  obtain ⟨sl, hL⟩ := u.any ho I.free fun z => (hch _ z).2.1 rfl
  exact I.step (ch := ch) hch (fun b o hL hb hc e n => u.keep b o e n (fun z => (List.mem_cons.mp (I.stkSub b z)).elim hL hb) hc) (fun b o _ _ hc e n => u.any e n hc) (fun b o hc e n => u.free b o e n hc) (fun b o hc e => u.there b o e hc) u.tups u.frzs u.tbls (fun m' hm => by
    obtain ⟨o', es', ep', ho', r'⟩ := hm
    rw [ho] at ho'; cases ho'
    exact ⟨_, es', ep', hL, r'⟩) hok hg
theorem Inv.turned {t' : Nat} {it : Addr} (I : Inv X pins σ H s) (k : ∀ b o, b ≠ it → s.heap.get? b = some o → h'.get? b = some o) (hn : H it = none) (hL : it ≠ X.env.locals)
    (h1 : it ∈ X.ex ∨ X.s₀.heap.objs.size ≤ it) (h2 : ∀ x c, X.env.cells.lookup x = some c → c ≠ it) (h3 : ∀ p ∈ X.pn ++ pins, p.1 ≠ it) : Inv X pins σ H { s with heap := h', toks := t' } := by
  have nit : ∀ b u, H b = some u → b ≠ it := fun b u e z => by rw [z, hn] at e; cases e
  refine I.step (g' := s.gens) (d' := s.drawn) (ch := [it]) (fun b hb => ?_) (fun b o _ _ hc e _ => k b o (fun z => hc (by simp [z])) e) (fun b o _ _ hc e _ => ⟨o.slots, k b o (fun z => hc (by simp [z])) e⟩) (fun _ _ _ _ n => n)
    (fun b o hc e => ⟨o, k b o (fun z => hc (by simp [z])) e⟩) (fun _ _ e => e) (fun _ _ _ e => e) (fun b ps e => ⟨#[], by rw [e]; simp⟩) (fun m hm => ?_) (fun b u e => ?_) I.bare
  · have e : b = it := by simpa using hb
    subst e
    exact ⟨h1, hL, h2, h3⟩
  · obtain ⟨o, es, ep, ho, r⟩ := hm
    exact ⟨o, es, ep, k _ o (Ne.symm hL) ho, r⟩
  · refine (I.hok b u e).stay (fun c v hc q => k c v ?_ q) (fun _ q => q) fun _ _ q => q
    rcases hc with z | z
    · rw [z]; exact nit b u e
    · exact nit c _ z
theorem Inv.tok (I : Inv X pins σ H s) (t : Nat) : Inv X pins σ H { s with toks := t } := I.un (h' := s.heap) (t' := t) Un.refl I.hok
theorem Inv.kept {t' : Nat} (I : Inv X pins σ H s) (k : ∀ b u, s.heap.get? b = some u → h'.get? b = some u) : Inv X pins σ H { s with heap := h', toks := t' } := I.un (Un.kept k) (I.hok.kept k)
theorem Inv.laid {a : Addr} {o : HO} {t' : Nat} (I : Inv X pins σ H s) (k : ∀ b u, s.heap.get? b = some u → h'.get? b = some u) (hp : s.heap.objs.size ≤ a) (new : ObjOk X.prog X.w (upd H a o) h' a o) :
    Inv X pins σ (upd H a o) { s with heap := h', toks := t' } := I.un (Un.laid k hp (I.hok.fresh hp)) (I.hok.laid k hp new)
theorem Inv.write {x e : Addr} {o : HO} {t' : Nat} (I : Inv X pins σ H s) (mu : Mut (H x)) (he : e = x ∨ H e = some (.own x)) (k : ∀ b u, b ≠ e → s.heap.get? b = some u → h'.get? b = some u) (heo : ∃ u, h'.get? e = some u)
    (new : ObjOk X.prog X.w (upd H x o) h' x o) : Inv X pins σ (upd H x o) { s with heap := h', toks := t' } := I.un (Un.write mu he k heo) (I.hok.write mu he k heo new)
theorem Inv.pins_of {pins' : List (Addr × Obj)} (I : Inv X pins σ H s) (h : ∀ p ∈ pins', s.heap.get? p.1 = some p.2 ∧ H p.1 = none ∧ p.1 ≠ X.env.locals ∧ p.1 ∉ X.fs ∧ ∀ v, p.2.data ≠ .cell v) : Inv X pins' σ H s :=
  ⟨I.ok, I.os, I.bare, I.base, I.loc, I.cell, I.free, I.freeC, fun p hp => (List.mem_append.mp hp).elim (fun z => I.pin p (List.mem_append_left _ z)) (h p), I.hok, I.len⟩
theorem nodup_ix {N : List Str} (hN : N.Nodup) {i j : Nat} {x : Str} (a : N[i]? = some x) (b : N[j]? = some x) : i = j := by
  obtain ⟨h1, e1⟩ := List.getElem?_eq_some_iff.mp a
  obtain ⟨h2, e2⟩ := List.getElem?_eq_some_iff.mp b
  exact (List.getElem_inj hN).mp (e1.trans e2.symm)
theorem store_ok2 {M : Model} {A : Around} {E : Value → Shared → Prop} {i : Nat} {x : Str} {v : V} {u : Value} {Q : Unit → Shared → Prop} (I : Inv X pins σ H s) (hN : X.N.Nodup) (hi : X.N[i]? = some x) (hx : Loc X.env.scope x) (r : RelV v u)
    (h : ∀ s', Inv X pins (σ.set i (some v)) H s' → (∃ a, Heap.SameBut a s.heap s'.heap ∧ (a = X.env.locals ∨ X.env.cells.lookup x = some a)) → Q () s') (hf : X.fn x = true ∨ X.env.scope.names.lookup x = some .local := by first | exact .inl rfl | exact .inr rfl | assumption) : wpAny M A (storeName X.env x u) Q E s := by
  obtain ⟨m, hn, hl⟩ := id I.loc
  have hcls : (X.env.scope.kind == .class || (X.env.scope.kind == .module && X.env.locals != X.env.globals)) = false := by rw [I.ok.kind]; rfl
  have hiσ : i < σ.length := by rw [I.len]; exact (List.getElem?_eq_some_iff.mp hi).1
  have cne := I.cne
  have tracked : ∀ {a : Addr} {h' : Heap}, (∃ o, s.heap.get? a = some o ∧ H a = none) → Heap.SameBut a s.heap h' → HOk X.prog X.w H h' := fun {a h'} ha hs b ob e => by
    obtain ⟨_, _, hfree⟩ := ha
    refine (I.hok b ob e).stay (fun c w' hc q => (hs.2 c ?_).trans q) (fun _ q => q) fun _ _ q => q
    rintro rfl
    rcases hc with rfl | hc
    · rw [hfree] at e; cases e
    · rw [hfree] at hc; cases hc
  rcases hx with hk | hk
  · refine wpAny_storeName_local hk hn (fun h' hn' hs => ?_) hcls
    obtain ⟨oL, _, _, hoL, _⟩ := id hn
    refine h _ ⟨I.ok, I.os, I.bare, ⟨fun b o e n hb hx => ?_, fun b o e n hb hx => ?_, I.base.free, fun b o e hx => ?_, I.base.tups, I.base.frzs, I.base.tbls⟩, ⟨_, hn', fun j y v' e1 e2 e3 => ?_⟩, fun y c e => ?_, I.free, I.freeC, fun p hp => ?_, tracked ⟨oL, hoL, I.free⟩ hs, by simpa using I.len⟩ ⟨_, hs, .inl rfl⟩
    · exact (hs.2 b (Nat.ne_of_lt (Nat.lt_of_lt_of_le (Heap.lt_size e) I.ok.above))).trans (I.base.keep b o e n hb hx)
    · obtain ⟨sl, e1⟩ := I.base.slot b o e n hb hx
      exact ⟨sl, (hs.2 b (Nat.ne_of_lt (Nat.lt_of_lt_of_le (Heap.lt_size e) I.ok.above))).trans e1⟩
    · obtain ⟨o', e1⟩ := I.base.there b o e hx
      exact ⟨o', (hs.2 b (Nat.ne_of_lt (Nat.lt_of_lt_of_le (Heap.lt_size e) I.ok.above))).trans e1⟩
    · by_cases hj : j = i
      · subst hj
        rw [hi] at e1; cases e1
        rw [List.getElem?_set_self hiσ] at e2
        cases e2
        exact ⟨u, r, .inl ⟨hk, by simp⟩⟩
      · rw [List.getElem?_set_ne (Ne.symm hj)] at e2
        obtain ⟨u', r', q⟩ := hl j y v' e1 e2 e3
        refine ⟨u', r', ?_⟩
        rcases q with ⟨k, e⟩ | ⟨k, c, e, z⟩
        · refine .inl ⟨k, ?_⟩
          have : y ≠ x := fun e => hj (nodup_ix hN e1 (e ▸ hi))
          simp [this, e]
        · exact .inr ⟨k, c, e, z.sameBut hs (cne y c e)⟩
    · obtain ⟨w', z⟩ := I.cell y c e
      exact ⟨w', z.sameBut hs (cne y c e)⟩
    · obtain ⟨e, n, ne, nf, d⟩ := I.pin p hp
      exact ⟨(hs.2 p.1 ne).trans e, n, ne, nf, d⟩
  · have hfn : X.fn x = true := by
      rcases hf with z | z
      · exact z
      · rw [z] at hk; cases hk
    obtain ⟨c, hc⟩ := I.ok.has x (.inl hk)
    obtain ⟨w', z⟩ := I.cell x c hc
    refine wpAny_storeName_cell I.ok.kind hk hc z (fun h' hc' hs => ?_)
    obtain ⟨oc, hoc, hocd⟩ := id z
    refine h { s with heap := h' } ⟨I.ok, I.os, I.bare, ⟨fun b o e n hb hx => ?_, fun b o e n hb hx => ?_, I.base.free, fun b o e hx => ?_, I.base.tups, I.base.frzs, I.base.tbls⟩, ⟨m, hn.sameBut hs (Ne.symm (cne x c hc)), fun j y v' e1 e2 e3 => ?_⟩, fun y c' e => ?_, I.free, I.freeC, fun p hp => ?_, tracked ⟨oc, hoc, I.freeC x c hc⟩ hs, by simpa using I.len⟩ ⟨c, hs, .inr hc⟩
    · exact (hs.2 b (Nat.ne_of_lt (Nat.lt_of_lt_of_le (Heap.lt_size e) (I.ok.cab x c hfn hc)))).trans (I.base.keep b o e n hb hx)
    · obtain ⟨sl, e1⟩ := I.base.slot b o e n hb hx
      exact ⟨sl, (hs.2 b (Nat.ne_of_lt (Nat.lt_of_lt_of_le (Heap.lt_size e) (I.ok.cab x c hfn hc)))).trans e1⟩
    · obtain ⟨o', e1⟩ := I.base.there b o e hx
      exact ⟨o', (hs.2 b (Nat.ne_of_lt (Nat.lt_of_lt_of_le (Heap.lt_size e) (I.ok.cab x c hfn hc)))).trans e1⟩
    · by_cases hj : j = i
      · subst hj
        rw [hi] at e1; cases e1
        rw [List.getElem?_set_self hiσ] at e2
        cases e2
        exact ⟨u, r, .inr ⟨.inl hk, c, hc, hc'⟩⟩
      · rw [List.getElem?_set_ne (Ne.symm hj)] at e2
        obtain ⟨u', r', q⟩ := hl j y v' e1 e2 e3
        refine ⟨u', r', ?_⟩
        rcases q with q | ⟨k, c', e, z'⟩
        · exact .inl q
        · refine .inr ⟨k, c', e, z'.sameBut hs ?_⟩
          rintro rfl
          exact hj (nodup_ix hN e1 (I.ok.inj _ _ _ e hc ▸ hi))
    · by_cases hcc : c' = c
      · subst hcc; exact ⟨_, hc'⟩
      · obtain ⟨w2, z2⟩ := I.cell y c' e
        exact ⟨w2, z2.sameBut hs hcc⟩
    · obtain ⟨e, n, ne, nf, d⟩ := I.pin p hp
      refine ⟨(hs.2 p.1 ?_).trans e, n, ne, nf, d⟩
      intro q
      rw [q, hoc] at e
      have q' : oc = p.2 := Option.some.inj e
      exact d w' (by rw [← q']; exact hocd)
theorem store_ok {M : Model} {A : Around} {E : Value → Shared → Prop} {i : Nat} {x : Str} {v : V} {u : Value} {Q : Unit → Shared → Prop} (I : Inv X pins σ H s) (hN : X.N.Nodup) (hi : X.N[i]? = some x) (hx : Loc X.env.scope x) (r : RelV v u)
    (h : ∀ s', Inv X pins (σ.set i (some v)) H s' → Q () s') (hf : X.fn x = true ∨ X.env.scope.names.lookup x = some .local := by first | exact .inl rfl | exact .inr rfl | assumption) : wpAny M A (storeName X.env x u) Q E s :=
  store_ok2 I hN hi hx r (fun s' I' _ => h s' I') hf
end
noncomputable abbrev XK := Value → Option Addr → Hp → Prop
noncomputable abbrev St := List (Option V)
noncomputable abbrev VK := V → Hp → Prop
noncomputable abbrev TE := St → Hp → VK → Prop
noncomputable abbrev TT := St → Hp → (Bool → Hp → Prop) → Prop
noncomputable abbrev TA := St → Hp → (List V → Hp → Prop) → Prop
structure Ends where
  nx : St → Hp → Prop
  rt : VK
  bk : St → Hp → Prop := fun _ _ => False
  ct : St → Hp → Prop := fun _ _ => False
noncomputable abbrev TS := Ends → St → Hp → Prop
noncomputable def EP (X : Cx) (pins : List (Addr × Obj)) (σ : St) (Q : VK) (u : Value) (s' : Shared) : Prop := ∃ v H', Inv X pins σ H' s' ∧ RelV v u ∧ Q v H'
noncomputable def TP (X : Cx) (pins : List (Addr × Obj)) (σ : St) (Q : Bool → Hp → Prop) (b : Bool) (s' : Shared) : Prop := ∃ H', Inv X pins σ H' s' ∧ Q b H'
noncomputable def AP (X : Cx) (pins : List (Addr × Obj)) (σ : St) (Q : List V → Hp → Prop) (us : List Value) (s' : Shared) : Prop := ∃ vs H', Inv X pins σ H' s' ∧ Vals vs us ∧ Q vs H'
noncomputable def SP (X : Cx) (pins : List (Addr × Obj)) (D : Ends) (f : Flow) (s' : Shared) : Prop :=
  match f with
  | .next => ∃ σ' H', Inv X pins σ' H' s' ∧ D.nx σ' H'
  | .brk => ∃ σ' H', Inv X pins σ' H' s' ∧ D.bk σ' H'
  | .cont => ∃ σ' H', Inv X pins σ' H' s' ∧ D.ct σ' H'
  | .ret u => ∃ v σ' H', Inv X pins σ' H' s' ∧ RelV v u ∧ D.rt v H'
noncomputable def PE (X : Cx) (e : Expr) (t : TE) : Prop :=
  ∀ (pins : List (Addr × Obj)) (s : Shared) (σ : St) (H : Hp) (Q : VK), Inv X pins σ H s → t σ H Q → wpAny (model X.prog X.w) X.A (eval e X.env) (EP X pins σ Q) X.xe s
noncomputable def PT (X : Cx) (e : Expr) (t : TT) : Prop :=
  ∀ (pins : List (Addr × Obj)) (s : Shared) (σ : St) (H : Hp) (Q : Bool → Hp → Prop), Inv X pins σ H s → t σ H Q → wpAny (model X.prog X.w) X.A (isTrue e X.env (eval e X.env)) (TP X pins σ Q) X.xe s
noncomputable def PW (X : Cx) (e : Expr) (t : TT) : Prop :=
  ∀ (whole : Sem Value) (pins : List (Addr × Obj)) (s : Shared) (σ : St) (H : Hp) (Q : Bool → Hp → Prop), Inv X pins σ H s → t σ H Q → wpAny (model X.prog X.w) X.A (isTrue e X.env whole) (TP X pins σ Q) X.xe s
theorem PW.pt {X : Cx} {e : Expr} {t : TT} (h : PW X e t) : PT X e t := h _
noncomputable def PA (X : Cx) (es : List Expr) (t : TA) : Prop :=
  ∀ (pos : Pos) (pins : List (Addr × Obj)) (s : Shared) (σ : St) (H : Hp) (Q : List V → Hp → Prop), Inv X pins σ H s → t σ H Q → wpAny (model X.prog X.w) X.A (spliced (backTo pos (starEach es X.env))) (AP X pins σ Q) X.xe s
noncomputable def PS (X : Cx) (st : Stmt) (t : TS) : Prop :=
  ∀ (pins : List (Addr × Obj)) (s : Shared) (σ : St) (H : Hp) (D : Ends), Inv X pins σ H s → t D σ H → wpAny (model X.prog X.w) X.A (exec st X.env) (SP X pins D) X.xe s
noncomputable def PSs (X : Cx) (st : List Stmt) (t : TS) : Prop :=
  ∀ (pins : List (Addr × Obj)) (s : Shared) (σ : St) (H : Hp) (D : Ends), Inv X pins σ H s → t D σ H → wpAny (model X.prog X.w) X.A (execs st X.env) (SP X pins D) X.xe s
theorem thn {α : Type} {t : Sem α} {Q Q' : α → Shared → Prop} {M : Model} {A : Around} {E : Value → Shared → Prop} {s : Shared} (h : wpAny M A t Q E s) (hQ : ∀ a s, Q a s → Q' a s) : wpAny M A t Q' E s := wpAny_mono h hQ fun _ _ x => x
end L2
namespace L2
open PySem PySem.Spec PyProof.Rows
section
variable {X : Cx}
theorem bin {a b : Expr} {ta tb : TE} (ha : PE X a ta) (hb : PE X b tb) {pins : List (Addr × Obj)} {s : Shared} {σ : St} {H : Hp} {R : V → V → Hp → Prop} (I : Inv X pins σ H s) (h : ta σ H fun x H1 => tb σ H1 fun y H2 => R x y H2)
    {α : Type} {Q : α → Shared → Prop} {f : Value → Value → Sem α}
    (hf : ∀ v u s2 x y H2, Inv X pins σ H2 s2 → RelV x v → RelV y u → R x y H2 → wpAny (model X.prog X.w) X.A (f v u) Q X.xe s2) :
    wpAny (model X.prog X.w) X.A (eval a X.env) (fun v s₁ => wpAny (model X.prog X.w) X.A (eval b X.env) (fun u s₂ => wpAny (model X.prog X.w) X.A (f v u) Q X.xe s₂) X.xe s₁) X.xe s := by
  refine thn (ha pins s σ H _ I h) fun v s1 ⟨x, H1, I1, r1, q1⟩ => ?_
  refine thn (hb pins s1 σ H1 _ I1 q1) fun u s2 ⟨y, H2, I2, r2, q2⟩ => ?_
  exact hf v u s2 x y H2 I2 r1 r2 q2
noncomputable def tVar (i : Nat) : TE := fun σ H Q => ∃ v, σ[i]? = some (some v) ∧ Q v H
noncomputable def tC (v : V) : TE := fun _ H Q => Q v H
theorem pe_var {i : Nat} {x : Str} {pos : Pos} (hN : X.N[i]? = some x) (hv : Vis X.env.scope x) (hd : (x == ("__debug__" : Str)) = false := by decide) (hcd : (x == ("__classdict__" : Str)) = false := by decide) : PE X (.Name x pos) (tVar i) := by
  intro pins s σ H Q I h
  obtain ⟨v, e, h⟩ := h
  obtain ⟨m, hn, hl⟩ := I.loc
  obtain ⟨u, r, l⟩ := hl i x v hN e hv
  have fin : EP X pins σ Q u s := ⟨v, H, I, r, h⟩
  rcases l with ⟨hk, hm⟩ | ⟨hk, c, hc, hcell⟩
  · exact wpAny_Name (wpAny_loadName_local I.ok.kind hk hn hm fin) hd
  · rcases hk with hk | hk
    · exact wpAny_Name (wpAny_loadName_cell I.ok.kind hk hc hcell fin) hd
    · exact wpAny_Name (wpAny_loadName_free I.ok.kind hk hc hcell fin hcd) hd
theorem pe_int {i j pos} : PE X (.Constant (.int i) j pos) (tC (.int i)) := fun _ _ _ H _ I h => wpAny_Constant_int ⟨.int i, H, I.tok _, ⟨_, rfl⟩, h⟩
theorem pe_bl {b j pos} : PE X (.Constant (.bool b) j pos) (tC (.bl b)) := fun _ _ _ H _ I h => Constant_bool ⟨.bl b, H, I, rfl, h⟩
theorem pe_str {x j pos} : PE X (.Constant (.str x) j pos) (tC (.str x)) := fun _ _ _ H _ I h => Calls.Constant_str ⟨.str x, H, I.tok _, ⟨_, rfl⟩, h⟩
noncomputable def Gl (X : Cx) (x : Str) : Prop := X.env.kindOf x = some .globalImplicit
theorem ld_glob {E : Value → Shared → Prop} {pins : List (Addr × Obj)} {s : Shared} {σ : St} {H : Hp} {x : Str} {u : Value} {pos : Pos} {Q : Value → Shared → Prop} (I : Inv X pins σ H s) (hg : Gl X x) (hm : X.mg x = some u) (h : Q u s)
    (hd : (x == ("__debug__" : Str)) = false := by decide) : wpAny (model X.prog X.w) X.A (eval (.Name x pos) X.env) Q E s :=
  Calls.Name_function_global I.ok.kind hg (Calls.loadGlobal_global (by rw [I.ok.glob]; exact I.mod.glob.keeps I.bk) hm h) hd
theorem ld_blt {E : Value → Shared → Prop} {pins : List (Addr × Obj)} {s : Shared} {σ : St} {H : Hp} {x : Str} {u : Value} {pos : Pos} {Q : Value → Shared → Prop} (I : Inv X pins σ H s) (hg : Gl X x) (hm : X.mg x = none) (hv : bootBuiltins x = some u) (h : Q u s)
    (hn : x ≠ "__name__" := by decide) (hd : (x == ("__debug__" : Str)) = false := by decide) : wpAny (model X.prog X.w) X.A (eval (.Name x pos) X.env) Q E s := by
  obtain ⟨mb, h1, h2⟩ := I.mod.blt
  exact Calls.Name_function_global I.ok.kind hg (Calls.loadGlobal_builtin (by rw [I.ok.glob]; exact I.mod.glob.keeps I.bk) hm (by rw [I.ok.blt]; exact h1.keeps I.bk) ((h2 x hn).trans hv) h) hd
theorem pe_glob {x : Str} {v : V} {u : Value} {pos : Pos} (hg : Gl X x) (hm : X.mg x = some u) (r : RelV v u) (hd : (x == ("__debug__" : Str)) = false := by decide) : PE X (.Name x pos) (tC v) :=
  fun _ _ _ H _ I h => ld_glob I hg hm ⟨v, H, I, r, h⟩ hd
theorem pe_bltn {x : Str} {v : V} {u : Value} {pos : Pos} (hg : Gl X x) (hm : X.mg x = none) (hv : bootBuiltins x = some u) (r : RelV v u) (hn : x ≠ "__name__" := by decide) (hd : (x == ("__debug__" : Str)) = false := by decide) : PE X (.Name x pos) (tC v) :=
  fun _ _ _ H _ I h => ld_blt I hg hm hv ⟨v, H, I, r, h⟩ hn hd
variable {a b : Expr} {ta tb : TE} {pos : Pos}
noncomputable def PC (X : Cx) (op : CmpOp) (a b : Expr) (t : TE) : Prop :=
  ∀ (pins : List (Addr × Obj)) (s : Shared) (σ : St) (H : Hp) (Q : VK), Inv X pins σ H s → t σ H Q →
    wpAny (model X.prog X.w) X.A (eval a X.env) (fun v s₁ => wpAny (model X.prog X.w) X.A (eval b X.env) (fun u s₂ => wpAny (model X.prog X.w) X.A (compareOp op v u) (EP X pins σ Q) X.xe s₂) X.xe s₁) X.xe s
theorem nobehind (b : Expr) {op : CmpOp} (h : op ≠ .In) (h2 : op ≠ .NotIn) : behindInMarks op b = false := by
  have e1 : (op == CmpOp.In) = false := by cases op <;> first | rfl | exact absurd rfl h
  have e2 : (op == CmpOp.NotIn) = false := by cases op <;> first | rfl | exact absurd rfl h2
  cases b <;> simp [behindInMarks, e1, e2]
noncomputable def tB (t : TE) : TT := fun σ H Q => t σ H fun x H1 => ∃ c, x = .bl c ∧ Q c H1
theorem pt_cmp {op : CmpOp} {t : TE} (h : PC X op a b t) (h1 : behindInMarks op b = false := by first | exact nobehind _ (by decide) (by decide) | rfl) : PT X (.Compare a [op] [b] pos) (tB t) := by
  intro pins s σ H Q I hw
  refine wpAny_isTrue_Compare1 (thn (h pins s σ H _ I hw) fun v s1 h1 => thn h1 fun u s2 h2 => thn h2 fun c s3 ⟨x, H1, I1, r1, q1⟩ => ?_) h1
  obtain ⟨d, rfl, q⟩ := q1
  cases r1
  exact wpAny_truthy_bool ⟨H1, I1, q⟩
theorem pt_val {e : Expr} {t : TE} (h : PE X e t) (he : ∀ whole, isTrue e X.env whole = (do let v ← whole; standAt e.pos; holding [v] (truthy v)) := by intro _; rfl) : PT X e (tB t) := by
  intro pins s σ H Q I hw
  refine isTrue_plain (thn (h pins s σ H _ I hw) fun v s1 ⟨x, H1, I1, r1, q1⟩ => ?_) (he _)
  obtain ⟨d, rfl, q⟩ := q1
  cases r1
  exact wpAny_truthy_bool ⟨H1, I1, q⟩
variable {tA tB' : TT} {rest : List Expr}
noncomputable def tOr (t u : TT) : TT := fun σ H Q => t σ H fun c H1 => if c = true then Q true H1 else u σ H1 Q
noncomputable def tNot (t : TT) : TT := fun σ H Q => t σ H fun c H1 => Q (!c) H1
theorem pw_or1 (ha : PT X a tA) : PW X (.BoolOp .Or [a] pos) tA := by
  intro wh pins s σ H Q I h
  refine isTrue_or (thn (ha pins s σ H Q I h) fun c s1 e => ?_)
  cases c with
  | false => exact isTrue_or_nil e
  | true => exact e
theorem pw_or (ha : PT X a tA) (hb : PW X (.BoolOp .Or (b :: rest) pos) tB') : PW X (.BoolOp .Or (a :: b :: rest) pos) (tOr tA tB') := by
  intro wh pins s σ H Q I h
  refine isTrue_or (thn (ha pins s σ H _ I h) fun c s1 ⟨H1, I1, q1⟩ => ?_)
  cases c with
  | true => exact ⟨H1, I1, q1⟩
  | false => exact hb wh pins s1 σ H1 Q I1 q1
theorem pt_not (ha : PT X a tA) : PT X (.UnaryOp .Not a pos) (tNot tA) := by
  intro pins s σ H Q I h
  exact isTrue_not (ha pins s σ H (fun c H1 => Q (!c) H1) I h)
noncomputable def tAndV (ta tb : TE) : TE := fun σ H Q => ta σ H fun x H1 => ∃ c, x = .bl c ∧ if c = true then tb σ H1 Q else Q (.bl false) H1
noncomputable def tNotV (ta : TE) : TE := fun σ H Q => ta σ H fun x H1 => ∃ c, x = .bl c ∧ Q (.bl (!c)) H1
theorem pe_one {op} {t : TE} (h : PE X a t) : PE X (.BoolOp op [a] pos) t := fun pins s σ H Q I hw => BoolOp_one (h pins s σ H Q I hw)
theorem pe_and (ha : PE X a ta) (hb : PE X (.BoolOp .And (b :: rest) pos) tb) : PE X (.BoolOp .And (a :: b :: rest) pos) (tAndV ta tb) := by
  intro pins s σ H Q I h
  refine BoolOp_and (thn (ha pins s σ H _ I h) fun v s1 ⟨x, H1, I1, r1, q1⟩ => ?_)
  obtain ⟨c, rfl, q1⟩ := q1
  cases r1
  refine wpAny_truthy_bool ?_
  cases c with
  | true => exact hb pins s1 σ H1 Q I1 q1
  | false => exact ⟨.bl false, H1, I1, rfl, q1⟩
theorem pe_not (ha : PE X a ta) : PE X (.UnaryOp .Not a pos) (tNotV ta) := by
  intro pins s σ H Q I h
  refine UnaryOp_ (thn (ha pins s σ H _ I h) fun v s1 ⟨x, H1, I1, r1, q1⟩ => ?_)
  obtain ⟨c, rfl, q1⟩ := q1
  cases r1
  exact not_of (wpAny_truthy_bool ⟨.bl (!c), H1, I1, rfl, q1⟩)
end
end L2
namespace L2
open PySem PySem.Spec PyProof.Rows
noncomputable def SqL (K : PySem.W.Frag) (H : Hp) (a : Addr) (xs : List V) : Prop :=
  Rd H a (.lst xs) ∨
    ∃ (o : Obj) (its : Array Value) (n : Nat), K.lookup a = some o ∧ o.cls = .type "list" ∧ o.dict = none ∧ o.data = .seq its n ∧ its.size ≤ sizeLine ∧ Vals xs its.toList
noncomputable def SqT (K : PySem.W.Frag) (H : Hp) (a : Addr) (xs : List V) : Prop :=
  Rd H a (.tup xs) ∨
    ∃ (o : Obj) (its : Array Value) (n : Nat), K.lookup a = some o ∧ o.cls = .type "tuple" ∧ o.data = .seq its n ∧ its.size ≤ sizeLine ∧ Vals xs its.toList
noncomputable def absV : Value → Option V
  | .none => some .non
  | .bool b => some (.bl b)
  | .int i _ => some (.int i)
  | .str x _ => some (.str x)
  | .bytes b _ => some (.byt b)
  | .float b _ => some (.flt b)
  | .ref a => some (.ref a)
  | .type n => some (.ty n)
  | _ => none
theorem RelV.abs {x : V} {u : Value} (r : RelV x u) : absV u = some x := by
  cases x with
  | non => cases r; rfl
  | bl _ => cases r; rfl
  | int _ => obtain ⟨t, rfl⟩ := r; rfl
  | str _ => obtain ⟨t, rfl⟩ := r; rfl
  | byt _ => obtain ⟨t, rfl⟩ := r; rfl
  | flt _ => obtain ⟨t, rfl⟩ := r; rfl
  | ref _ => cases r; rfl
  | ty _ => cases r; rfl
theorem RelV.inj {x y : V} {u : Value} (r : RelV x u) (q : RelV y u) : x = y := Option.some.inj (r.abs.symm.trans q.abs)
theorem Vals.inj : ∀ {xs ys : List V} {us : List Value}, Vals xs us → Vals ys us → xs = ys
  | _, _, _, .nil, .nil => rfl
  | _, _, _, .cons r t, .cons r' t' => by rw [r.inj r', Vals.inj t t']
section
variable {X : Cx} {pins : List (Addr × Obj)} {σ : St} {H : Hp} {s : Shared} {a : Addr} {xs ys : List V}
theorem SqL.of {K : PySem.W.Frag} (h : H a = some (.lst xs)) : SqL K H a xs := .inl (.inl h)
theorem SqT.of {K : PySem.W.Frag} (h : H a = some (.tup xs)) : SqT K H a xs := .inl (.inl h)
theorem Inv.list (I : Inv X pins σ H s) (h : SqL X.K H a xs) : ∃ its : List Value, Vals xs its ∧ PlainL s.heap a its.toArray ∧ xs.length ≤ sizeLine := by
  rcases h with h | ⟨o, its, n, hk, hc, hd, hs, hz, r⟩
  · obtain ⟨z, its, n, r, e⟩ := h.ok I.hok
    exact ⟨its, r, ⟨_, n, e, rfl, rfl, rfl⟩, z⟩
  · refine ⟨its.toList, r, ⟨o, n, I.kIn a o hk, hc, hd, by simpa using hs⟩, ?_⟩
    have e := r.length
    simp only [Array.length_toList] at e
    trivial
theorem Inv.tuple (I : Inv X pins σ H s) (h : SqT X.K H a xs) : ∃ its : List Value, Vals xs its ∧ IsTup s.heap a its.toArray ∧ xs.length ≤ sizeLine := by
  rcases h with h | ⟨o, its, n, hk, hc, hs, hz, r⟩
  · obtain ⟨z, its, r, p⟩ := h.ok I.hok
    exact ⟨its, r, p, z⟩
  · refine ⟨its.toList, r, ⟨o, I.kIn a o hk, hc, n, by simpa using hs⟩, ?_⟩
    have e := r.length
    simp only [Array.length_toList] at e
    trivial
theorem Inv.list_inj (I : Inv X pins σ H s) (h : SqL X.K H a xs) (h' : SqL X.K H a ys) : xs = ys := by
  obtain ⟨its, r, ⟨o, n, e, _, _, d⟩, _⟩ := I.list h
  obtain ⟨its', r', ⟨o', n', e', _, _, d'⟩, _⟩ := I.list h'
  rw [e] at e'; cases e'
  rw [d] at d'
  injection d' with d1 _
  have : its = its' := by simpa using congrArg Array.toList d1
  subst this
  exact r.inj r'
theorem Inv.tuple_inj (I : Inv X pins σ H s) (h : SqT X.K H a xs) (h' : SqT X.K H a ys) : xs = ys := by
  obtain ⟨its, r, ⟨o, e, _, n, d⟩, _⟩ := I.tuple h
  obtain ⟨its', r', ⟨o', e', _, n', d'⟩, _⟩ := I.tuple h'
  rw [e] at e'; cases e'
  rw [d] at d'
  injection d' with d1 _
  have : its = its' := by simpa using congrArg Array.toList d1
  subst this
  exact r.inj r'
end
noncomputable abbrev Cx.wish (X : Cx) (E : Value → Shared → Prop) : Cx := { X with xe := E }
noncomputable abbrev Cx.nox (X : Cx) : Cx := X.wish fun _ _ => False
theorem Cx.Ok.wish {X : Cx} (ok : X.Ok) (E : Value → Shared → Prop) : (X.wish E).Ok :=
  ⟨ok.mod, ok.kind, ok.glob, ok.blt, ok.above, ok.inj, ok.has, ok.cab, ok.hd, ok.frames, ok.stk, ok.exf, ok.bs, ok.bsz, ok.noex, ok.exfs, ok.funs, ok.frf⟩
theorem Cx.Ok.unwish {X : Cx} {E : Value → Shared → Prop} (ok : (X.wish E).Ok) : X.Ok :=
  ⟨ok.mod, ok.kind, ok.glob, ok.blt, ok.above, ok.inj, ok.has, ok.cab, ok.hd, ok.frames, ok.stk, ok.exf, ok.bs, ok.bsz, ok.noex, ok.exfs, ok.funs, ok.frf⟩
section
variable {X : Cx} {pins : List (Addr × Obj)} {σ : St} {H : Hp} {s : Shared} {E : Value → Shared → Prop}
theorem Inv.wish (I : Inv X pins σ H s) (E : Value → Shared → Prop) : Inv (X.wish E) pins σ H s := ⟨I.ok.wish E, I.os, I.bare, I.base, I.loc, I.cell, I.free, I.freeC, I.pin, I.hok, I.len⟩
theorem Inv.unwish (I : Inv (X.wish E) pins σ H s) : Inv X pins σ H s := ⟨I.ok.unwish, I.os, I.bare, I.base, I.loc, I.cell, I.free, I.freeC, I.pin, I.hok, I.len⟩
theorem SP.unwish {D : Ends} {f : Flow} {s' : Shared} (h : SP (X.wish E) pins D f s') : SP X pins D f s' := by
  cases f with
  | next => obtain ⟨σ', H', I, q⟩ := h; exact ⟨σ', H', I.unwish, q⟩
  | brk => obtain ⟨σ', H', I, q⟩ := h; exact ⟨σ', H', I.unwish, q⟩
  | cont => obtain ⟨σ', H', I, q⟩ := h; exact ⟨σ', H', I.unwish, q⟩
  | ret u => obtain ⟨v, σ', H', I, r, q⟩ := h; exact ⟨v, σ', H', I.unwish, r, q⟩
theorem PSs.nox {st : List Stmt} {t : TS} (h : PSs X.nox st t) : PSs X st t := fun pins s σ H D I hw =>
  wpAny_mono (h pins s σ H D (I.wish _) hw) (fun _ _ q => q.unwish) fun _ _ z => False.elim z
end
section
variable {X : Cx} {st : Stmt} {rest : List Stmt} {t u : TS} {e : Expr} {te : TE} {pos : Pos}
noncomputable def tNext : TS := fun D σ H => D.nx σ H
noncomputable def tSeq (t u : TS) : TS := fun D σ H => t { D with nx := u D } σ H
theorem pss_nil : PSs X [] tNext := fun _ _ σ H _ I h => wpAny_execs_nil ⟨σ, H, I, h⟩
theorem pss_cons (h1 : PS X st t) (h2 : PSs X rest u) : PSs X (st :: rest) (tSeq t u) := by
  intro pins s σ H D I h
  refine wpAny_execs_cons (thn (h1 pins s σ H { D with nx := u D } I h) fun f s1 q => ?_)
  cases f with
  | next =>
    obtain ⟨σ', H', I', q⟩ := q
    exact h2 pins s1 σ' H' D I' q
  | ret v => exact q
  | brk => exact q
  | cont => exact q
theorem pss_one (h1 : PS X st t) : PSs X [st] t := by
  intro pins s σ H D I h
  refine wpAny_execs_cons (thn (h1 pins s σ H D I h) fun f s1 q => ?_)
  cases f with
  | next => exact wpAny_execs_nil q
  | ret v => exact q
  | brk => exact q
  | cont => exact q
theorem Inv.quiet {pins : List (Addr × Obj)} {σ : St} {H : Hp} {s : Shared} (I : Inv X pins σ H s) : interactive X.env = false := by simp [interactive, I.ok.kind]
noncomputable def tDrop (te : TE) : TS := fun D σ H => te σ H fun _ H1 => D.nx σ H1
theorem ps_expr (he : PE X e te) (hs : swapsWith e none pos.line X.env = pure false := by rfl) : PS X (.Expr e pos) (tDrop te) := by
  intro pins s σ H D I h
  exact wpAny_Expr_any (thn (he pins s σ H _ I h) fun v s1 ⟨x, H1, I1, r1, q1⟩ => ⟨σ, H1, I1, q1⟩) I.quiet hs
noncomputable def tRet (te : TE) : TS := fun D σ H => te σ H D.rt
theorem ps_ret (he : PE X e te) : PS X (.Return (some e) pos) (tRet te) := by
  intro pins s σ H D I h
  exact wpAny_Return_some (thn (he pins s σ H _ I h) fun v s1 ⟨x, H1, I1, r1, q1⟩ => ⟨x, σ, H1, I1, r1, q1⟩)
noncomputable def tIfS (c : TT) (t u : TS) : TS := fun D σ H => c σ H fun b H1 => if b = true then t D σ H1 else u D σ H1
theorem ps_if {c : Expr} {a b : List Stmt} {tc : TT} (hc : PT X c tc) (ha : PSs X a t) (hb : PSs X b u) : PS X (.If c a b pos) (tIfS tc t u) := by
  intro pins s σ H D I h
  refine wpAny_If (thn (hc pins s σ H _ I h) fun d s1 ⟨H1, I1, q1⟩ => ?_)
  cases d with
  | true => exact ha pins s1 σ H1 D I1 q1
  | false => exact hb pins s1 σ H1 D I1 q1
end
noncomputable abbrev TG := V → St → Hp → (St → Hp → Prop) → Prop
noncomputable abbrev TGs := List V → St → Hp → (St → Hp → Prop) → Prop
noncomputable def PG (X : Cx) (target : Expr) (t : TG) : Prop :=
  ∀ (pins : List (Addr × Obj)) (s : Shared) (σ : St) (H : Hp) (v : V) (u : Value) (Q : St → Hp → Prop), Inv X pins σ H s → RelV v u → t v σ H Q →
    wpAny (model X.prog X.w) X.A (assign target X.env u) (fun _ s' => ∃ σ' H', Inv X pins σ' H' s' ∧ Q σ' H') X.xe s
noncomputable def PGs (X : Cx) (ts : List Expr) (t : TGs) : Prop :=
  ∀ (pins : List (Addr × Obj)) (s : Shared) (σ : St) (H : Hp) (vs : List V) (us : List Value) (Q : St → Hp → Prop), Inv X pins σ H s → Vals vs us → t vs σ H Q →
    wpAny (model X.prog X.w) X.A (assignInOrder ((assignEach ts X.env).map (·.2)) us) (fun _ s' => ∃ σ' H', Inv X pins σ' H' s' ∧ Q σ' H') X.xe s
noncomputable abbrev TSet := V → V → V → Hp → (Hp → Prop) → Prop
noncomputable def PSet (X : Cx) (t : TSet) : Prop :=
  ∀ (pins : List (Addr × Obj)) (s : Shared) (σ : St) (H : Hp) (o i v : V) (ov iv u : Value) (Q : Hp → Prop), Inv X pins σ H s → RelV o ov → RelV i iv → RelV v u → t o i v H Q →
    wpAny (model X.prog X.w) X.A (setItem ov iv u) (fun _ s' => ∃ H', Inv X pins σ H' s' ∧ Q H') X.xe s
section
variable {X : Cx} {pos : Pos}
noncomputable def gName (i : Nat) : TG := fun v σ H Q => Q (σ.set i (some v)) H
theorem pg_name {i : Nat} {x : Str} (hN : X.N.Nodup) (hi : X.N[i]? = some x) (hx : Loc X.env.scope x) (hf : X.fn x = true ∨ X.env.scope.names.lookup x = some .local := by first | exact .inl rfl | exact .inr rfl | assumption) : PG X (.Name x pos) (gName i) := by
  intro pins s σ H v u Q I r h
  exact wpAny_assign_Name (store_ok I hN hi hx r (fun s' I' => ⟨_, H, I', h⟩) hf)
noncomputable def gNil : TGs := fun vs σ H Q => vs = [] ∧ Q σ H
noncomputable def gCons (t : TG) (u : TGs) : TGs := fun vs σ H Q => ∃ v r, vs = v :: r ∧ t v σ H fun σ' H' => u r σ' H' Q
theorem pgs_nil : PGs X [] gNil := by
  intro pins s σ H vs us Q I r h
  obtain ⟨e, h⟩ := h
  subst e
  cases r
  exact assignInOrder_nil ⟨σ, H, I, h⟩
theorem pgs_cons {e : Expr} {es : List Expr} {t : TG} {u : TGs} (h1 : PG X e t) (h2 : PGs X es u)
    (hs : (assignEach (e :: es) X.env).map (·.2) = assign e X.env :: (assignEach es X.env).map (·.2) := by rfl) : PGs X (e :: es) (gCons t u) := by
  intro pins s σ H vs us Q I r h
  obtain ⟨v, vr, e1, h⟩ := h
  subst e1
  cases r with
  | cons r rr =>
    rw [hs]
    refine assignInOrder_cons (thn (h1 pins s σ H _ _ _ I r h) fun _ s1 ⟨σ1, H1, I1, q1⟩ => ?_)
    exact h2 pins s1 σ1 H1 _ _ Q I1 rr q1
noncomputable def gTup (K : PySem.W.Frag) (n : Nat) (t : TGs) : TG := fun v σ H Q => ∃ a xs, v = .ref a ∧ SqT K H a xs ∧ xs.length = n ∧ t xs σ H Q
theorem pg_tup {es : List Expr} {k : Nat} {t : TGs} {n : Nat} (hc : X.calm = true) (h : PGs X es t)
    (hn : (assignEach es X.env).length = n := by rfl) (hst : (assignEach es X.env).findIdx? (·.1) = none := by rfl) : PG X (.Tuple es k pos) (gTup X.K n t) := by
  intro pins s σ H v u Q I r hw
  obtain ⟨a, xs, e1, hq, hl, hw⟩ := hw
  subst e1
  cases r
  obtain ⟨its, rv, ht, hz⟩ := I.tuple hq
  refine assign_Tuple_tuple (I.ok.hd hc) ht (by simp [hn, ← hl, rv.length]) hst fun h' hx => ?_
  have I1 : Inv X pins σ H { s with heap := h' } := I.kept (t' := s.toks) fun b o e => hx b o (Nat.ne_of_lt (Heap.lt_size e)) e
  exact h pins _ σ H xs _ Q I1 (by simpa using rv) hw
noncomputable def gSub (to ti : TE) (t : TSet) : TG := fun v σ H Q => to σ H fun o H1 => ti σ H1 fun i H2 => t o i v H2 fun H3 => Q σ H3
theorem pg_sub {o i : Expr} {to ti : TE} {t : TSet} (ho : PE X o to) (hi : PE X i ti) (hs : PSet X t)
    (ha : ∀ v, assign (.Subscript o i pos) X.env v = (do
      let ov ← holding [v] (eval o X.env)
      let iv ← holding [v, ov] (eval i X.env)
      standAt pos
      holding [v, ov, iv] (setItem ov iv v)
      release [v, ov, iv] []) := by intro _; rfl) : PG X (.Subscript o i pos) (gSub to ti t) := by
  intro pins s σ H v u Q I r h
  rw [ha]
  refine wpAny_bind (wpAny_holding (thn (ho pins s σ H _ I h) fun ov s1 ⟨x, H1, I1, r1, q1⟩ => ?_))
  refine wpAny_bind (wpAny_holding (thn (hi pins s1 σ H1 _ I1 q1) fun iv s2 ⟨y, H2, I2, r2, q2⟩ => ?_))
  refine wpAny_bind (wpAny_standAt (wpAny_bind (wpAny_holding (thn (hs pins s2 σ H2 x y v ov iv u _ I2 r1 r2 r q2) fun _ s3 ⟨H3, I3, q3⟩ => ?_))))
  exact wpAny_release ⟨σ, H3, I3, q3⟩
noncomputable def tAsg (te : TE) (g : TG) : TS := fun D σ H => te σ H fun x H1 => g x σ H1 D.nx
theorem ps_asg {tg e : Expr} {te : TE} {g : TG} (he : PE X e te) (hg : PG X tg g) (hs : swapsWithSole [tg] e pos.line X.env = pure false := by rfl) (hw : swappedStores [tg] e X.env = pure none := by rfl)
    (h1 : (assignEach [tg] X.env).map (·.2) = [assign tg X.env] := by rfl) : PS X (.Assign [tg] e pos) (tAsg te g) := by
  intro pins s σ H D I h
  refine wpAny_Assign_stores (thn (he pins s σ H _ I h) fun v s1 ⟨x, H1, I1, r1, q1⟩ => ?_) hs hw
  rw [h1]
  exact thn (hg pins s1 σ H1 x v _ I1 r1 q1) fun _ s2 q => q
theorem ps_set {i : Nat} {x : Str} {e : Expr} {te : TE} {pos' : Pos} (hN : X.N.Nodup) (hi : X.N[i]? = some x) (hx : Loc X.env.scope x) (he : PE X e te) (hs : swapsWith e (some (.Name x pos')) pos.line X.env = pure false := by rfl) (hf : X.fn x = true ∨ X.env.scope.names.lookup x = some .local := by first | exact .inl rfl | exact .inr rfl | assumption) :
    PS X (.Assign [.Name x pos'] e pos) (tAsg te (gName i)) := by
  intro pins s σ H D I h
  refine wpAny_Assign_Name (thn (he pins s σ H _ I h) fun v s1 ⟨y, H1, I1, r1, q1⟩ => ?_) hs
  exact store_ok I1 hN hi hx r1 (fun s2 I2 => ⟨_, H1, I2, q1⟩) hf
end
section
variable {X : Cx} {pos : Pos}
noncomputable def tWhile (c : TT) (tb : TS) : TS := fun D σ H => ∃ W : Nat → St → Hp → Prop, (∃ m, W m σ H) ∧ ∀ m σ H, W m σ H →
  c σ H fun b H1 => if b = true then ∃ N : St → Hp → Prop, (∀ σ' H', N σ' H' → ∃ m', m' < m ∧ W m' σ' H') ∧ tb { D with nx := N, ct := N, bk := D.nx } σ H1 else D.nx σ H1
theorem ps_while {c : Expr} {body : List Stmt} {tc : TT} {tb : TS} (hp : PassesOwn (model X.prog X.w) X.A X.env X.xe) (hc : PT X c tc) (hb : PSs X body tb) : PS X (.While c body [] pos) (tWhile tc tb) := by
  intro pins s σ H D I h
  obtain ⟨W, ⟨m0, w0⟩, turn⟩ := h
  refine wpAny_While (codeAny_whileLoop (fun n s' => ∃ σ' H', Inv X pins σ' H' s' ∧ W n σ' H') ?_ m0 ⟨σ, H, I, w0⟩)
  rintro n s1 ⟨σ1, H1, I1, w1⟩
  refine wpAny_passesOwn hp (thn (hc pins s1 σ1 H1 _ I1 (turn n σ1 H1 w1)) fun b s2 ⟨H2, I2, q2⟩ => ?_)
  cases b with
  | true =>
    obtain ⟨N, hN, q2⟩ := q2
    rw [if_pos rfl]
    refine wpAny_passesOwn hp (thn (hb pins s2 σ1 H2 _ I2 q2) fun f s3 q3 => ?_)
    cases f with
    | next =>
      obtain ⟨σ3, H3, I3, n3⟩ := q3
      obtain ⟨m', hm, w3⟩ := hN σ3 H3 n3
      exact ⟨m', hm, σ3, H3, I3, w3⟩
    | cont =>
      obtain ⟨σ3, H3, I3, n3⟩ := q3
      obtain ⟨m', hm, w3⟩ := hN σ3 H3 n3
      exact ⟨m', hm, σ3, H3, I3, w3⟩
    | brk => exact q3
    | ret v => exact q3
  | false =>
    rw [if_neg Bool.false_ne_true]
    exact wpAny_execs_nil ⟨σ1, H2, I2, q2⟩
end
structure It where
  go : Nat → Hp → Prop
  yld : Nat → Hp → V → Hp → Prop
  stop : Nat → Hp → Prop
noncomputable def FpOk (X : Cx) (pins : List (Addr × Obj)) (H : Hp) (b : Addr) : Prop :=
  H b = none ∧ b ≠ X.env.locals ∧ b ∉ X.fs ∧ (b ∈ X.ex ∨ X.s₀.heap.objs.size ≤ b) ∧ (∀ x c, X.env.cells.lookup x = some c → c ≠ b) ∧ ∀ p ∈ X.pn ++ pins, p.1 ≠ b
theorem Inv.fpOk {X : Cx} {pins : List (Addr × Obj)} {σ : St} {H H' : Hp} {s : Shared} {b : Addr} (I : Inv X pins σ H s) (hb : s.heap.objs.size ≤ b) (hn : H' b = none) : FpOk X pins H' b := by
  refine ⟨hn, Nat.ne_of_gt (Nat.lt_of_lt_of_le I.lt hb), I.nofs hb, .inr (Nat.le_trans I.sz hb), fun x c e z => ?_, fun p hp z => ?_⟩
  · obtain ⟨v, q⟩ := I.cell x c e
    exact absurd (Nat.lt_of_lt_of_le q.lt (by rw [z]; exact hb)) (Nat.lt_irrefl _)
  · exact absurd (Nat.lt_of_lt_of_le (Heap.lt_size (I.pin p hp).1) (by rw [z]; exact hb)) (Nat.lt_irrefl _)
structure Turn (P : Program) (w : World) (K : PySem.W.Frag) (tg : Expr) (J : It) (fp : List Addr) (it : Addr) (tn : Nat → Heap → Prop) : Prop where
  mem : it ∈ fp
  obj : ∀ i h, tn i h → ∀ b ∈ fp, ∃ o, h.get? b = some o ∧ ∀ v, o.data ≠ .cell v
  keep : ∀ i h h', tn i h → (∀ b ∈ fp, ∀ o, h.get? b = some o → h'.get? b = some o) → tn i h'
  item : ∀ (X : Cx), X.prog = P → X.w = w → X.K = K → X.calm = true → ∀ (i : Nat) (pins : List (Addr × Obj)) (s : Shared) (σ : St) (H : Hp) (E : Value → Shared → Prop), Inv X pins σ H s → (∀ b ∈ fp, FpOk X pins H b) → tn i s.heap → J.go i H →
    wpAny (model P w) X.A (pyNext (.ref it)) (fun r s1 => ∃ u, r = some u ∧
      wpAny (model P w) X.A (letOwnedTupleGo tg (.ref it) u) (fun _ s2 => ∃ x H', Inv X pins σ H' s2 ∧ RelV x u ∧ J.yld i H x H' ∧ tn (i + 1) s2.heap ∧ ∀ b ∈ fp, H' b = none) E s1) E s
  done : ∀ (X : Cx), X.prog = P → X.w = w → X.K = K → X.calm = true → ∀ (i : Nat) (pins : List (Addr × Obj)) (s : Shared) (σ : St) (H : Hp) (E : Value → Shared → Prop), Inv X pins σ H s → (∀ b ∈ fp, FpOk X pins H b) → tn i s.heap → J.stop i H →
    wpAny (model P w) X.A (pyNext (.ref it)) (fun r s1 => r = none ∧ Inv X pins σ H s1) E s
  self : ∀ (A : Around) (i : Nat) (s : Shared) (Q : Value → Shared → Prop) (E : Value → Shared → Prop), tn i s.heap → Q (.ref it) s → wpAny (model P w) A (pyIter (.ref it)) Q E s
noncomputable abbrev TI := St → Hp → (It → Hp → Prop) → Prop
noncomputable def PIE (X : Cx) (pins : List (Addr × Obj)) (σ : St) (tg : Expr) (R : It → Hp → Prop) (itv : Value) (s2 : Shared) : Prop :=
  ∃ (it : Addr) (fp : List Addr) (tn : Nat → Heap → Prop) (J : It) (H' : Hp), itv = .ref it ∧ Inv X pins σ H' s2 ∧ Turn X.prog X.w X.K tg J fp it tn ∧ tn 0 s2.heap ∧ (∀ b ∈ fp, FpOk X pins H' b) ∧ R J H'
noncomputable def PI (X : Cx) (tg iter : Expr) (wi : TI) : Prop :=
  ∀ (pins : List (Addr × Obj)) (s : Shared) (σ : St) (H : Hp) (R : It → Hp → Prop), Inv X pins σ H s → wi σ H R →
    wpAny (model X.prog X.w) X.A (eval iter X.env) (fun v s1 => wpAny (model X.prog X.w) X.A (pyIter v) (PIE X pins σ tg R) X.xe s1) X.xe s
theorem go_of {M : Model} {A : Around} {E : Value → Shared → Prop} {s : Shared} {tg : Expr} {it : Addr} {u : Value} {o : Obj} {n : String} {vs : Array Value} {Q : Unit → Shared → Prop} (ho : s.heap.get? it = some o) (hc : o.cls = .type n) (hd : o.data = .fields vs)
    (hn : ["enumerate", "zip", "dict_itemiterator", "dict_reverseitemiterator", "odict_iterator", "itertools.zip_longest", "itertools.pairwise"].contains n = false) (hQ : Q () s) : wpAny M A (letOwnedTupleGo tg (.ref it) u) Q E s := by
  unfold letOwnedTupleGo
  cases tg <;> first
    | exact wpAny_pure hQ
    | (cases u <;> first
        | exact wpAny_pure hQ
        | (refine wpAny_bind (wpAny_load ho ?_)
           rw [hc, hd]
           show wpAny M A (if (["enumerate", "zip", "dict_itemiterator", "dict_reverseitemiterator", "odict_iterator", "itertools.zip_longest", "itertools.pairwise"].contains n && vs[0]? == some (rawInt _)) = true then _ else _) Q E s
           rw [if_neg (by intro h; rw [hn, Bool.false_and] at h; cases h)]
           exact wpAny_pure hQ))
noncomputable def Itl (K : PySem.W.Frag) (a : Addr) : It :=
  ⟨fun i H => ∃ xs x, SqL K H a xs ∧ xs[i]? = some x, fun i H x H' => H' = H ∧ ∀ xs, SqL K H a xs → xs[i]? = some x, fun i H => ∃ xs, SqL K H a xs ∧ xs.length ≤ i⟩
noncomputable def Itr (lo : Int) (n : Nat) : It := ⟨fun i _ => i < n, fun i H x H' => H' = H ∧ x = .int (lo + i), fun i _ => n ≤ i⟩
theorem turn_list {P : Program} {w : World} {K : PySem.W.Frag} {tg : Expr} (a it : Addr) : Turn P w K tg (Itl K a) [it] it (fun i h => h.IsListIter it a i) where
  mem := by simp
  obj := fun i h st b hb => by
    have e : b = it := by simpa using hb
    subst e
    obtain ⟨o, e, c, d⟩ := st
    exact ⟨o, e, fun v z => by rw [d] at z; cases z⟩
  keep := fun i h h' st k => st.at fun o e => k it (by simp) o e
  item := by
    intro X hP hw hK hc i pins s σ H E I hf st hg
    subst hP hw hK
    obtain ⟨xs, x, hq, hx⟩ := hg
    obtain ⟨its, rv, p, hz⟩ := I.list hq
    obtain ⟨u, hu, ru⟩ := rv.get hx
    obtain ⟨f0, f1, f2, f3, f4, f5⟩ := hf it (by simp)
    refine wpAny_pyNext_list_item st p.isList (x := u) (by simpa using hu) fun h' st' sb => ?_
    have I1 : Inv X pins σ H { s with heap := h' } := I.turned (t' := s.toks) (fun b o hb e => (sb.2 b hb).trans e) f0 f1 f3 f4 f5
    obtain ⟨o, e, c, d⟩ := id st'
    exact ⟨u, rfl, go_of (s := { s with heap := h' }) e c d (by decide) ⟨x, H, I1, ru, ⟨rfl, fun ys hy => by rw [I.list_inj hy hq]; exact hx⟩, st', fun b hb => (hf b hb).1⟩⟩
  done := by
    intro X hP hw hK hc i pins s σ H E I hf st hg
    subst hP hw hK
    obtain ⟨xs, hq, hx⟩ := hg
    obtain ⟨its, rv, p, hz⟩ := I.list hq
    obtain ⟨f0, f1, f2, f3, f4, f5⟩ := hf it (by simp)
    have hl := rv.length
    exact wpAny_pyNext_list_end (I.ok.hd hc) st p.isList (by simp; trivial) fun h' eb => ⟨rfl, I.turned (t' := s.toks) (fun b o hb e => eb b o hb e) f0 f1 f3 f4 f5⟩
  self := fun _ _ _ _ _ st h => wpAny_pyIter_listiter st h
theorem turn_range {P : Program} {w : World} {K : PySem.W.Frag} {tg : Expr} (it : Addr) (lo : Int) (n : Nat) : Turn P w K tg (Itr lo n) [it] it (fun i h => IsRangeIter h it (lo + (i : Nat) * 1) ((n : Int) - (i : Nat)) 1) where
  mem := by simp
  obj := fun i h st b hb => by
    have e : b = it := by simpa using hb
    subst e
    exact ⟨_, st, fun v z => by
      have z' : Data.fields _ = Data.cell v := z
      cases z'⟩
  keep := fun i h h' st k => k it (by simp) _ st
  item := by
    intro X hP hw hK hc i pins s σ H E I hf st hg
    subst hP hw hK
    obtain ⟨f0, f1, f2, f3, f4, f5⟩ := hf it (by simp)
    have W := Walks.range (prog := X.prog) (w := X.w) (I.ok.hd hc) it lo 1 n
    refine W.item i s _ _ hg st fun v h' tk hv st' kk => ?_
    obtain ⟨t, rfl⟩ := hv
    have I1 : Inv X pins σ H { s with heap := h', toks := tk } := I.turned (fun b o hb e => kk b o (by simpa using hb) e) f0 f1 f3 f4 f5
    refine ⟨_, rfl, go_of (s := { s with heap := h', toks := tk }) (n := "range_iterator") st' rfl rfl (by decide) ⟨.int (lo + i), H, I1, ⟨t, ?_⟩, ⟨rfl, rfl⟩, st', fun b hb => (hf b hb).1⟩⟩
    rw [Int.mul_one]
  done := by
    intro X hP hw hK hc i pins s σ H E I hf st hg
    subst hP hw hK
    obtain ⟨f0, f1, f2, f3, f4, f5⟩ := hf it (by simp)
    exact wpAny_pyNext_range_end (I.ok.hd hc) st (by have : n ≤ i := hg; trivial) fun h' eb => ⟨rfl, I.turned (t' := s.toks) (fun b o hb e => eb b o hb e) f0 f1 f3 f4 f5⟩
  self := fun _ _ _ _ _ st h => wpAny_pyIter_rangeiter st h
end L2
namespace L2
open PySem PySem.Spec PyProof.Rows
section
variable {X : Cx} {tg : Expr}
noncomputable def iList (K : PySem.W.Frag) (tl : TE) : TI := fun σ H R => tl σ H fun x H1 => ∃ a, x = .ref a ∧ (∃ xs, SqL K H1 a xs) ∧ R (Itl K a) H1
theorem pi_list {l : Expr} {tl : TE} (hl : PE X l tl) : PI X tg l (iList X.K tl) := by
  intro pins s σ H R I h
  refine thn (hl pins s σ H _ I h) fun v s1 ⟨x, H1, I1, r1, q1⟩ => ?_
  obtain ⟨a, e, ⟨xs, hq⟩, q⟩ := q1
  subst e
  cases r1
  obtain ⟨its, rv, p, hz⟩ := I1.list hq
  refine wpAny_pyIter_list p.isList ?_
  refine ⟨s1.heap.objs.size, [s1.heap.objs.size], _, _, H1, rfl, I1.kept (t' := s1.toks) fun b o e => Heap.get?_push_of_some _ e, turn_list a _, ⟨_, Heap.get?_push_size _ rfl, rfl, rfl⟩, fun b hb => ?_, q⟩
  have e : b = s1.heap.objs.size := by simpa using hb
  subst e
  exact I1.fpOk (Nat.le_refl _) (I1.hok.fresh (Nat.le_refl _))
theorem range_it {pins : List (Addr × Obj)} {σ : St} {H : Hp} {s : Shared} {R : It → Hp → Prop} {E : Value → Shared → Prop} {lo hi : Int} {t u v : Tok} {tk : Nat} (I : Inv X pins σ H s) (h1 : -(2 ^ 62) ≤ lo) (h2 : lo < 2 ^ 62) (h3 : -(2 ^ 62) ≤ hi) (h4 : hi < 2 ^ 62)
    (q : R (Itr lo (hi - lo).toNat) H) : wpAny (model X.prog X.w) X.A (pyIter (.ref s.heap.objs.size)) (PIE X pins σ tg R) E { s with heap := s.heap.push { cls := .type "range", data := .fields #[.int lo t, .int hi u, .int 1 v] }, toks := tk } := by
  refine wpAny_pyIter_range (IsRange.new ..) (small_one h1 h2 h3 h4) ?_
  have I1 : Inv X pins σ H { s with heap := s.heap.push { cls := .type "range", data := .fields #[.int lo t, .int hi u, .int 1 v] }, toks := tk } := I.kept fun b o e => Heap.get?_push_of_some _ e
  refine ⟨(s.heap.push { cls := .type "range", data := .fields #[.int lo t, .int hi u, .int 1 v] }).objs.size, [(s.heap.push { cls := .type "range", data := .fields #[.int lo t, .int hi u, .int 1 v] }).objs.size], _, _, H, rfl,
    I1.kept (t' := tk) fun b o e => Heap.get?_push_of_some _ e, turn_range _ lo (hi - lo).toNat, ?_, fun b hb => ?_, q⟩
  · have e1 : lo + ((0 : Nat) : Int) * 1 = lo := by simp
    have e2 : (((hi - lo).toNat : Nat) : Int) - ((0 : Nat) : Int) = Builtin.Range.rangeSize lo hi 1 := by rw [rangeSize_one]; split <;> trivial
    show IsRangeIter _ _ (lo + ((0 : Nat) : Int) * 1) ((((hi - lo).toNat : Nat) : Int) - ((0 : Nat) : Int)) 1
    rw [e1, e2]
    exact Heap.get?_push_size _ rfl
  · have e : b = (s.heap.push { cls := .type "range", data := .fields #[.int lo t, .int hi u, .int 1 v] }).objs.size := by simpa using hb
    subst e
    exact I1.fpOk (Nat.le_refl _) (I1.hok.fresh (Nat.le_refl _))
noncomputable def iRng1 (ta : TA) : TI := fun σ H R => ta σ H fun vs H1 => ∃ j : Int, vs = [.int j] ∧ -(2 ^ 62) ≤ j ∧ j < 2 ^ 62 ∧ R (Itr 0 j.toNat) H1
noncomputable def iRng2 (ta : TA) : TI := fun σ H R => ta σ H fun vs H1 => ∃ i j : Int, vs = [.int i, .int j] ∧ (-(2 ^ 62) ≤ i ∧ i < 2 ^ 62 ∧ -(2 ^ 62) ≤ j ∧ j < 2 ^ 62) ∧ R (Itr i (j - i).toNat) H1
theorem pi_range1 {a : Expr} {ta : TA} {p pos : Pos} (hg : Gl X "range") (hm : X.mg "range" = none) (ha : PA X [a] ta) (hs : starEach [a] X.env = [(false, eval a X.env)] := by rfl) : PI X tg (.Call (.Name "range" p) [a] [] pos) (iRng1 ta) := by
  intro pins s σ H R I h
  refine Call_ (ld_blt I hg hm boot_range (PyProof.Rows.callWith_type1 (thn (ha pos pins s σ H _ I h) fun us s1 ⟨vs, H1, I1, r1, q1⟩ => ?_) hs rfl))
  obtain ⟨j, e, q1, q2, q⟩ := q1
  subst e
  cases r1 with
  | cons r rr =>
    cases rr
    obtain ⟨t, rfl⟩ := r
    exact call_range_1 (range_it I1 (by trivial) (by trivial) q1 q2 (by simpa using q))
theorem pi_range2 {a b : Expr} {ta : TA} {p pos : Pos} (hg : Gl X "range") (hm : X.mg "range" = none) (ha : PA X [a, b] ta) (hs : starEach [a, b] X.env = [(false, eval a X.env), (false, eval b X.env)] := by rfl) (hs2 : starEach [b] X.env = [(false, eval b X.env)] := by rfl) :
    PI X tg (.Call (.Name "range" p) [a, b] [] pos) (iRng2 ta) := by
  intro pins s σ H R I h
  refine Call_ (ld_blt I hg hm boot_range (PyProof.Rows.callWith_type1 (thn (ha pos pins s σ H _ I h) fun us s1 ⟨vs, H1, I1, r1, q1⟩ => ?_) (by rw [hs, hs2]) (by rw [hs2]; rfl)))
  obtain ⟨i, j, e, ⟨q1, q2, q3, q4⟩, q⟩ := q1
  subst e
  cases r1 with
  | cons r rr =>
    cases rr with
    | cons r' rr =>
      cases rr
      obtain ⟨t, rfl⟩ := r
      obtain ⟨t', rfl⟩ := r'
      exact call_range_2 (range_it I1 q1 q2 q3 q4 q)
noncomputable def tFor (wi : TI) (g : TG) (tb : TS) : TS := fun D σ H => wi σ H fun J H1 => ∃ W : Nat → Nat → St → Hp → Prop, (∃ m, W 0 m σ H1) ∧ ∀ i m σ H, W i m σ H →
  (J.stop i H ∧ D.nx σ H) ∨ (J.go i H ∧ ∃ N : St → Hp → Prop, (∀ σ' H', N σ' H' → ∃ m', m' < m ∧ W (i + 1) m' σ' H') ∧ ∀ x H', J.yld i H x H' → g x σ H' fun σ2 H2 => tb { D with nx := N, ct := N, bk := D.nx } σ2 H2)
noncomputable def pinsAt (fp : List Addr) (h : Heap) : List (Addr × Obj) := fp.filterMap fun b => (h.get? b).map fun o => (b, o)
theorem mem_pinsAt {fp : List Addr} {h : Heap} {b : Addr} {o : Obj} (hb : b ∈ fp) (e : h.get? b = some o) : (b, o) ∈ pinsAt fp h := List.mem_filterMap.mpr ⟨b, hb, by rw [e]; rfl⟩
theorem of_pinsAt {fp : List Addr} {h : Heap} {p : Addr × Obj} (hp : p ∈ pinsAt fp h) : p.1 ∈ fp ∧ h.get? p.1 = some p.2 := by
  obtain ⟨b, hb, e⟩ := List.mem_filterMap.mp hp
  cases q : h.get? b with
  | none => rw [q] at e; cases e
  | some o =>
    rw [q] at e
    have e' : (b, o) = p := Option.some.inj e
    subst e'
    exact ⟨hb, q⟩
theorem Inv.pinned {pins : List (Addr × Obj)} {σ : St} {H : Hp} {s : Shared} {fp : List Addr} (I : Inv X pins σ H s) (hf : ∀ b ∈ fp, FpOk X pins H b) (ho : ∀ b ∈ fp, ∃ o, s.heap.get? b = some o ∧ ∀ v, o.data ≠ .cell v) : Inv X (pins ++ pinsAt fp s.heap) σ H s :=
  I.pins_of fun p hp => (List.mem_append.mp hp).elim (fun z => I.pin p (List.mem_append_right _ z)) fun z => by
    obtain ⟨hb, e⟩ := of_pinsAt z
    obtain ⟨f0, f1, f2, _⟩ := hf p.1 hb
    obtain ⟨o, e', d⟩ := ho p.1 hb
    rw [e] at e'; cases e'
    exact ⟨e, f0, f1, f2, d⟩
theorem Inv.unpinned {pins pl : List (Addr × Obj)} {σ : St} {H : Hp} {s : Shared} (I : Inv X (pins ++ pl) σ H s) : Inv X pins σ H s := I.pins_of fun p hp => I.pin p (List.mem_append_right _ (List.mem_append_left _ hp))
theorem ps_for {iter : Expr} {body : List Stmt} {wi : TI} {g : TG} {tb : TS} {pos : Pos} (hp : PassesOwn (model X.prog X.w) X.A X.env X.xe) (hc : X.calm = true) (hi : PI X tg iter wi) (hg : PG X tg g) (hb : PSs X body tb)
    (hs : ∀ x, foldedSetIterable iter X.env x = pure x := by intro _; rfl) : PS X (.For tg iter body [] pos) (tFor wi g tb) := by
  intro pins s σ H D I h
  refine wpAny_For (thn (hi pins s σ H _ I h) fun v s1 h1 => thn h1 fun itv s2 h2 => ?_) hs
  obtain ⟨it, fp, tn, J, H2, e, I2, T, st2, f2, W, ⟨m0, w0⟩, turn⟩ := h2
  subst e
  -- what stays true of the iterator's objects through the loop
  have stat : ∀ {H' : Hp}, (∀ b ∈ fp, H' b = none) → ∀ b ∈ fp, FpOk X pins H' b := fun hn b hb => ⟨hn b hb, (f2 b hb).2⟩
  refine codeAny_forLoop_any (fun n s' => ∃ i σ' H', Inv X pins σ' H' s' ∧ tn i s'.heap ∧ (∀ b ∈ fp, H' b = none) ∧ W i n σ' H') ?_ m0 ⟨0, σ, H2, I2, st2, fun b hb => (f2 b hb).1, w0⟩
  rintro n s3 ⟨i, σ3, H3, I3, st3, fr3, w3⟩
  rcases turn i n σ3 H3 w3 with ⟨stop, qn⟩ | ⟨go, N, hN, step⟩
  · refine wpAny_passesOwn hp (thn (T.done X rfl rfl rfl hc i pins s3 σ3 H3 X.xe I3 (stat fr3) st3 stop) fun r s4 ⟨hr, I4⟩ => ?_)
    subst hr
    exact wpAny_execs_nil ⟨σ3, H3, I4, qn⟩
  · refine wpAny_passesOwn hp (thn (T.item X rfl rfl rfl hc i pins s3 σ3 H3 X.xe I3 (stat fr3) st3 go) fun r s4 ⟨u, hr, h4⟩ => ?_)
    subst hr
    refine wpAny_passesOwn hp (thn h4 fun _ s5 ⟨x, H5, I5, r5, y5, st5, fr5⟩ => ?_)
    have I5' := I5.pinned (stat fr5) (T.obj _ _ st5)
    refine wpAny_passesOwn hp (thn (hg _ s5 σ3 H5 x u _ I5' r5 (step x H5 y5)) fun _ s6 ⟨σ6, H6, I6, q6⟩ => ?_)
    refine wpAny_passesOwn hp (thn (hb _ s6 σ6 H6 _ I6 q6) fun f s7 q7 => ?_)
    have again : ∀ {σ7 : St} {H7 : Hp}, Inv X (pins ++ pinsAt fp s5.heap) σ7 H7 s7 → N σ7 H7 → ∃ m, m < n ∧ ∃ i σ' H', Inv X pins σ' H' s7 ∧ tn i s7.heap ∧ (∀ b ∈ fp, H' b = none) ∧ W i m σ' H' := fun {σ7 H7} I7 n7 => by
      obtain ⟨m', hm, w7⟩ := hN σ7 H7 n7
      refine ⟨m', hm, i + 1, σ7, H7, I7.unpinned, T.keep _ _ _ st5 fun b hb o e => (I7.pin (b, o) (List.mem_append_right _ (List.mem_append_right _ (mem_pinsAt hb e)))).1, fun b hb => ?_, w7⟩
      obtain ⟨o, e, d⟩ := T.obj _ _ st5 b hb
      exact (I7.pin (b, o) (List.mem_append_right _ (List.mem_append_right _ (mem_pinsAt hb e)))).2.1
    cases f with
    | next => obtain ⟨σ7, H7, I7, n7⟩ := q7; exact again I7 n7
    | cont => obtain ⟨σ7, H7, I7, n7⟩ := q7; exact again I7 n7
    | brk => obtain ⟨σ7, H7, I7, q7⟩ := q7; exact ⟨σ7, H7, I7.unpinned, q7⟩
    | ret v => obtain ⟨x7, σ7, H7, I7, r7, q7⟩ := q7; exact ⟨x7, σ7, H7, I7.unpinned, r7, q7⟩
end
theorem for_list {K : PySem.W.Frag} {a : Addr} {xs : List V} {g : TG} {tb : TS} {D : Ends} {σ : St} {H : Hp} (Pv : Nat → St → Hp → Prop) (h0 : Pv 0 σ H) (hl : ∀ i σ H, i ≤ xs.length → Pv i σ H → SqL K H a xs)
    (hs : ∀ i x σ H, xs[i]? = some x → Pv i σ H → g x σ H fun σ2 H2 => tb { D with nx := Pv (i + 1), ct := Pv (i + 1), bk := D.nx } σ2 H2) (hd : ∀ σ H, Pv xs.length σ H → D.nx σ H) :
    ∃ W : Nat → Nat → St → Hp → Prop, (∃ m, W 0 m σ H) ∧ ∀ i m σ H, W i m σ H →
      ((Itl K a).stop i H ∧ D.nx σ H) ∨ ((Itl K a).go i H ∧ ∃ N : St → Hp → Prop, (∀ σ' H', N σ' H' → ∃ m', m' < m ∧ W (i + 1) m' σ' H') ∧ ∀ x H', (Itl K a).yld i H x H' → g x σ H' fun σ2 H2 => tb { D with nx := N, ct := N, bk := D.nx } σ2 H2) := by
  refine ⟨fun i m σ H => m = xs.length - i ∧ i ≤ xs.length ∧ Pv i σ H, ⟨xs.length, by simp, Nat.zero_le _, h0⟩, ?_⟩
  rintro i m σ H ⟨rfl, hi, p⟩
  have q := hl i σ H hi p
  by_cases hlt : i < xs.length
  · refine .inr ⟨⟨xs, xs[i], q, by simp [hlt]⟩, Pv (i + 1), fun σ' H' p' => ⟨xs.length - (i + 1), by trivial, rfl, hlt, p'⟩, fun x H' y => ?_⟩
    obtain ⟨e, y⟩ := y
    subst e
    exact hs i x σ _ (y xs q) p
  · have e : i = xs.length := by trivial
    subst e
    exact .inl ⟨⟨xs, q, Nat.le_refl _⟩, hd σ H p⟩
theorem for_range {lo : Int} {n : Nat} {g : TG} {tb : TS} {D : Ends} {σ : St} {H : Hp} (Pv : Nat → St → Hp → Prop) (h0 : Pv 0 σ H)
    (hs : ∀ i σ H, i < n → Pv i σ H → g (.int (lo + i)) σ H fun σ2 H2 => tb { D with nx := Pv (i + 1), ct := Pv (i + 1), bk := D.nx } σ2 H2) (hd : ∀ σ H, Pv n σ H → D.nx σ H) :
    ∃ W : Nat → Nat → St → Hp → Prop, (∃ m, W 0 m σ H) ∧ ∀ i m σ H, W i m σ H →
      ((Itr lo n).stop i H ∧ D.nx σ H) ∨ ((Itr lo n).go i H ∧ ∃ N : St → Hp → Prop, (∀ σ' H', N σ' H' → ∃ m', m' < m ∧ W (i + 1) m' σ' H') ∧ ∀ x H', (Itr lo n).yld i H x H' → g x σ H' fun σ2 H2 => tb { D with nx := N, ct := N, bk := D.nx } σ2 H2) := by
  refine ⟨fun i m σ H => m = n - i ∧ i ≤ n ∧ Pv i σ H, ⟨n, by simp, Nat.zero_le _, h0⟩, ?_⟩
  rintro i m σ H ⟨rfl, hi, p⟩
  by_cases hlt : i < n
  · refine .inr ⟨hlt, Pv (i + 1), fun σ' H' p' => ⟨n - (i + 1), by trivial, rfl, hlt, p'⟩, fun x H' y => ?_⟩
    obtain ⟨e, y⟩ := y
    subst e y
    exact hs i σ _ hlt p
  · have e : i = n := by trivial
    subst e
    exact .inl ⟨Nat.le_refl _, hd σ H p⟩
end L2
namespace L2
open PySem PySem.Spec PyProof.Rows
noncomputable abbrev R2 := V → V → Hp → VK → Prop
noncomputable def OpR (X : Cx) (f : Value → Value → Sem Value) (r : R2) : Prop :=
  ∀ (pins : List (Addr × Obj)) (s : Shared) (σ : St) (H : Hp) (x y : V) (v u : Value) (Q : VK), Inv X pins σ H s → RelV x v → RelV y u → r x y H Q →
    wpAny (model X.prog X.w) X.A (f v u) (EP X pins σ Q) X.xe s
noncomputable def UnR (X : Cx) (f : Value → Sem Value) (r : V → Hp → VK → Prop) : Prop :=
  ∀ (pins : List (Addr × Obj)) (s : Shared) (σ : St) (H : Hp) (x : V) (v : Value) (Q : VK), Inv X pins σ H s → RelV x v → r x H Q →
    wpAny (model X.prog X.w) X.A (f v) (EP X pins σ Q) X.xe s
noncomputable def CallR (X : Cx) (f : Value) (r : List V → Hp → VK → Prop) : Prop :=
  ∀ (pins : List (Addr × Obj)) (s : Shared) (σ : St) (H : Hp) (xs : List V) (us : List Value) (Q : VK), Inv X pins σ H s → Vals xs us → r xs H Q →
    wpAny (model X.prog X.w) X.A (call f us) (EP X pins σ Q) X.xe s
noncomputable def tOp (r : R2) (ta tb : TE) : TE := fun σ H Q => ta σ H fun x H1 => tb σ H1 fun y H2 => r x y H2 Q
noncomputable def tUn (r : V → Hp → VK → Prop) (ta : TE) : TE := fun σ H Q => ta σ H fun x H1 => r x H1 Q
noncomputable def rI (C : Int → Int → Prop) (g : Int → Int → V) : R2 := fun x y H Q => ∃ i j, x = .int i ∧ y = .int j ∧ C i j ∧ Q (g i j) H
noncomputable def rI0 (g : Int → Int → V) : R2 := fun x y H Q => ∃ i j, x = .int i ∧ y = .int j ∧ Q (g i j) H
noncomputable def rU (g : Int → V) : V → Hp → VK → Prop := fun x H Q => ∃ i, x = .int i ∧ Q (g i) H
section
variable {X : Cx} {a b c : Expr} {ta tb tc : TE} {pos : Pos}
theorem binT (ha : PE X a ta) (hb : PE X b tb) {pins : List (Addr × Obj)} {s : Shared} {σ : St} {H : Hp} {R : V → V → Hp → Prop} (I : Inv X pins σ H s)
    (h : ta σ H fun x H1 => tb σ H1 fun y H2 => R x y H2) {Q : Value → Shared → Prop} {f : Value → Value → Sem Value}
    (hf : ∀ v u s2 x y H2, Inv X pins σ H2 s2 → RelV x v → RelV y u → R x y H2 → wpAny (model X.prog X.w) X.A (f v u) Q X.xe s2) :
    wpAny (model X.prog X.w) X.A (eval a X.env) (fun v s₁ => wpAny (model X.prog X.w) X.A (eval b X.env) (fun u s₂ => wpAny (model X.prog X.w) X.A (f v u) Q X.xe s₂) X.xe s₁) X.xe s := by
  refine thn (ha pins s σ H _ I h) fun v s1 ⟨x, H1, I1, r1, q1⟩ => ?_
  refine thn (hb pins s1 σ H1 _ I1 q1) fun u s2 ⟨y, H2, I2, r2, q2⟩ => ?_
  exact hf v u s2 x y H2 I2 r1 r2 q2
theorem pe_op {op : Operator} {r : R2} (ho : OpR X (binaryOp op) r) (ha : PE X a ta) (hb : PE X b tb) : PE X (.BinOp a op b pos) (tOp r ta tb) := by
  intro pins s σ H Q I h
  exact wpAny_BinOp (binT ha hb I h fun v u s2 x y H2 I2 rx ry q => ho pins s2 σ H2 x y v u Q I2 rx ry q)
theorem pe_un {op : UnaryOp} {r : V → Hp → VK → Prop} (ho : UnR X (unaryOp op) r) (ha : PE X a ta) : PE X (.UnaryOp op a pos) (tUn r ta) := by
  intro pins s σ H Q I h
  exact UnaryOp_ (thn (ha pins s σ H _ I h) fun v s1 ⟨x, H1, I1, r1, q1⟩ => ho pins s1 σ H1 x v Q I1 r1 q1)
theorem opI {f : Value → Value → Sem Value} {C : Int → Int → Prop} {g : Int → Int → Int}
    (rule : ∀ (i j : Int) (t u : Tok) (s : Shared) (Q : Value → Shared → Prop) (E : Value → Shared → Prop), C i j → Q (.int (g i j) s.toks) { s with toks := s.toks + 1 } → wpAny (model X.prog X.w) X.A (f (.int i t) (.int j u)) Q E s) :
    OpR X f (rI C fun i j => .int (g i j)) := by
  intro pins s σ H x y v u Q I rx ry h
  obtain ⟨i, j, rfl, rfl, hc, q⟩ := h
  obtain ⟨t, rfl⟩ := rx
  obtain ⟨t', rfl⟩ := ry
  exact rule i j t t' s _ _ hc ⟨.int (g i j), H, I.tok _, ⟨_, rfl⟩, q⟩
theorem opI0 {f : Value → Value → Sem Value} {g : Int → Int → Int}
    (rule : ∀ (i j : Int) (t u : Tok) (s : Shared) (Q : Value → Shared → Prop) (E : Value → Shared → Prop), Q (.int (g i j) s.toks) { s with toks := s.toks + 1 } → wpAny (model X.prog X.w) X.A (f (.int i t) (.int j u)) Q E s) :
    OpR X f (rI0 fun i j => .int (g i j)) := by
  intro pins s σ H x y v u Q I rx ry h
  obtain ⟨i, j, rfl, rfl, q⟩ := h
  obtain ⟨t, rfl⟩ := rx
  obtain ⟨t', rfl⟩ := ry
  exact rule i j t t' s _ _ ⟨.int (g i j), H, I.tok _, ⟨_, rfl⟩, q⟩
theorem opB0 {f : Value → Value → Sem Value} {g : Int → Int → Bool}
    (rule : ∀ (i j : Int) (t u : Tok) (s : Shared) (Q : Value → Shared → Prop) (E : Value → Shared → Prop), Q (.bool (g i j)) s → wpAny (model X.prog X.w) X.A (f (.int i t) (.int j u)) Q E s) :
    OpR X f (rI0 fun i j => .bl (g i j)) := by
  intro pins s σ H x y v u Q I rx ry h
  obtain ⟨i, j, rfl, rfl, q⟩ := h
  obtain ⟨t, rfl⟩ := rx
  obtain ⟨t', rfl⟩ := ry
  exact rule i j t t' s _ _ ⟨.bl (g i j), H, I, rfl, q⟩
noncomputable def CDiv (i j : Int) : Prop := 0 < j ∧ j < 1073741824
noncomputable def CMul (i j : Int) : Prop := (-(2 ^ 64) < i ∧ i < 2 ^ 64) ∨ (-(2 ^ 64) < j ∧ j < 2 ^ 64)
theorem CMul.ok {i j : Int} (h : CMul i j) : IntMulOk i j := by
  rcases h with ⟨h1, h2⟩ | ⟨h1, h2⟩
  · exact .of_left (intBits_le_64 h1 h2)
  · exact .of_right (intBits_le_64 h1 h2)
theorem op_add : OpR X (binaryOp .Add) (rI0 fun i j => .int (i + j)) := opI0 fun _ _ _ _ _ _ _ q => add_int q
theorem op_sub : OpR X (binaryOp .Sub) (rI0 fun i j => .int (i - j)) := opI0 fun _ _ _ _ _ _ _ q => sub_int q
theorem op_mul : OpR X (binaryOp .Mult) (rI CMul fun i j => .int (i * j)) := opI fun _ _ _ _ _ _ _ hc q => mul_int q hc.ok
theorem op_fdiv : OpR X (binaryOp .FloorDiv) (rI CDiv fun i j => .int (i / j)) := opI fun i j _ _ _ _ _ hc q => by
  have h1 : (0 : Int) < j := hc.1
  have h2 : j < 1073741824 := hc.2
  exact floordiv_int (by trivial) (by rw [Int.fdiv_eq_ediv_of_nonneg i (by trivial)]; exact q) (.inl (PyProof.noPylong_small (by trivial)))
theorem op_mod : OpR X (binaryOp .Mod) (rI (fun _ j => 0 < j) fun i j => .int (i % j)) := opI fun i j _ _ _ _ _ hc q => by
  have h1 : (0 : Int) < j := hc
  exact mod_int' (by trivial) (by rw [Int.fmod_eq_emod_of_nonneg i (by trivial)]; exact q)
theorem unI {f : Value → Sem Value} {g : Int → Int}
    (rule : ∀ (i : Int) (t : Tok) (s : Shared) (Q : Value → Shared → Prop) (E : Value → Shared → Prop), Q (.int (g i) s.toks) { s with toks := s.toks + 1 } → wpAny (model X.prog X.w) X.A (f (.int i t)) Q E s) :
    UnR X f (rU fun i => .int (g i)) := by
  intro pins s σ H x v Q I rx h
  obtain ⟨i, rfl, q⟩ := h
  obtain ⟨t, rfl⟩ := rx
  exact rule i t s _ _ ⟨.int (g i), H, I.tok _, ⟨_, rfl⟩, q⟩
theorem un_neg : UnR X (unaryOp .USub) (rU fun i => .int (-i)) := unI fun _ _ _ _ _ q => neg_int q
end
noncomputable def scal : V → V → Bool
  | .non, .non => true | .non, .int _ => true | .int _, .non => true | .non, .bl _ => true | .bl _, .non => true | .non, .str _ => true | .str _, .non => true
  | .int _, .int _ => true | .bl _, .bl _ => true | .str _, .str _ => true | .byt _, .byt _ => true
  | .int _, .str _ => true | .str _, .int _ => true | .bl _, .str _ => true | .str _, .bl _ => true
  | _, _ => false
noncomputable def rEq : R2 := fun x y H Q => scal x y = true ∧ Q (.bl (decide (x = y))) H
theorem dec_int {i j : Int} : decide (V.int i = V.int j) = (i == j) := by
  rw [Bool.eq_iff_iff]
  simp
theorem dec_bl {i j : Bool} : decide (V.bl i = V.bl j) = (i == j) := by
  rw [Bool.eq_iff_iff]
  simp
theorem dec_str {i j : Str} : decide (V.str i = V.str j) = (i == j) := by
  rw [Bool.eq_iff_iff]
  simp
theorem dec_byt {i j : Array UInt8} : decide (V.byt i = V.byt j) = (i.toList == j.toList) := by
  rw [Bool.eq_iff_iff]
  cases i
  cases j
  simp
section
variable {X : Cx} {a b c : Expr} {ta tb tc : TE} {pos : Pos}
theorem fin_bl {pins : List (Addr × Obj)} {σ : St} {H : Hp} {s : Shared} {Q : VK} {k k' : Bool} (I : Inv X pins σ H s) (q : Q (.bl k) H) (e : k = k') : EP X pins σ Q (.bool k') s := by
  subst e
  exact ⟨.bl k, H, I, rfl, q⟩
theorem op_eq : OpR X (compareOp .Eq) rEq := by
  intro pins s σ H x y v u Q I rx ry h
  obtain ⟨hs, q⟩ := h
  cases x with
  | non =>
    cases rx
    cases y with
    | non => cases ry; exact PySem.EqNone.eq_none_none (fin_bl I q (by simp))
    | bl j => cases ry; exact PySem.EqNone.eq_none_bool (fin_bl I q (by simp))
    | int j => obtain ⟨t', rfl⟩ := ry; exact PySem.EqNone.eq_none_int (fin_bl I q (by simp))
    | str j => obtain ⟨t', rfl⟩ := ry; exact PySem.EqNone.eq_none_str (fin_bl I q (by simp))
    | _ => exact absurd (show false = true from hs) Bool.false_ne_true
  | bl i =>
    cases rx
    cases y with
    | non => cases ry; exact PySem.EqNone.eq_bool_none (fin_bl I q (by simp))
    | bl j => cases ry; exact eq_bool (fin_bl I q dec_bl)
    | str j => obtain ⟨t', rfl⟩ := ry; exact PySem.EqMixed.eq_bool_str (fin_bl I q (by simp))
    | _ => exact absurd (show false = true from hs) Bool.false_ne_true
  | int i =>
    obtain ⟨t, rfl⟩ := rx
    cases y with
    | non => cases ry; exact PySem.EqNone.eq_int_none (fin_bl I q (by simp))
    | int j => obtain ⟨t', rfl⟩ := ry; exact eq_int (fin_bl I q dec_int)
    | str j => obtain ⟨t', rfl⟩ := ry; exact PySem.EqMixed.eq_int_str (fin_bl I q (by simp))
    | _ => exact absurd (show false = true from hs) Bool.false_ne_true
  | str i =>
    obtain ⟨t, rfl⟩ := rx
    cases y with
    | non => cases ry; exact PySem.EqNone.eq_str_none (fin_bl I q (by simp))
    | bl j => cases ry; exact PySem.EqMixed.eq_str_bool (fin_bl I q (by simp))
    | int j => obtain ⟨t', rfl⟩ := ry; exact PySem.EqMixed.eq_str_int (fin_bl I q (by simp))
    | str j => obtain ⟨t', rfl⟩ := ry; exact eq_str (fin_bl I q dec_str)
    | _ => exact absurd (show false = true from hs) Bool.false_ne_true
  | byt i =>
    obtain ⟨t, rfl⟩ := rx
    cases y with
    | byt j => obtain ⟨t', rfl⟩ := ry; exact PySem.W.eq_bytes (fin_bl I q dec_byt)
    | _ => exact absurd (show false = true from hs) Bool.false_ne_true
  | _ => cases y <;> exact absurd (show false = true from hs) Bool.false_ne_true
theorem op_lt : OpR X (compareOp .Lt) (rI0 fun i j => .bl (decide (i < j))) := opB0 fun _ _ _ _ _ _ _ q => lt_int q
theorem op_le : OpR X (compareOp .LtE) (rI0 fun i j => .bl (decide (i ≤ j))) := opB0 fun _ _ _ _ _ _ _ q => le_int q
theorem op_gt : OpR X (compareOp .Gt) (rI0 fun i j => .bl (decide (j < i))) := opB0 fun _ _ _ _ _ _ _ q => gt_int q
theorem op_ge : OpR X (compareOp .GtE) (rI0 fun i j => .bl (decide (j ≤ i))) := opB0 fun _ _ _ _ _ _ _ q => ge_int q
theorem nomark (b : Expr) {op : CmpOp} (h : op ≠ .In := by decide) (h2 : op ≠ .NotIn := by decide) : behindInMarks op b = false := by
  have e1 : (op == CmpOp.In) = false := by cases op <;> first | rfl | exact absurd rfl h
  have e2 : (op == CmpOp.NotIn) = false := by cases op <;> first | rfl | exact absurd rfl h2
  cases b <;> simp [behindInMarks, e1, e2]
theorem pe_cmpR {op : CmpOp} {r : R2} (ho : OpR X (compareOp op) r) (ha : PE X a ta) (hb : PE X b tb) (hm : behindInMarks op b = false) : PE X (.Compare a [op] [b] pos) (tOp r ta tb) := by
  intro pins s σ H Q I h
  exact wpAny_Compare1 (binT ha hb I h fun v u s2 x y H2 I2 rx ry q => ho pins s2 σ H2 x y v u Q I2 rx ry q) hm
noncomputable def tTest (t : TE) : TT := fun σ H Q => t σ H fun x H' => ∃ k, x = .bl k ∧ Q k H'
theorem pt_cmpR {op : CmpOp} {r : R2} (ho : OpR X (compareOp op) r) (ha : PE X a ta) (hb : PE X b tb) (hm : behindInMarks op b = false) : PT X (.Compare a [op] [b] pos) (tTest (tOp r ta tb)) := by
  intro pins s σ H Q I h
  refine wpAny_isTrue_Compare1 (thn (ha pins s σ H _ I h) fun v s1 ⟨x, H1, I1, r1, q1⟩ => thn (hb pins s1 σ H1 _ I1 q1) fun u s2 ⟨y, H2, I2, r2, q2⟩ =>
    thn (ho pins s2 σ H2 x y v u _ I2 r1 r2 q2) fun c s3 ⟨z, H3, I3, r3, k, e, q3⟩ => ?_) hm
  subst e
  cases r3
  exact wpAny_truthy_bool ⟨H3, I3, q3⟩
theorem line63 : (sizeLine : Nat) < 2 ^ 63 := by rw [sizeLine_eq]; decide
theorem vals1 {x : V} {us : List Value} (r : Vals [x] us) : ∃ u, us = [u] ∧ RelV x u := by
  cases r with
  | cons r1 r2 => cases r2; exact ⟨_, rfl, r1⟩
theorem vals2 {x y : V} {us : List Value} (r : Vals [x, y] us) : ∃ u w', us = [u, w'] ∧ RelV x u ∧ RelV y w' := by
  cases r with
  | cons r1 r2 =>
    cases r2 with
    | cons r3 r4 => cases r4; exact ⟨_, _, rfl, r1, r3⟩
theorem call_max2 (hc : X.calm = true) : CallR X (.builtin "max") (fun xs H Q => ∃ i j, xs = [.int i, .int j] ∧ Q (.int (if j > i then j else i)) H) := by
  intro pins s σ H xs us Q I r h
  obtain ⟨i, j, rfl, q⟩ := h
  obtain ⟨u, w', rfl, ⟨t, rfl⟩, ⟨t', rfl⟩⟩ := vals2 r
  refine max_two_ints (I.ok.hd hc) fun h' tk k => ⟨_, H, I.kept k, ?_, q⟩
  by_cases hj : j > i
  · rw [if_pos hj, if_pos hj]; exact ⟨_, rfl⟩
  · rw [if_neg hj, if_neg hj]; exact ⟨_, rfl⟩
theorem call_min2 (hc : X.calm = true) : CallR X (.builtin "min") (fun xs H Q => ∃ i j, xs = [.int i, .int j] ∧ Q (.int (if j < i then j else i)) H) := by
  intro pins s σ H xs us Q I r h
  obtain ⟨i, j, rfl, q⟩ := h
  obtain ⟨u, w', rfl, ⟨t, rfl⟩, ⟨t', rfl⟩⟩ := vals2 r
  refine min_two_ints (I.ok.hd hc) fun h' tk k => ⟨_, H, I.kept k, ?_, q⟩
  by_cases hj : j < i
  · rw [if_pos hj, if_pos hj]; exact ⟨_, rfl⟩
  · rw [if_neg hj, if_neg hj]; exact ⟨_, rfl⟩
theorem call_int1 : CallR X (.type "int") (fun xs H Q => (∃ i, xs = [.int i] ∧ Q (.int i) H) ∨ ∃ k, xs = [.bl k] ∧ Q (.int (if k then 1 else 0)) H) := by
  intro pins s σ H xs us Q I r h
  rcases h with ⟨i, rfl, q⟩ | ⟨k, rfl, q⟩
  · obtain ⟨u, rfl, t, rfl⟩ := vals1 r
    exact call_int_int ⟨.int i, H, I, ⟨_, rfl⟩, q⟩
  · obtain ⟨u, rfl, r1⟩ := vals1 r
    cases r1
    exact call_int_bool ⟨.int (if k then 1 else 0), H, I.tok _, ⟨_, rfl⟩, q⟩
end
end L2
namespace L2
open PySem PySem.Spec PyProof.Rows
structure ObjM (h : Heap) (x dx C : Addr) (mA : Str → Option Value) : Prop where
  obj : h.get? x = some (PySem.W.instObj C dx)
  ns : h.Ns1 dx mA
  ne : dx ≠ x
theorem lookIn_ns {h : Heap} {dx : Addr} {mA : Str → Option Value} (n : h.Ns1 dx mA) : ∃ od, h.get? dx = some od ∧ ∀ name, PySem.W.lookIn name od = some (mA name) := by
  obtain ⟨o, es, ep, ho, hd, hk, _, hm⟩ := n
  refine ⟨o, ho, fun name => ?_⟩
  have e := hm name
  unfold nsFind findBy at e
  rw [← Array.find?_toList] at e
  unfold PySem.W.lookIn
  rw [hd]
  dsimp only
  split
  · rename_i y q
    rw [q] at e
    exact congrArg some e
  · rename_i q
    rw [q] at e
    have a : es.toList.any (·.refKey) = false := by
      rw [List.any_eq_false]
      intro y hy
      obtain ⟨z, t, hkey⟩ := hk y (Array.mem_toList_iff.mp hy)
      simp [DictEntry.refKey, hkey]
    have a' : ¬ es.toList.any (·.refKey) = true := by rw [a]; exact Bool.false_ne_true
    rw [if_neg a']
    exact congrArg some e
theorem ObjM.look {h : Heap} {x dx C : Addr} {mA : Str → Option Value} (I : ObjM h x dx C mA) : ∃ od, PySem.W.InstAt h x (PySem.W.instObj C dx) C (some od) ∧ ∀ name, PySem.W.lookIn name od = some (mA name) :=
  let ⟨od, ho, hl⟩ := lookIn_ns I.ns
  ⟨od, ⟨I.obj, rfl, rfl, ho⟩, hl⟩
section
variable {prog : Program} {w : World} {A : Around} {E : Value → Shared → Prop} {s : Shared} {K : PySem.W.Frag} {x dx C f : Addr} {mA : Str → Option Value} {name : Str} {v : Value}
end
theorem RelO.some_of {v : V} {o : Option Value} (r : RelO (some v) o) : ∃ u, o = some u ∧ RelV v u := by
  cases o with
  | none => exact (show False from r).elim
  | some u => exact ⟨u, rfl, r⟩
section
variable {P : Program} {w : World} {H H' : Hp} {h h' : Heap} {a C dx : Addr} {fs fs' : List (Str × V)}
theorem ins_get (hok : HOk P w H h) (e : H a = some (.ins C dx fs)) : ∃ mA, ObjM h a dx C mA ∧ (∀ f, RelO (fs.lookup f) (mA f)) ∧ PySem.Within mA (fs.map (·.1)) ∧ fs.length ≤ 1000 ∧ H dx = some (.own a) := by
  obtain ⟨d, z, ne, ob, mA, n, r, q⟩ := (show ObjOk P w H h a (.ins C dx fs) from hok a _ e)
  exact ⟨mA, ⟨ob, n, ne⟩, r, q, z, d⟩
end
structure Cls (K : PySem.W.Frag) (C : Addr) : Prop where
  pg : PySem.W.plainGet K C Str.empty = true
  hd : PySem.W.hasDictIn K C = true
  po : PySem.W.plainOver K C = true
  sa : PySem.W.findIn K (.ref C) "__setattr__" = some (some (.builtin "object.__setattr__"))
theorem Cls.get {K : PySem.W.Frag} {C : Addr} (c : Cls K C) (f : Str) : PySem.W.plainGet K C f = true := c.pg
structure Con (K : PySem.W.Frag) (C : Addr) (f : Str) (v : V) (u : Value) : Prop where
  at_ : PySem.W.findIn K (.ref C) f = some (some u)
  rel : RelV v u
  get : PySem.W.specialIn K u "__get__" = some none
  cp : PySem.W.copiedNames.contains f = false
structure Meth (K : PySem.W.Frag) (C : Addr) (m : Str) (f : Addr) : Prop where
  at_ : PySem.W.findIn K (.ref C) m = some (some (.ref f))
  fn : PySem.W.isFn K (.ref f) = true
  kp : PySem.W.keepIn K (.ref f) = true
section
variable {X : Cx} {pins : List (Addr × Obj)} {σ : St} {H : Hp} {s : Shared} {a C dx : Addr} {fs : List (Str × V)} {f : Str} {v : V} {A : Around} {E : Value → Shared → Prop}
end
section
variable {X : Cx} {o e value : Expr} {f : Str} {pos pos' tpos : Pos} {ta tv : TE}
end
section
variable {X : Cx} {pins : List (Addr × Obj)} {σ : St} {H : Hp} {s : Shared} {A : Around} {E : Value → Shared → Prop} {Q : Value → Shared → Prop} {c : Value} {b : Bool}
inductive TyOf (K : PySem.W.Frag) (H : Hp) : V → Value → Prop where
  | non : TyOf K H .non (.type "NoneType")
  | bl (x : Bool) : TyOf K H (.bl x) (.type "bool")
  | int (i : Int) : TyOf K H (.int i) (.type "int")
  | str (x : Str) : TyOf K H (.str x) (.type "str")
  | flt (x : UInt64) : TyOf K H (.flt x) (.type "float")
  | lst {a : Addr} {xs : List V} (e : H a = some (.lst xs)) : TyOf K H (.ref a) (.type "list")
  | frz {a : Addr} {o : Obj} {xs : List V} (e : H a = some (.frz o (.lst xs))) : TyOf K H (.ref a) (.type "list")
  | tup {a : Addr} {xs : List V} (e : H a = some (.tup xs)) : TyOf K H (.ref a) (.type "tuple")
  | dK {a : Addr} {kvs : List (Key × V)} (e : H a = some (.dK kvs)) : TyOf K H (.ref a) (.type "dict")
  | dT {a : Addr} {kvs : List (List Key × V)} (e : H a = some (.dT kvs)) : TyOf K H (.ref a) (.type "dict")
  | ins {a C dx : Addr} {fs : List (Str × V)} (e : H a = some (.ins C dx fs)) (cl : Cls K C) (ha : PySem.W.findIn K (.ref C) "__class__" = some (some (.builtin "object.__class__")))
      (hn : PySem.W.specialIn K (.builtin "object.__class__") "__get__" = some (some (.builtin "getset_descriptor.__get__"))) (htk : PySem.W.takesIn K (.builtin "object.__class__") = some true)
      (hm : PySem.W.mroIn K C (.type "object") = some true) : TyOf K H (.ref a) (.ref C)
theorem isinst_ok {x : V} {u t : Value} (I : Inv X pins σ H s) (rx : RelV x u) (ty : TyOf X.K H x t) (e : PySem.W.kitOne X.K t c = some b) (h : ∀ tk, Q (.bool b) { s with toks := tk }) :
    wpAny (model X.prog X.w) A (call (.builtin "isinstance") [u, c]) Q E s := by
  cases ty with
  | non => cases (show u = Value.none from rx); exact PySem.W.kia_one PySem.W.kitx_none I.kIn True.intro e (fun z => nomatch z) h
  | bl y => cases (show u = Value.bool y from rx); exact PySem.W.kia_one PySem.W.kitx_bool I.kIn True.intro e (fun z => nomatch z) h
  | int i => obtain ⟨t, q⟩ := (show ∃ t, u = Value.int i t from rx); cases q; exact PySem.W.kia_one PySem.W.kitx_int I.kIn True.intro e (fun z => nomatch z) h
  | str y => obtain ⟨t, q⟩ := (show ∃ t, u = Value.str y t from rx); cases q; exact PySem.W.kia_one PySem.W.kitx_str I.kIn True.intro e (fun z => nomatch z) h
  | flt y => obtain ⟨t, q⟩ := (show ∃ t, u = Value.float y t from rx); cases q; exact PySem.W.kia_one PySem.W.kitx_float I.kIn True.intro e (fun z => nomatch z) h
  | @lst a xs ea =>
    cases (show u = Value.ref a from rx)
    obtain ⟨_, _, n, _, h1⟩ := (show ObjOk X.prog X.w H s.heap a (.lst xs) from I.hok a _ ea)
    exact PySem.W.kia_one PySem.W.kitx_list I.kIn ⟨_, h1, rfl⟩ e (fun z => nomatch z) h
  | @frz a ob xs ea =>
    cases (show u = Value.ref a from rx)
    obtain ⟨_, _, _, n, _, h1⟩ := (show ObjOk X.prog X.w H s.heap a (.frz ob (.lst xs)) from I.hok a _ ea)
    exact PySem.W.kia_one PySem.W.kitx_list I.kIn ⟨_, h1, rfl⟩ e (fun z => nomatch z) h
  | @tup a xs ea =>
    cases (show u = Value.ref a from rx)
    obtain ⟨_, _, _, p⟩ := (show ObjOk X.prog X.w H s.heap a (.tup xs) from I.hok a _ ea)
    obtain ⟨o, h1, h2, _⟩ := p
    exact PySem.W.kia_one PySem.W.kitx_tuple I.kIn ⟨o, h1, h2⟩ e (fun z => nomatch z) h
  | @dK a kvs ea =>
    cases (show u = Value.ref a from rx)
    obtain ⟨_, _, vs, _, p⟩ := (show ObjOk X.prog X.w H s.heap a (.dK kvs) from I.hok a _ ea)
    obtain ⟨o, es, ep, h1, h2, _⟩ := p
    exact PySem.W.kia_one PySem.W.kitx_dict I.kIn ⟨o, h1, h2.1⟩ e (fun z => nomatch z) h
  | @dT a kvs ea =>
    cases (show u = Value.ref a from rx)
    obtain ⟨_, _, xs, _, o, es, ep, h1, h2, _⟩ := (show ObjOk X.prog X.w H s.heap a (.dT kvs) from I.hok a _ ea)
    exact PySem.W.kia_one PySem.W.kitx_dict I.kIn ⟨o, h1, h2.1⟩ e (fun z => nomatch z) h
  | @ins a C dx fs ea cl ha hn htk hm =>
    cases (show u = Value.ref a from rx)
    obtain ⟨mA, O, _⟩ := ins_get I.hok ea
    obtain ⟨od, J, _⟩ := O.look
    exact PySem.W.kia_one (PySem.W.kitx_own (cl.get _) cl.hd ha hn htk hm) I.kIn J e (fun z => nomatch z) h
end
end L2
namespace L2
open PySem PySem.Spec PyProof.Rows
structure Room (k : Nat) (A : Around) : Prop where
  hd : A.handled = none
  dp : A.depth + 3 * k + 5 < recursionLimit
  un : A.units + 16 * k + 200 < cLine
theorem Room.mono {j k : Nat} {A : Around} (r : Room k A) (h : j ≤ k) : Room j A := ⟨r.hd, by have := r.dp; trivial, by have := r.un; trivial⟩
theorem Room.deeper {k : Nat} {A : Around} (r : Room (k + 1) A) (env : Env) : Room k (A.deeper env) :=
  ⟨r.hd, by have := r.dp; show A.depth + 1 + 3 * k + 5 < _; trivial, by have := r.un; show A.units + 3 + 16 * k + 200 < _; trivial⟩
theorem Room.depth {k : Nat} {A : Around} (r : Room k A) : A.depth < recursionLimit := by have := r.dp; trivial
theorem Room.units {k : Nat} {A : Around} (r : Room k A) : A.units + 64 < cLine := by have := r.un; trivial
noncomputable def tNil : TA := fun _ H Q => Q [] H
noncomputable def tCons (ta : TE) (tr : TA) : TA := fun σ H Q => ta σ H fun x H1 => tr σ H1 fun xs H2 => Q (x :: xs) H2
section
variable {X : Cx} {e : Expr} {es : List Expr} {te : TE} {t : TA} {pos : Pos}
theorem pa_nil : PA X [] tNil := fun _ _ _ _ H Q I h => Calls.spliced_nil ⟨[], H, I, .nil, h⟩
theorem pa_cons (ha : PE X e te) (hr : PA X es t) (hs : starEach (e :: es) X.env = (false, eval e X.env) :: starEach es X.env := by rfl) : PA X (e :: es) (tCons te t) := by
  intro pos pins s σ H Q I h
  rw [hs]
  show wpAny _ _ (spliced ((false, eval e X.env) :: backTo pos (starEach es X.env))) _ _ s
  refine Calls.spliced_cons (thn (ha pins s σ H _ I h) fun u s1 ⟨x, H1, I1, r1, q1⟩ => ?_)
  exact thn (hr pos pins s1 σ H1 _ I1 q1) fun us s2 ⟨xs, H2, I2, r2, q2⟩ => ⟨x :: xs, H2, I2, .cons r1 r2, q2⟩
noncomputable def tTup (t : TA) : TE := fun σ H Q => t σ H fun xs H1 => xs.length ≤ sizeLine ∧ ∀ p, H1 p = none → Q (.ref p) (upd H1 p (.tup xs))
noncomputable def tLst (t : TA) : TE := fun σ H Q => t σ H fun xs H1 => xs.length ≤ sizeLine ∧ ∀ p, H1 p = none → Q (.ref p) (upd H1 p (.lst xs))
theorem pe_tup {x1} (h : PA X es t) : PE X (.Tuple es x1 pos) (tTup t) := by
  intro pins s σ H Q I hq
  refine wpAny_Tuple_spliced (thn (h pos pins s σ H _ I hq) fun us s1 ⟨xs, H1, I1, r, z, q⟩ => ⟨by rw [← r.length]; exact z, ?_⟩)
  have hf : H1 s1.heap.objs.size = none := I1.hok.fresh (Nat.le_refl _)
  refine ⟨.ref s1.heap.objs.size, upd H1 s1.heap.objs.size (.tup xs), I1.laid (t' := s1.toks) (fun b u e => Heap.get?_push_of_some _ e) (Nat.le_refl _) ?_, rfl, q _ hf⟩
  exact ⟨z, us, r, ⟨_, Heap.get?_push_size _ rfl, rfl, _, rfl⟩⟩
theorem pe_lst (h : PA X es t) : PE X (.List es pos) (tLst t) := by
  intro pins s σ H Q I hq
  refine wpAny_List_spliced (thn (h pos pins s σ H _ I hq) fun us s1 ⟨xs, H1, I1, r, z, q⟩ => ⟨by rw [← r.length]; exact z, ?_⟩)
  have hf : H1 s1.heap.objs.size = none := I1.hok.fresh (Nat.le_refl _)
  refine ⟨.ref s1.heap.objs.size, upd H1 s1.heap.objs.size (.lst xs), I1.laid (t' := s1.toks) (fun b u e => Heap.get?_push_of_some _ e) (Nat.le_refl _) ?_, rfl, q _ hf⟩
  exact ⟨z, us, 0, r, Heap.get?_push_size _ rfl⟩
end
noncomputable abbrev Sp := List V → Hp → VK → XK → Prop
noncomputable abbrev CXT := List Env → Hp → Shared → XK → Value → Shared → Prop
structure Env0 (P : Program) (w : World) (K : PySem.W.Frag) (mg : Str → Option Value) (base : Heap) (A : Around) (outer : List Env) (s : Shared) (H : Hp) : Prop where
  frames : A.frames = some outer
  mod : Mod K mg base
  bs : ∀ b o, base.get? b = some o → s.heap.get? b = some o ∧ H b = none
  bsz : base.objs.size ≤ s.heap.objs.size
  funs : s.heap.FunFrames base outer
  frf : ∀ b ∈ frs outer, H b = none
  hok : HOk P w H s.heap
  bare : AllBare s.gens
noncomputable def CE (outer : List Env) (P : Program) (w : World) (H : Hp) (s : Shared) (Q : VK) (u : Value) (s' : Shared) : Prop :=
  ∃ v H', s'.os = s.os ∧ AllBare s'.gens ∧ Un (frs outer) [] H H' s.heap s'.heap ∧ HOk P w H' s'.heap ∧ RelV v u ∧ Q v H'
noncomputable def CR (CX : CXT) (outer : List Env) (P : Program) (w : World) (H : Hp) (s : Shared) (Q : VK) (E : XK) (r : Result) (s' : Shared) : Prop :=
  match r with
  | .ok (.ret u) => CE outer P w H s Q u s'
  | .ok _ => False
  | .error e => CX outer H s E e s'
structure FnOk (P : Program) (w : World) (K : PySem.W.Frag) (mg : Str → Option Value) (base : Heap) (CX : CXT) (k : Nat) (f : Addr) (fd : FuncData) (ps : List Str) (sp : Sp) : Prop where
  len : ∀ vs H Q E, sp vs H Q E → vs.length = ps.length
  run : ∀ (A : Around) (outer : List Env) (s : Shared) (H : Hp) (args : Args) (us : List Value) (vs : List V) (Q : VK) (E : XK), Room k A → Env0 P w K mg base A outer s H → BindsTo s fd args (ps.zip us) → Vals vs us → sp vs H Q E →
    codeAny (model P w) A (.call (.ref f) args) (CR CX outer P w H s Q E) s
section
variable {X : Cx} {pins : List (Addr × Obj)} {σ : St} {H : Hp} {s s' : Shared}
theorem Inv.env0 (I : Inv X pins σ H s) : Env0 X.prog X.w X.K X.mg X.base X.A X.stack s H :=
  ⟨I.ok.frames, I.ok.mod, I.bs, Nat.le_trans I.ok.bsz I.sz, I.stack, I.stkFree, I.hok, I.bare⟩
theorem Inv.after {Q : VK} {u : Value} (I : Inv X pins σ H s) (h : CE X.stack X.prog X.w H s Q u s') : EP X pins σ Q u s' := by
  obtain ⟨v, H', os, bare, un, hok, r, q⟩ := h
  obtain ⟨hh, g, d, t, os'⟩ := s'
  obtain rfl : os' = s.os := os
  exact ⟨v, H', I.call (h' := hh) (g' := g) (d' := d) (t' := t) (ch := []) un hok bare (fun b z => absurd z (by simp)), r, q⟩
end
noncomputable def tCall (sp : Sp) (dvs : List V) (E : XK) (t : TA) : TE := fun σ H Q => t σ H fun vs H1 => sp (vs ++ dvs) H1 Q E
noncomputable def Binds (K : PySem.W.Frag) (fd : FuncData) (ps : List Str) (ds : List Value) : Prop :=
  ∀ (s : Shared) (us : List Value), K.In s.heap → (us ++ ds).length = ps.length → BindsTo s fd ⟨us, []⟩ (ps.zip (us ++ ds))
theorem Binds.all {K : PySem.W.Frag} {fd : FuncData} {ps : List Str} (h : ∀ us : List Value, us.length = ps.length → bindArgs fd ⟨us, []⟩ = pure (ps.zip us)) : Binds K fd ps [] := fun s us _ hl => by
  rw [List.append_nil] at hl ⊢
  exact .of_eq (h us hl)
noncomputable def Passes (CX : CXT) (X : Cx) (E : XK) : Prop := ∀ (pins : List (Addr × Obj)) (σ : St) (H : Hp) (s : Shared) (e : Value) (s' : Shared), Inv X pins σ H s → CX X.stack H s E e s' → X.xe e s'
section
variable {X : Cx} {CX : CXT} {k : Nat} {f C : Addr} {fd : FuncData} {ps : List Str} {sp : Sp} {dvs : List V} {ds : List Value} {E : XK} {x m : Str} {p pos apos : Pos} {e o : Expr} {es : List Expr} {ta : TE} {t : TA}
theorem run_fn {pins : List (Addr × Obj)} {σ : St} {H : Hp} {s : Shared} {Q : VK} {us : List Value} {vs : List V} (F : FnOk X.prog X.w X.K X.mg X.base CX k f fd ps sp) (hr : Room k X.A) (hb : Binds X.K fd ps ds) (hd : Vals dvs ds) (hx : Passes CX X E)
    (I : Inv X pins σ H s) (r : Vals vs us) (h : sp (vs ++ dvs) H Q E) : wpAny (model X.prog X.w) X.A (call (.ref f) us) (EP X pins σ Q) X.xe s := by
  have r2 : Vals (vs ++ dvs) (us ++ ds) := r.append hd
  have hl : (us ++ ds).length = ps.length := by rw [← r2.length]; exact F.len _ _ _ _ h
  refine wpAny_call (codeAny_mono (F.run X.A X.stack s H ⟨us, []⟩ (us ++ ds) (vs ++ dvs) Q E hr I.env0 (hb s us I.kIn hl) r2 h) fun r s' hq => ?_)
  cases r with
  | error e => exact hx pins σ H s e s' I hq
  | ok fl =>
    cases fl with
    | ret u => exact I.after hq
    | next => exact False.elim hq
    | brk => exact False.elim hq
    | cont => exact False.elim hq
theorem pe_call (F : FnOk X.prog X.w X.K X.mg X.base CX k f fd ps sp) (hr : Room k X.A) (hg : Gl X x) (hm : X.mg x = some (.ref f)) (hk : PySem.W.keepIn X.K (.ref f) = true) (hb : Binds X.K fd ps ds) (hd : Vals dvs ds) (hx : Passes CX X E)
    (ha : PA X (e :: es) t) (hdb : (x == ("__debug__" : Str)) = false := by decide) (he : starEach (e :: es) X.env = (false, eval e X.env) :: starEach es X.env := by rfl) (hpl : (backTo pos (starEach es X.env)).any (·.1) = false := by rfl) :
    PE X (.Call (.Name x p) (e :: es) [] pos) (tCall sp dvs E t) := by
  intro pins s σ H Q I h
  refine wpAny_Call_Name_kw (ld_glob I hg hm ?_ hdb)
  refine PySem.W.callWith_K (h₀ := X.base) I.ok.mod.kin hk (thn (ha pos pins s σ H _ I h) fun us s1 ⟨vs, H1, I1, r, q⟩ => ⟨I1.kIn, ?_⟩) he hpl
  exact run_fn F hr hb hd hx I1 r q
structure Mk (K : PySem.W.Frag) (C f : Addr) : Prop where
  makes : PySem.W.makesIn K C = true
  init : PySem.W.findIn K (.ref C) "__init__" = some (some (.ref f))
  fn : PySem.W.isFn K (.ref f) = true
  kp : PySem.W.keepIn K (.ref C) = true
end
section
variable {X : Cx} {CX : CXT} {k : Nat} {f C : Addr} {fd : FuncData} {ps ks : List Str} {sp : Sp} {E : XK} {x m : Str} {p pos apos kpos : Pos} {e o : Expr} {es : List Expr} {kws : List Keyword} {te ta : TE} {t tk : TA} {nm : Option Str}
structure KBinds (K : PySem.W.Frag) (fd : FuncData) (ps ks : List Str) (g : List Value → List Value → List Value) (gV : List V → List V → List V) : Prop where
  to : ∀ (s : Shared) (us ws : List Value), K.In s.heap → (g us ws).length = ps.length → BindsTo s fd ⟨us, ks.zip ws⟩ (ps.zip (g us ws))
  rel : ∀ {vs : List V} {us : List Value} {zs : List V} {ws : List Value}, Vals vs us → Vals zs ws → Vals (gV vs zs) (g us ws)
variable {g : List Value → List Value → List Value} {gV : List V → List V → List V}
end
structure FnScope (N P : List Str) (sc : Scope) : Prop where
  kind : sc.kind = .function
  co : sc.isCoroutine = false
  gen : sc.isGenerator = false
  nd : N.Nodup
  pre : N.take P.length = P
  par : ∀ x ∈ P, sc.names.lookup x = some .local ∨ sc.names.lookup x = some .cell
  nofree : ∀ y ∈ sc.names, y.2 ≠ .free
theorem bindL_out {kindOf : Str → Option NameKind} {x : Str} : ∀ {binds : List (Str × Value)} {m : Str → Option Value}, (∀ v, (x, v) ∉ binds) → bindL kindOf binds m x = m x
  | [], _, _ => rfl
  | (n, v) :: r, m, h => by
    unfold bindL
    rw [bindL_out fun w hw => h w (List.mem_cons_of_mem _ hw)]
    split
    · have : x ≠ n := by rintro rfl; exact h v List.mem_cons_self
      simp [this]
    · rfl
theorem bindC_out {kindOf : Str → Option NameKind} {x : Str} : ∀ {binds : List (Str × Value)} {m : Str → Option Value}, (∀ v, (x, v) ∉ binds) → bindC kindOf binds m x = m x
  | [], _, _ => rfl
  | (n, v) :: r, m, h => by
    unfold bindC
    rw [bindC_out fun w hw => h w (List.mem_cons_of_mem _ hw)]
    split
    · rfl
    · have : x ≠ n := by rintro rfl; exact h v List.mem_cons_self
      simp [this]
theorem bindL_get {kindOf : Str → Option NameKind} {x : Str} {v : Value} : ∀ {P : List Str} {vs : List Value} {i : Nat} {m : Str → Option Value}, P.Nodup → P[i]? = some x → vs[i]? = some v → kindOf x = some .local →
    bindL kindOf (P.zip vs) m x = some v
  | [], _, _, _, _, h, _, _ => by simp at h
  | _ :: _, [], _, _, _, _, h, _ => by simp at h
  | p :: P, w :: vs, 0, m, nd, h1, h2, hk => by
    simp at h1 h2; subst h1; subst h2
    show bindL kindOf ((p, w) :: P.zip vs) m p = _
    unfold bindL
    rw [bindL_out fun v hv => (List.nodup_cons.mp nd).1 (List.of_mem_zip hv).1, if_pos hk]
    simp
  | p :: P, w :: vs, i + 1, m, nd, h1, h2, hk => by
    show bindL kindOf ((p, w) :: P.zip vs) m x = _
    unfold bindL
    exact bindL_get (i := i) (List.nodup_cons.mp nd).2 (by simpa using h1) (by simpa using h2) hk
theorem bindC_get {kindOf : Str → Option NameKind} {x : Str} {v : Value} : ∀ {P : List Str} {vs : List Value} {i : Nat} {m : Str → Option Value}, P.Nodup → P[i]? = some x → vs[i]? = some v → kindOf x ≠ some .local →
    bindC kindOf (P.zip vs) m x = some v
  | [], _, _, _, _, h, _, _ => by simp at h
  | _ :: _, [], _, _, _, _, h, _ => by simp at h
  | p :: P, w :: vs, 0, m, nd, h1, h2, hk => by
    simp at h1 h2; subst h1; subst h2
    show bindC kindOf ((p, w) :: P.zip vs) m p = _
    unfold bindC
    rw [bindC_out fun v hv => (List.nodup_cons.mp nd).1 (List.of_mem_zip hv).1, if_neg hk]
    simp
  | p :: P, w :: vs, i + 1, m, nd, h1, h2, hk => by
    show bindC kindOf ((p, w) :: P.zip vs) m x = _
    unfold bindC
    exact bindC_get (i := i) (List.nodup_cons.mp nd).2 (by simpa using h1) (by simpa using h2) hk
noncomputable def start (N : List Str) (vs : List V) : St := vs.map some ++ List.replicate (N.length - vs.length) none
noncomputable def cxOf (CX : CXT) (P : Program) (w : World) (K : PySem.W.Frag) (mg : Str → Option Value) (base : Heap) (N : List Str) (qual : Str) (scope : Scope) (f : Addr) (cd : Value) (A : Around) (outer : List Env) (s : Shared) (H : Hp) (E : XK) : Cx where
  prog := P
  w := w
  K := K
  mg := mg
  base := base
  A := A.deeper (envOfC qual scope s.heap.objs.size f cd)
  N := N
  s₀ := s
  H₀ := H
  env := envOfC qual scope s.heap.objs.size f cd
  outer := outer
  stack := envOfC qual scope s.heap.objs.size f cd :: outer
  ex := []
  calm := true
  fn := fun _ => true
  pn := []
  xe := fun e s' => wpAny (model P w) (A.deeper (envOfC qual scope s.heap.objs.size f cd)) (leaving (envOfC qual scope s.heap.objs.size f cd) e) (fun _ s'' => CX outer H s E e s'') (fun e' s'' => CX outer H s E e' s'') s'
theorem cell_has {sc : Scope} {n : Nat} {x : Str} (h : sc.names.lookup x = some .cell) : ∃ c, (cellsFrom n sc.names []).lookup x = some c := by
  have q := PySem.W.cellsFrom_some sc.names n [] (.inl h)
  exact Option.isSome_iff_exists.mp q
theorem inv_start {CX : CXT} {P : Program} {w : World} {K : PySem.W.Frag} {mg : Str → Option Value} {base : Heap} {N ps : List Str} {qual : Str} {scope : Scope} {f : Addr} {cd : Value} {A : Around} {outer : List Env} {s s1 : Shared} {H : Hp} {E : XK} {us : List Value} {vs : List V}
    (S : FnScope N ps scope) (hd : A.handled = none) (e0 : Env0 P w K mg base A outer s H) (hl : vs.length = ps.length) (r : Vals vs us)
    (x : InCallC s s.heap.objs.size (bindL (envOfC qual scope s.heap.objs.size f cd).kindOf (ps.zip us) fun _ => none) (cellsFrom (s.heap.objs.size + 1) scope.names []) (bindC (envOfC qual scope s.heap.objs.size f cd).kindOf (ps.zip us) fun _ => none) s1) :
    Inv (cxOf CX P w K mg base N qual scope f cd A outer s H E) [] (start N vs) H s1 := by
  have hpl : ps.length ≤ N.length := by have := congrArg List.length S.pre; rw [List.length_take] at this; trivial
  obtain ⟨h1, tk, rfl, hk⟩ := x.done
  have noA : ∀ b : Addr, b ∉ (cxOf CX P w K mg base N qual scope f cd A outer s H E).ex := fun b z => absurd (show b ∈ ([] : List Addr) from z) (by simp)
  refine ⟨⟨e0.mod, S.kind, rfl, rfl, Nat.le_refl _, fun y z c h1 h2 => ?_, fun y hy => ?_, fun y c _ h => ?_, fun _ => hd, Around.frames_deeper e0.frames, .inr ⟨rfl, rfl⟩, fun b z => absurd z (noA b), e0.bs, e0.bsz, fun b _ _ => noA b, fun b z => absurd z (noA b), e0.funs, e0.frf⟩,
    rfl, e0.bare, Un.kept hk, ⟨_, x.toInCall.ns, fun i y v h1 h2 h3 => ?_⟩, fun y c h => ⟨_, x.cell y c h⟩, e0.hok.fresh (Nat.le_refl _), fun y c h => ?_, fun p hp => absurd (show p ∈ ([] : List (Addr × Obj)) from hp) (by simp), e0.hok.kept hk, ?_⟩
  · exact name_of_addr x.apart (PySem.mem_of_lookup h1) (PySem.mem_of_lookup h2)
  · have hy : scope.names.lookup y = some .cell ∨ scope.names.lookup y = some .free := hy
    rcases hy with hy | hy
    · exact cell_has hy
    · exact absurd rfl (S.nofree _ (PySem.mem_of_lookup hy))
  · exact Nat.le_of_lt (x.above y c (PySem.mem_of_lookup h))
  · have hi : i < vs.length := by
      unfold start at h2
      by_cases hi : i < vs.length
      · exact hi
      · rw [List.getElem?_append_right (by simpa using hi)] at h2
        rw [List.getElem?_replicate] at h2
        split at h2 <;> cases h2
    have ha : vs[i]? = some v := by
      unfold start at h2
      rw [List.getElem?_append_left (by simpa using hi), List.getElem?_map] at h2
      cases e : vs[i]? with
      | none => rw [e] at h2; cases h2
      | some a => rw [e] at h2; cases h2; rfl
    obtain ⟨u, hu, rv⟩ := r.get ha
    have hp : ps[i]? = some y := by
      rw [← S.pre, List.getElem?_take_of_lt (by trivial)]; exact h1
    have ndP : ps.Nodup := by rw [← S.pre]; exact S.nd.sublist (List.take_sublist _ _)
    refine ⟨u, rv, ?_⟩
    rcases S.par y (List.mem_of_getElem? hp) with k | k
    · exact .inl ⟨k, bindL_get ndP hp hu k⟩
    · obtain ⟨c, e⟩ := cell_has (n := s.heap.objs.size + 1) k
      refine .inr ⟨.inl k, c, e, ?_⟩
      have q := x.cell y c e
      rw [bindC_get ndP hp hu (by show scope.names.lookup y ≠ _; rw [k]; decide)] at q
      exact q
  · exact e0.hok.fresh (Nat.le_of_lt (x.above y c (PySem.mem_of_lookup h)))
  · unfold start
    show _ = N.length
    rw [List.length_append, List.length_map, List.length_replicate]
    trivial
theorem fn_of {CX : CXT} {P : Program} {w : World} {K : PySem.W.Frag} {mg : Str → Option Value} {base : Heap} {k : Nat} {f : Addr} {name qual : Str} {params : Arguments} {body : List Stmt} {scope : Scope} {dV kV doc pm cdv ct oc : Value} {an od : Option Addr}
    {osl : Array (Option Value)} {N ps : List Str} {sp : Sp} (lk : K.lookup f = some ⟨oc, od, .func (PySem.W.fnOf name qual params body scope dV kV doc pm an cdv ct), osl⟩) (hcd : PySem.W.codeIn K cdv qual = true) (S : FnScope N ps scope)
    (len : ∀ vs H Q E, sp vs H Q E → vs.length = ps.length)
    (hbody : ∀ (A : Around) (outer : List Env) (s : Shared) (H : Hp) (vs : List V) (Q : VK) (E : XK), Room k (A.deeper (envOfC qual scope s.heap.objs.size f cdv)) → sp vs H Q E →
      ∃ t, PSs (cxOf CX P w K mg base N qual scope f cdv A outer s H E) body t ∧ t { nx := fun _ H' => Q .non H', rt := Q } (start N vs) H) :
    FnOk P w K mg base CX (k + 1) f (PySem.W.fnOf name qual params body scope dV kV doc pm an cdv ct) ps sp := by
  refine ⟨len, fun A outer s H args us vs Q E hr e0 hb r hsp => ?_⟩
  have hl := len _ _ _ _ hsp
  have KX : K.In s.heap := e0.mod.kin.keeps fun b o e => (e0.bs b o e).1
  have lim : s.heap.NoLimit := e0.mod.nolimit.keeps fun b o e => (e0.bs b o e).1
  have hkind : ∀ y ∈ ps.zip us, scope.names.lookup y.1 = some .local ∨ (scope.names.lookup y.1 = some .cell ∧ ((cellsFrom (s.heap.objs.size + 1) scope.names []).lookup y.1).isSome = true) := fun ⟨n, v⟩ hy => by
    rcases S.par n (List.of_mem_zip hy).1 with q | q
    · exact .inl q
    · exact .inr ⟨q, PySem.W.cellsFrom_some _ _ _ (.inl q)⟩
  refine codeAny_call_function hr.depth (KX _ _ lk) rfl S.co S.gen rfl (PySem.W.codeRec_of KX hcd) (hb _ _ _ _ ?_)
  refine wpAny_newFunctionEnv_cells S.kind hkind fun env he s1 x => ?_
  subst he
  refine ⟨lim.keeps x.toInCall.keep, codeAny_func ?_⟩
  obtain ⟨t, ht, hq⟩ := hbody A outer s H vs Q E (hr.deeper _) hsp
  have I : Inv (cxOf CX P w K mg base N qual scope f cdv A outer s H E) [] (start N vs) H s1 := inv_start S hr.hd e0 hl r x
  refine wpAny_mono (ht [] s1 (start N vs) H _ I hq) (fun fl s' hs => ?_) fun e s' hs => hs
  have fin : ∀ {σ' : St} {H' : Hp} {v : V} {u : Value}, Inv (cxOf CX P w K mg base N qual scope f cdv A outer s H E) [] σ' H' s' → RelV v u → Q v H' → CE outer P w H s Q u s' :=
    fun {σ' H' v u} J rv q => ⟨v, H', J.os, J.bare, J.base, J.hok, rv, q⟩
  cases fl with
  | ret u =>
    obtain ⟨v, σ', H', J, rv, q⟩ := hs
    exact fin J rv q
  | next =>
    obtain ⟨σ', H', J, q⟩ := hs
    exact fin (v := V.non) (u := Value.none) J rfl q
  | brk =>
    obtain ⟨_, _, _, q⟩ := hs
    exact False.elim q
  | cont =>
    obtain ⟨_, _, _, q⟩ := hs
    exact False.elim q
end L2
namespace L2
open PySem PySem.Spec PyProof.Rows
section
variable {X : Cx} {x : Str} {p pos : Pos} {e : Expr} {es : List Expr} {t : TA} {id T : String} {r : List V → Hp → VK → Prop}
noncomputable def tCB (r : List V → Hp → VK → Prop) (t : TA) : TE := fun σ H Q => t σ H fun vs H1 => r vs H1 Q
theorem pe_callB (hc : CallR X (.builtin id) r) (hg : Gl X x) (hm : X.mg x = none) (hv : bootBuiltins x = some (.builtin id)) (ha : PA X (e :: es) t) (hn : x ≠ "__name__" := by decide) (hdb : (x == ("__debug__" : Str)) = false := by decide)
    (he : starEach (e :: es) X.env = (false, eval e X.env) :: starEach es X.env := by rfl) (hpl : (backTo pos (starEach es X.env)).any (·.1) = false := by rfl) : PE X (.Call (.Name x p) (e :: es) [] pos) (tCB r t) := by
  intro pins s σ H Q I h
  refine wpAny_Call_Name_kw (ld_blt I hg hm hv ?_ hn hdb)
  exact PyProof.Rows.callWith_builtin1 (thn (ha pos pins s σ H _ I h) fun us s1 ⟨vs, H1, I1, r1, q1⟩ => hc pins s1 σ H1 vs us Q I1 r1 q1) he hpl
theorem pe_callTy (hc : CallR X (.type T) r) (hg : Gl X x) (hm : X.mg x = none) (hv : bootBuiltins x = some (.type T)) (ha : PA X (e :: es) t) (hn : x ≠ "__name__" := by decide) (hdb : (x == ("__debug__" : Str)) = false := by decide)
    (he : starEach (e :: es) X.env = (false, eval e X.env) :: starEach es X.env := by rfl) (hpl : (backTo pos (starEach es X.env)).any (·.1) = false := by rfl) : PE X (.Call (.Name x p) (e :: es) [] pos) (tCB r t) := by
  intro pins s σ H Q I h
  refine wpAny_Call_Name_kw (ld_blt I hg hm hv ?_ hn hdb)
  exact PyProof.Rows.callWith_type1 (thn (ha pos pins s σ H _ I h) fun us s1 ⟨vs, H1, I1, r1, q1⟩ => hc pins s1 σ H1 vs us Q I1 r1 q1) he hpl
end
end L2
namespace HT
open PySem PyProof.Rows
noncomputable def lexLt : List Int → List Int → Bool
  | [], [] => false
  | [], _ :: _ => true
  | _ :: _, [] => false
  | x :: xs, y :: ys => if x = y then lexLt xs ys else decide (x < y)
theorem lexLt_cons (x y : Int) (xs ys : List Int) : lexLt (x :: xs) (y :: ys) = if x = y then lexLt xs ys else decide (x < y) := rfl
theorem lexLt_nil_nil : lexLt [] [] = false := rfl
theorem lexLt_nil_cons (y : Int) (ys : List Int) : lexLt [] (y :: ys) = true := rfl
theorem lexLt_cons_nil (x : Int) (xs : List Int) : lexLt (x :: xs) [] = false := rfl
section
open PySem.SeqAt
open PySem.AutoSeq1 (wpAny_loadPart')
open PySem.MeetsSeq PySem.MeetsSeq2 PySem.MeetsSeq3
end
section
variable {prog : Program} {w : World} {A : Around} {E : Value → Shared → Prop} {s : Shared}
theorem cat_tup {t b : Addr} {vs ws : List Value} {Q : Value → Shared → Prop} (ht : IsTup s.heap t vs.toArray) (hb : IsTup s.heap b ws.toArray) (hv : vs ≠ [])
    (h1 : ws = [] → Q (.ref t) s) (h2 : ws ≠ [] → Q (.ref s.heap.objs.size) { s with heap := s.heap.push { cls := .type "tuple", data := .seq (vs ++ ws).toArray } })
    (hsz : vs.length + ws.length ≤ sizeLine) : wpAny (model prog w) A (binaryOp .Add (.ref t) (.ref b)) Q E s := by
  obtain ⟨⟨cls, dd, data, sl⟩, ho, hc, n, hd⟩ := id ht
  obtain ⟨⟨cls2, dd2, data2, sl2⟩, ho2, hc2, n2, hd2⟩ := id hb
  simp only at hc hd hc2 hd2
  subst hc hd hc2 hd2
  have e : vs.toArray ++ ws.toArray = (vs ++ ws).toArray := by simp
  by_cases hw : ws = []
  · exact concat_meets ⟨_, ho, rfl⟩ ⟨_, ho2, rfl⟩ noFill_tuple_add seq_tuple_add PySem.F.slot_tuple_add PySem.F.entry_tuple_add (PySem.F.args_tuple_add_2 _ _)
      (tuple_addW1 t b vs.toArray ws.toArray n n2 dd dd2 sl sl2 (by simpa using hv) (by simp [hw])) ⟨ho, ho2, h1 hw⟩
  · refine concat_meets ⟨_, ho, rfl⟩ ⟨_, ho2, rfl⟩ noFill_tuple_add seq_tuple_add PySem.F.slot_tuple_add PySem.F.entry_tuple_add (PySem.F.args_tuple_add_2 _ _)
      (tuple_addW2 t b vs.toArray ws.toArray n n2 dd dd2 sl sl2 (by simpa using hv) (by simpa using hw) (by rw [List.size_toArray, List.size_toArray]; exact hsz)) ⟨ho, ho2, ?_⟩
    rw [e]
    exact h2 hw
noncomputable def sIx (n d : Nat) : Option Int → Nat
  | none => d
  | some v => if v < 0 then (v + (n : Int)).toNat else min v.toNat n
theorem sIx_none (n d : Nat) : sIx n d none = d := rfl
theorem sIx_nat (n d k : Nat) : sIx n d (some (k : Int)) = min k n := by
  show (if (k : Int) < 0 then ((k : Int) + (n : Int)).toNat else min (k : Int).toNat n) = min k n
  rw [if_neg (by trivial), Int.toNat_natCast]
theorem sIx_le (n d : Nat) (hd : d ≤ n) (o : Option Int) : sIx n d o ≤ n := by
  cases o with
  | none => exact hd
  | some v =>
    show (if v < 0 then (v + (n : Int)).toNat else min v.toNat n) ≤ n
    by_cases hv : v < 0
    · rw [if_pos hv]; trivial
    · rw [if_neg hv]; exact Nat.min_le_right _ _
theorem clip_eq (v : Int) (n d : Nat) : (if v < 0 then max (v + (n : Int)) 0 else min v (n : Int)) = ((sIx n d (some v) : Nat) : Int) := by
  show (if v < 0 then max (v + (n : Int)) 0 else min v (n : Int)) = (((if v < 0 then (v + (n : Int)).toNat else min v.toNat n) : Nat) : Int)
  by_cases hv : v < 0
  · simp only [if_pos hv]; trivial
  · simp only [if_neg hv]; trivial
theorem adjust_gen (lo hi : Option Int) (n : Nat) : Builtin.Slice.sliceAdjust lo hi 1 (n : Int) = (((sIx n 0 lo : Nat) : Int), ((sIx n n hi : Nat) : Int)) := by
  have h1 : ¬ ((1 : Int) < 0) := by trivial
  unfold Builtin.Slice.sliceAdjust
  simp only [h1, if_false]
  refine Prod.ext ?_ ?_
  · cases lo with
    | none => rfl
    | some v => exact clip_eq v n 0
  · cases hi with
    | none => rfl
    | some v => exact clip_eq v n n
theorem places_gen (i j : Nat) : Builtin.Slice.slicePlaces (i : Int) (j : Int) 1 = j - i := by
  unfold Builtin.Slice.slicePlaces
  have h1 : (1 : Int) > 0 := by trivial
  simp only [h1, if_true, Int.ediv_one]
  split <;> trivial
theorem slicePart_ {v : Value} {o : Option Int} {Q : Option Int → Shared → Prop} (p : IsPart v o) (h : Q o s) : wpAny (model prog w) A (Builtin.Slice.slicePartIndex v) Q E s := by
  cases p with
  | none => exact slicePart_none h
  | int i t => exact slicePart_int h
theorem sliceApplied_gen {sl : Addr} {vl vu : Value} {lo hi : Option Int} {n : Nat} {Q : Int × Int × Nat → Shared → Prop} (hs : s.heap.IsSliceOf sl vl vu .none) (pl : IsPart vl lo) (pu : IsPart vu hi)
    (h : Q (((sIx n 0 lo : Nat) : Int), 1, sIx n n hi - sIx n 0 lo) s) : wpAny (model prog w) A (Builtin.Slice.sliceApplied (.ref sl) (pure (n : Int))) Q E s := by
  obtain ⟨os, hos, hcs, hds⟩ := id hs
  unfold Builtin.Slice.sliceApplied Builtin.Slice.sliceFields
  refine wpAny_bind (wpAny_bind (wpAny_field hos hds (x := vl) rfl (wpAny_bind (wpAny_field hos hds (x := vu) rfl (wpAny_bind (wpAny_field hos hds (x := .none) rfl (wpAny_pure ?_)))))))
  refine wpAny_bind (slicePart_none ?_)
  show wpAny _ _ (if ((1 : Int) == 0) = true then _ else _) _ _ s
  rw [if_neg (by decide)]
  refine wpAny_bind (slicePart_ pl (wpAny_bind (slicePart_ pu (wpAny_bind (wpAny_pure ?_)))))
  show wpAny _ _ (match Builtin.Slice.sliceAdjust lo hi 1 (n : Int) with | (lo, hi) => pure (lo, (1 : Int), Builtin.Slice.slicePlaces lo hi 1)) _ _ s
  rw [adjust_gen lo hi n]
  show wpAny _ _ (pure (((sIx n 0 lo : Nat) : Int), (1 : Int), Builtin.Slice.slicePlaces ((sIx n 0 lo : Nat) : Int) ((sIx n n hi : Nat) : Int) 1)) _ _ s
  rw [places_gen]
  exact wpAny_pure h
theorem pick_gen (xs : Array Value) (i k : Nat) : ((List.range k).filterMap fun (m : Nat) => xs[((i : Int) + (m : Int) * 1).toNat]?).toArray = ((xs.toList.drop i).take k).toArray := by
  have e : (fun (m : Nat) => xs[((i : Int) + (m : Int) * 1).toNat]?) = fun m => xs[i + m]? := by
    funext m
    have : ((i : Int) + (m : Int) * 1).toNat = i + m := by trivial
    rw [this]
  rw [e]
  have := pick_run xs i k
  rw [List.filterMap_map] at this
  have e2 : ((fun x => xs[x]?) ∘ fun x => i + x) = fun m => xs[i + m]? := rfl
  rw [e2] at this
  rw [this]
theorem getItem_tuple_cut {t sl : Addr} {items : Array Value} {vl vu : Value} {lo hi : Option Int} {Q : Value → Shared → Prop} (ht : IsTup s.heap t items) (hs : s.heap.IsSliceOf sl vl vu .none) (pl : IsPart vl lo) (pu : IsPart vu hi)
    (hw : ¬ (sIx items.size 0 lo = 0 ∧ sIx items.size items.size hi = items.size))
    (h : Q (.ref s.heap.objs.size) { s with heap := s.heap.push { cls := .type "tuple", data := .seq ((items.toList.drop (sIx items.size 0 lo)).take (sIx items.size items.size hi - sIx items.size 0 lo)).toArray } })
    (hsz : items.size ≤ sizeLine) : wpAny (model prog w) A (getItem (.ref t) (.ref sl)) Q E s := by
  have htake : sizeOk (.seq ((items.toList.drop (sIx items.size 0 lo)).take (sIx items.size items.size hi - sIx items.size 0 lo)).toArray) := by
    show ((items.toList.drop (sIx items.size 0 lo)).take (sIx items.size items.size hi - sIx items.size 0 lo)).toArray.size ≤ sizeLine
    rw [List.size_toArray, List.length_take, List.length_drop, Array.length_toList]
    trivial
  have hj : sIx items.size items.size hi ≤ items.size := sIx_le _ _ (Nat.le_refl _) hi
  obtain ⟨os, hos, hcs, hds⟩ := id hs
  have hTs : s.TypeIs (.ref sl) "slice" := ⟨os, hos, hcs⟩
  unfold getItem
  try with_reducible refine wpAny_holding ?_
  first | refine wpAny_bind (wpAny_pure ?_) | skip
  refine wpAny_bind (wpAny_sequenceKey ht.typeIs (by decide) ?_)
  refine wpAny_bind (wpAny_callSpecial?_slot (name := Str.ofString "__getitem__") ht.typeIs PyProof.Rows.slot_tuple_getitem
    (wpAny_call_entry PyProof.Rows.slot_tuple_getitem ht.typeIs entry_tuple_getitem ?_ (args_tuple_getitem _ _)))
  show wpAny _ _ (Builtin.Tuple.tupleItemsOf (.ref t) >>= _) _ _ s
  refine wpAny_bind (tupleItemsOf_ ht ?_)
  refine wpAny_bind (wpAny_typeOf hTs ?_)
  rw [if_pos (by decide)]
  refine wpAny_bind (sliceApplied_gen hs pl pu ?_)
  have hno : ¬ ((((sIx items.size 0 lo : Nat) : Int) == 0 && (1 : Int) == 1 && (sIx items.size items.size hi - sIx items.size 0 lo) == items.size) = true) := by
    intro q
    rw [Bool.and_eq_true, Bool.and_eq_true] at q
    have q1 : ((sIx items.size 0 lo : Nat) : Int) = 0 := eq_of_beq q.1.1
    have q2 : sIx items.size items.size hi - sIx items.size 0 lo = items.size := eq_of_beq q.2
    exact hw ⟨by trivial, by trivial⟩
  show wpAny _ _ (if (((sIx items.size 0 lo : Nat) : Int) == 0 && (1 : Int) == 1 && (sIx items.size items.size hi - sIx items.size 0 lo) == items.size) = true then _ else _) _ _ s
  rw [if_neg hno, pick_gen]
  first
    | exact wpAny_bind (m := Builtin.Tuple.tupleExact _) (wpAny_newObj_type (wpAny_pure ⟨_, rfl, wpAny_pure h⟩) htake)
    | exact wpAny_bind (m := Builtin.Tuple.tupleExact _) (wpAny_newObj_type (wpAny_bind (wpAny_pure (wpAny_pure ⟨_, rfl, wpAny_pure h⟩))) htake)
    | exact wpAny_bind (wpAny_bind (m := Builtin.Tuple.tupleExact _) (wpAny_newObj_type (wpAny_pure (wpAny_pure ⟨_, rfl, wpAny_pure h⟩)) htake))
    | exact wpAny_bind (wpAny_bind (m := Builtin.Tuple.tupleExact _) (wpAny_newObj_type (wpAny_pure ⟨_, rfl, wpAny_pure h⟩) htake))
end
end HT
namespace L2
open PySem PySem.Spec PyProof.Rows
noncomputable abbrev TO := St → Hp → (Option Int → Hp → Prop) → Prop
noncomputable def PO (X : Cx) (e : Option Expr) (t : TO) : Prop :=
  ∀ (pins : List (Addr × Obj)) (s : Shared) (σ : St) (H : Hp) (Q : Option Int → Hp → Prop), Inv X pins σ H s → t σ H Q →
    wpAny (model X.prog X.w) X.A (evalPart e X.env) (fun u s' => ∃ o H', Inv X pins σ H' s' ∧ IsPart u o ∧ Q o H') X.xe s
noncomputable def tNoPart : TO := fun _ H Q => Q none H
noncomputable def tPart (t : TE) : TO := fun σ H Q => t σ H fun x H1 => ∃ i, x = .int i ∧ Q (some i) H1
theorem intsAre_of {ns : List Int} : ∀ {us : List Value}, Vals (ns.map V.int) us → IntsAre us ns := by
  induction ns with
  | nil => intro us r; rw [List.map_nil] at r; cases r; exact .nil
  | cons n ns ih =>
    intro us r
    rw [List.map_cons] at r
    cases r with
    | cons r1 r2 =>
      obtain ⟨t, e⟩ := r1
      subst e
      exact .cons n t (ih r2)
section
variable {X : Cx} {e : Expr} {te : TE} {lo hi : Option Expr} {tl th : TO} {pos p2 : Pos}
theorem po_none : PO X none tNoPart := by
  intro pins s σ H Q I h
  rw [evalPart_none]
  exact wpAny_pure ⟨none, H, I, .none, h⟩
theorem po_some (h : PE X e te) : PO X (some e) (tPart te) := by
  intro pins s σ H Q I hw
  rw [evalPart_some]
  refine thn (h pins s σ H _ I hw) fun u s1 ⟨x, H1, I1, r1, q1⟩ => ?_
  obtain ⟨i, rfl, q⟩ := q1
  obtain ⟨t, rfl⟩ := r1
  exact ⟨some i, H1, I1, .int i t, q⟩
noncomputable def SlR (X : Cx) (r : V → Option Int → Option Int → Hp → VK → Prop) : Prop :=
  ∀ (pins : List (Addr × Obj)) (s : Shared) (σ : St) (H : Hp) (x : V) (v vl vu : Value) (lo hi : Option Int) (sl : Addr) (Q : VK), Inv X pins σ H s → RelV x v → s.heap.IsSliceOf sl vl vu .none → IsPart vl lo → IsPart vu hi → r x lo hi H Q →
    ∃ T id, typeLookup (.type T) "__getitem__" = pure (some (.builtin id)) ∧ s.TypeIs v T ∧ wpAny (model X.prog X.w) X.A (getItem v (.ref sl)) (EP X pins σ Q) X.xe s
noncomputable def tSl (r : V → Option Int → Option Int → Hp → VK → Prop) (te : TE) (tl th : TO) : TE := fun σ H Q => te σ H fun x H1 => tl σ H1 fun l H2 => th σ H2 fun u H3 => r x l u H3 Q
theorem pe_slice {r : V → Option Int → Option Int → Hp → VK → Prop} (hr : SlR X r) (he : PE X e te) (hl : PO X lo tl) (hu : PO X hi th) : PE X (.Subscript e (.Slice lo hi none p2) pos) (tSl r te tl th) := by
  intro pins s σ H Q I h
  refine Subscript_ (thn (he pins s σ H _ I h) fun v s1 ⟨x, H1, I1, r1, q1⟩ => ?_)
  refine wpAny_Slice (thn (hl pins s1 σ H1 _ I1 q1) fun vl s2 ⟨l, H2, I2, pl, q2⟩ => thn (hu pins s2 σ H2 _ I2 q2) fun vu s3 ⟨u, H3, I3, pu, q3⟩ => ?_)
  rw [evalPart_none]
  refine wpAny_pure ?_
  have I4 : Inv X pins σ H3 { s3 with heap := s3.heap.push { cls := .type "slice", data := .fields #[vl, vu, .none] } } := I3.kept (t' := s3.toks) fun b ob q => Heap.get?_push_of_some _ q
  obtain ⟨T, id, hT, ht, hg⟩ := hr pins { s3 with heap := s3.heap.push { cls := .type "slice", data := .fields #[vl, vu, .none] } } σ H3 x v vl vu l u s3.heap.objs.size Q I4 r1 (Heap.IsSliceOf.new ..) pl pu q3
  show wpAny (model X.prog X.w) X.A (subscriptTail e (.Slice lo hi none p2) v (.ref s3.heap.objs.size)) (EP X pins σ Q) X.xe { s3 with heap := s3.heap.push { cls := .type "slice", data := .fields #[vl, vu, .none] } }
  exact tail_any (ops := [.ref s3.heap.objs.size, v]) ht hT hg (by with_unfolding_all rfl)
noncomputable def cutV (xs : List V) (lo hi : Option Int) : List V := (xs.drop (HT.sIx xs.length 0 lo)).take (HT.sIx xs.length xs.length hi - HT.sIx xs.length 0 lo)
theorem cutV_length (xs : List V) (lo hi : Option Int) : (cutV xs lo hi).length ≤ xs.length := by
  unfold cutV
  rw [List.length_take, List.length_drop]
  trivial
noncomputable def rSlT (K : PySem.W.Frag) : V → Option Int → Option Int → Hp → VK → Prop := fun x lo hi H Q => ∃ a xs, x = .ref a ∧ SqT K H a xs ∧
  ¬ (HT.sIx xs.length 0 lo = 0 ∧ HT.sIx xs.length xs.length hi = xs.length) ∧ ∀ p, H p = none → Q (.ref p) (upd H p (.tup (cutV xs lo hi)))
theorem sl_tup : SlR X (rSlT X.K) := by
  intro pins s σ H x v vl vu lo hi sl Q I rx hs pl pu h
  obtain ⟨a, xs, rfl, hx, hw, q⟩ := h
  cases rx
  obtain ⟨its, r, ht, hz⟩ := I.tuple hx
  have hlen : its.toArray.size = xs.length := by rw [List.size_toArray]; exact r.length.symm
  refine ⟨"tuple", _, PyProof.Rows.slot_tuple_getitem.lookup, ht.typeIs, ?_⟩
  refine HT.getItem_tuple_cut ht hs pl pu (by rw [hlen]; exact hw) ?_ (by rw [hlen]; exact hz)
  rw [hlen]
  refine ⟨.ref s.heap.objs.size, _, I.laid (t' := s.toks) (o := .tup (cutV xs lo hi)) (fun b ob q => Heap.get?_push_of_some _ q) (Nat.le_refl _) ?_, rfl, q _ (I.hok.fresh (Nat.le_refl _))⟩
  exact ⟨Nat.le_trans (cutV_length xs lo hi) hz, _, (r.drop (HT.sIx xs.length 0 lo)).take (HT.sIx xs.length xs.length hi - HT.sIx xs.length 0 lo), IsTup.new _ _⟩
noncomputable def rCatT (K : PySem.W.Frag) : R2 := fun x y H Q => ∃ a b xs ys, x = .ref a ∧ y = .ref b ∧ SqT K H a xs ∧ SqT K H b ys ∧ xs ≠ [] ∧ xs.length + ys.length ≤ sizeLine ∧
  (ys = [] → Q (.ref a) H) ∧ (ys ≠ [] → ∀ p, H p = none → Q (.ref p) (upd H p (.tup (xs ++ ys))))
theorem Vals.nil_iff {xs : List V} {us : List Value} (r : Vals xs us) : us = [] ↔ xs = [] := by
  cases r with
  | nil => simp
  | cons _ _ => simp
theorem op_catT : OpR X (binaryOp .Add) (rCatT X.K) := by
  intro pins s σ H x y v u Q I rx ry h
  obtain ⟨a, b, xs, ys, rfl, rfl, ha, hb, hx, hz, q1, q2⟩ := h
  cases rx
  cases ry
  obtain ⟨its, r1, p1, _⟩ := I.tuple ha
  obtain ⟨its2, r2, p2, _⟩ := I.tuple hb
  refine HT.cat_tup p1 p2 (fun z => hx (r1.nil_iff.mp z)) (fun z => ⟨.ref a, H, I, rfl, q1 (r2.nil_iff.mp z)⟩) (fun z => ?_) (by rw [← r1.length, ← r2.length]; exact hz)
  refine ⟨.ref s.heap.objs.size, _, I.laid (t' := s.toks) (o := .tup (xs ++ ys)) (fun b ob q => Heap.get?_push_of_some _ q) (Nat.le_refl _) ?_, rfl, q2 (fun w => z (r2.nil_iff.mpr w)) _ (I.hok.fresh (Nat.le_refl _))⟩
  exact ⟨by rw [List.length_append]; exact hz, _, r1.append r2, IsTup.new _ _⟩
end
end L2
namespace L2
open PySem PySem.Spec PyProof.Rows
noncomputable def ixN (n : Nat) (i : Int) : Option Nat := if 0 ≤ i then (if i < n then some i.toNat else none) else if -(n : Int) ≤ i then some (i + n).toNat else none
noncomputable def atI {α : Type} (xs : List α) (i : Int) : Option α := (ixN xs.length i).bind fun j => xs[j]?
theorem ixN_seq {n : Nat} {i : Int} {j : Nat} (h : ixN n i = some j) : seqIndex? i n = some j ∧ j < n ∧ -(n : Int) ≤ i ∧ i < n := by
  unfold ixN at h
  by_cases h0 : 0 ≤ i
  · rw [if_pos h0] at h
    by_cases h1 : i < n
    · rw [if_pos h1] at h
      have e : i.toNat = j := Option.some.inj h
      exact ⟨by rw [seqIndex_of h0 h1, e], by trivial, by trivial, h1⟩
    · rw [if_neg h1] at h; cases h
  · rw [if_neg h0] at h
    by_cases h1 : -(n : Int) ≤ i
    · rw [if_pos h1] at h
      have e : (i + n).toNat = j := Option.some.inj h
      exact ⟨by rw [seqIndex_neg (by trivial) h1, e], by trivial, h1, by trivial⟩
    · rw [if_neg h1] at h; cases h
theorem atI_get {α : Type} {xs : List α} {i : Int} {v : α} (h : atI xs i = some v) : ∃ j, seqIndex? i xs.length = some j ∧ xs[j]? = some v ∧ j < xs.length ∧ -(xs.length : Int) ≤ i ∧ i < xs.length := by
  unfold atI at h
  cases e : ixN xs.length i with
  | none => rw [e] at h; cases h
  | some j =>
    rw [e] at h
    obtain ⟨h1, h2, h3, h4⟩ := ixN_seq e
    exact ⟨j, h1, h, h2, h3, h4⟩
theorem atI_nat {α : Type} {xs : List α} {j : Nat} {v : α} (h : xs[j]? = some v) : atI xs (j : Int) = some v := by
  have hj : j < xs.length := (List.getElem?_eq_some_iff.mp h).1
  have e : ixN xs.length (j : Int) = some j := by
    unfold ixN
    rw [if_pos (by trivial), if_pos (by trivial)]; simp
  unfold atI; rw [e]; exact h
noncomputable def PlainIx (b : Expr) : Prop := ∀ o i, subscripted b false o i = operate [o, i] (getItem o i)
noncomputable def IxR (X : Cx) (r : R2) : Prop :=
  ∀ (value slice : Expr) (pins : List (Addr × Obj)) (s : Shared) (σ : St) (H : Hp) (x y : V) (v u : Value) (Q : VK), Inv X pins σ H s → RelV x v → RelV y u → r x y H Q →
    subscripted slice false v u = operate [v, u] (getItem v u) → wpAny (model X.prog X.w) X.A (subscriptTail value slice v u) (EP X pins σ Q) X.xe s
noncomputable def MtR (X : Cx) (id : String) (r : V → List V → Hp → VK → Prop) : Prop :=
  ∀ (pins : List (Addr × Obj)) (s : Shared) (σ : St) (H : Hp) (x : V) (xs : List V) (v : Value) (us : List Value) (Q : VK), Inv X pins σ H s → RelV x v → Vals xs us → r x xs H Q →
    wpAny (model X.prog X.w) X.A (call (.builtin id) (v :: us)) (EP X pins σ Q) X.xe s
section
variable {X : Cx} {a b : Expr} {ta tb : TE} {pos : Pos}
theorem pe_ix {r : R2} (hr : IxR X r) (ha : PE X a ta) (hb : PE X b tb) (hs : PlainIx b) : PE X (.Subscript a b pos) (tOp r ta tb) := by
  intro pins s σ H Q I h
  exact Subscript_ (binT ha hb I h fun v u s2 x y H2 I2 rx ry q => hr a b pins s2 σ H2 x y v u Q I2 rx ry q (hs _ _))
noncomputable def rIxL (K : PySem.W.Frag) : R2 := fun x y H Q => ∃ p xs i v, x = .ref p ∧ y = .int i ∧ SqL K H p xs ∧ atI xs i = some v ∧ Q v H
noncomputable def rIxT (K : PySem.W.Frag) : R2 := fun x y H Q => ∃ p xs i v, x = .ref p ∧ y = .int i ∧ SqT K H p xs ∧ atI xs i = some v ∧ Q v H
theorem ix_list : IxR X (rIxL X.K) := by
  intro value slice pins s σ H x y v u Q I rx ry h hs
  obtain ⟨p, xs, i, z, rfl, rfl, hq, he, q⟩ := h
  cases rx
  obtain ⟨t, rfl⟩ := ry
  obtain ⟨its, r, pl, hz⟩ := I.list hq
  obtain ⟨j, h1, h2, h3, h4, h5⟩ := atI_get he
  obtain ⟨w, ew, rw'⟩ := r.get h2
  have hl := r.length
  have hn := line63
  have fin : EP X pins σ Q w s := ⟨z, H, I, rw', q⟩
  by_cases h0 : 0 ≤ i
  · have hj : i.toNat = j := by
      rw [seqIndex_of h0 h5] at h1
      exact Option.some.inj h1
    exact item_listR pl.isList h0 (by trivial) (by rw [hj]; simpa using ew) fin hs
  · have hj : (i + (its.toArray.size : Int)).toNat = j := by
      rw [seqIndex_neg (by trivial) h4] at h1
      rw [List.size_toArray, ← hl]
      exact Option.some.inj h1
    exact subscriptTail_builtinR (x := w) pl.isList.typeIs slot_list_getitem.lookup
      (wpAny_getItem_list_neg (Q := fun r s' => r = w ∧ EP X pins σ Q r s') pl.isList (by trivial) (by rw [List.size_toArray] <;> trivial) (by trivial) (by rw [hj]; simpa using ew) ⟨rfl, fin⟩) hs
theorem ix_tup : IxR X (rIxT X.K) := by
  intro value slice pins s σ H x y v u Q I rx ry h hs
  obtain ⟨p, xs, i, z, rfl, rfl, hq, he, q⟩ := h
  cases rx
  obtain ⟨t, rfl⟩ := ry
  obtain ⟨its, r, pl, hz⟩ := I.tuple hq
  obtain ⟨j, h1, h2, h3, h4, h5⟩ := atI_get he
  obtain ⟨w, ew, rw'⟩ := r.get h2
  have hl := r.length
  have hn := line63
  have fin : EP X pins σ Q w s := ⟨z, H, I, rw', q⟩
  exact subscriptTail_builtinR (x := w) pl.typeIs slot_tuple_getitem.lookup
    (getItem_tuple (j := j) (Q := fun r s' => r = w ∧ EP X pins σ Q r s') pl (by trivial) (by trivial) (by rw [List.size_toArray, ← hl]; exact h1) (by simpa using ew) ⟨rfl, fin⟩) hs
theorem mapSeq_set (its : List Value) (n j : Nat) (u : Value) : Obj.mapSeq (·.setIfInBounds j u) { cls := .type "list", data := .seq its.toArray n } = { cls := .type "list", data := .seq (its.set j u).toArray n } := by
  simp [Obj.mapSeq]
theorem Inv.lst {pins : List (Addr × Obj)} {σ : St} {H : Hp} {s : Shared} {p : Addr} {xs : List V} (I : Inv X pins σ H s) (h : H p = some (.lst xs)) :
    ∃ (its : List Value) (n : Nat), Vals xs its ∧ s.heap.get? p = some { cls := .type "list", data := .seq its.toArray n } ∧ xs.length ≤ sizeLine := by
  obtain ⟨z, its, n, r, e⟩ := I.hok p _ h
  exact ⟨its, n, r, e, z⟩
theorem Inv.lstUpd {pins : List (Addr × Obj)} {σ : St} {H : Hp} {s : Shared} {p : Addr} {xs ys : List V} {its its' : List Value} {n n' : Nat} {f : Obj → Obj} (I : Inv X pins σ H s) (h : H p = some (.lst xs))
    (ho : s.heap.get? p = some { cls := .type "list", data := .seq its.toArray n }) (hf : f { cls := .type "list", data := .seq its.toArray n } = { cls := .type "list", data := .seq its'.toArray n' }) (r : Vals ys its') (hz : ys.length ≤ sizeLine) (t : Nat) :
    Inv X pins σ (upd H p (.lst ys)) { s with heap := s.heap.update p f, toks := t } := by
  have e : (s.heap.update p f).get? p = some { cls := .type "list", data := .seq its'.toArray n' } := by
    rw [Heap.get?_update_self f ho (by rw [hf] <;> rfl), hf]
  refine I.write (x := p) (e := p) (by rw [h]; trivial) (.inl rfl) (fun b u hb q => (Heap.get?_update_other _ _ (Ne.symm hb)).trans q) ⟨_, e⟩ ?_
  exact ⟨hz, its', n', r, e⟩
noncomputable def rSetL : V → V → V → Hp → (Hp → Prop) → Prop := fun o i v H Q => ∃ p xs k j, o = .ref p ∧ i = .int k ∧ H p = some (.lst xs) ∧ ixN xs.length k = some j ∧ Q (upd H p (.lst (xs.set j v)))
theorem set_list : PSet X rSetL := by
  intro pins s σ H o i v ov iv u Q I ro ri rv h
  obtain ⟨p, xs, k, j, rfl, rfl, hp, hj, q⟩ := h
  cases ro
  obtain ⟨t, rfl⟩ := ri
  obtain ⟨its, n, r, ho, hz⟩ := I.lst hp
  obtain ⟨h1, h2, h3, h4⟩ := ixN_seq hj
  have hl := r.length
  have hn := line63
  have I' : Inv X pins σ (upd H p (.lst (xs.set j v))) { s with heap := s.heap.update p (Obj.mapSeq (·.setIfInBounds j u)) } :=
    I.lstUpd hp ho (mapSeq_set its n j u) (r.set rv j) (by rw [List.length_set]; exact hz) s.toks
  by_cases h0 : 0 ≤ k
  · have hk : k.toNat = j := by
      rw [seqIndex_of h0 h4] at h1
      exact Option.some.inj h1
    exact PySem.W.ki_setAt ho h0 (by trivial) (by rw [List.size_toArray, ← hl]; exact h4) (by rw [hk]; exact ⟨_, I', q⟩)
  · have hk : (k + (its.toArray.size : Int)).toNat = j := by
      rw [seqIndex_neg (by trivial) h3] at h1
      rw [List.size_toArray, ← hl]
      exact Option.some.inj h1
    exact PySem.W.ki_setBack ho (by trivial) (by rw [List.size_toArray, ← hl]; exact h3) (by trivial) (by rw [hk]; exact ⟨_, I', q⟩)
theorem slice_bounds (lo hi : Option Int) (n : Nat) : (sliceBounds lo hi none n).1 = ((HT.sIx n 0 lo : Nat) : Int) ∧ (sliceBounds lo hi none n).2.1 = ((HT.sIx n n hi : Nat) : Int) ∧ (sliceBounds lo hi none n).2.2 = 1 := by
  refine ⟨?_, ?_, rfl⟩
  · cases lo with
    | none => simp [sliceBounds, HT.sIx]
    | some i =>
      simp only [sliceBounds, HT.sIx, Option.getD_none, show (1 : Int) > 0 by decide, if_true]
      by_cases h : i < 0
      · simp only [h, if_true] <;> trivial
      · simp only [h, if_false] <;> trivial
  · cases hi with
    | none => simp [sliceBounds, HT.sIx]
    | some i =>
      simp only [sliceBounds, HT.sIx, Option.getD_none, show (1 : Int) > 0 by decide, if_true]
      by_cases h : i < 0
      · simp only [h, if_true] <;> trivial
      · simp only [h, if_false] <;> trivial
theorem slicePick_cut (its : List Value) (lo hi : Option Int) : slicePick its.toArray lo hi none = ((its.drop (HT.sIx its.length 0 lo)).take (HT.sIx its.length its.length hi - HT.sIx its.length 0 lo)).toArray := by
  obtain ⟨h1, h2, h3⟩ := slice_bounds lo hi its.toArray.size
  unfold slicePick
  rw [h1, h2, h3]
  simp only [sliceRange_one, pick_run, List.size_toArray] <;> rfl
noncomputable def rSlL (K : PySem.W.Frag) : V → Option Int → Option Int → Hp → VK → Prop := fun x lo hi H Q => ∃ a xs, x = .ref a ∧ SqL K H a xs ∧ ∀ p, H p = none → Q (.ref p) (upd H p (.lst (cutV xs lo hi)))
theorem sl_list : SlR X (rSlL X.K) := by
  intro pins s σ H x v vl vu lo hi sl Q I rx hs pl pu h
  obtain ⟨a, xs, rfl, hx, q⟩ := h
  cases rx
  obtain ⟨its, r, ht, hz⟩ := I.list hx
  have hlen := r.length
  refine ⟨"list", _, slot_list_getitem.lookup, ht.isList.typeIs, ?_⟩
  refine wpAny_getItem_list_slice ht.isList hs pl pu .none (by simp) ?_ (by rw [List.size_toArray] <;> trivial)
  rw [slicePick_cut, ← hlen]
  refine ⟨.ref s.heap.objs.size, _, I.laid (t' := s.toks) (o := .lst (cutV xs lo hi)) (fun b ob q => Heap.get?_push_of_some _ q) (Nat.le_refl _) ?_, rfl, q _ (I.hok.fresh (Nat.le_refl _))⟩
  exact ⟨Nat.le_trans (cutV_length xs lo hi) hz, _, 0, (r.drop (HT.sIx xs.length 0 lo)).take (HT.sIx xs.length xs.length hi - HT.sIx xs.length 0 lo), Heap.get?_push_size _ rfl⟩
noncomputable def flatV : V → Bool
  | .non => true
  | .bl _ => true
  | .int _ => true
  | .str _ => true
  | _ => false
noncomputable def eqV : V → V → Bool
  | .non, .non => true
  | .bl a, .bl b => a == b
  | .bl a, .int b => (if a then 1 else 0) == b
  | .int a, .bl b => a == (if b then 1 else 0)
  | .int a, .int b => a == b
  | .str a, .str b => a == b
  | _, _ => false
theorem eqAt_V {A : Around} {s : Shared} {y x : V} {u v : Value} (ry : RelV y u) (rx : RelV x v) (fy : flatV y = true) (fx : flatV x = true) : SeqAt.EqAt A s u v (eqV y x) := by
  cases y with
  | non =>
    cases ry
    cases x with
    | non => cases rx; exact SeqAt.EqAt.same _
    | bl b => cases rx; exact SeqAt.EqAt.none_bool b
    | int b => obtain ⟨t, rfl⟩ := rx; exact SeqAt.EqAt.none_int b t
    | str b => obtain ⟨t, rfl⟩ := rx; exact SeqAt.EqAt.none_str b t
    | _ => exact absurd (show false = true from fx) Bool.false_ne_true
  | bl a =>
    cases ry
    cases x with
    | non => cases rx; exact SeqAt.EqAt.bool_none a
    | bl b => cases rx; exact SeqAt.EqAt.bool_bool a b
    | int b => obtain ⟨t, rfl⟩ := rx; exact SeqAt.EqAt.bool_int a b t
    | str b => obtain ⟨t, rfl⟩ := rx; exact SeqAt.EqAt.bool_str a b t
    | _ => exact absurd (show false = true from fx) Bool.false_ne_true
  | int a =>
    obtain ⟨t', rfl⟩ := ry
    cases x with
    | non => cases rx; exact SeqAt.EqAt.int_none a t'
    | bl b => cases rx; exact SeqAt.EqAt.int_bool a t' b
    | int b => obtain ⟨t, rfl⟩ := rx; exact SeqAt.EqAt.int_int a t' b t
    | str b => obtain ⟨t, rfl⟩ := rx; exact SeqAt.EqAt.int_str a t' b t
    | _ => exact absurd (show false = true from fx) Bool.false_ne_true
  | str a =>
    obtain ⟨t', rfl⟩ := ry
    cases x with
    | non => cases rx; exact SeqAt.EqAt.str_none a t'
    | bl b => cases rx; exact SeqAt.EqAt.str_bool a t' b
    | int b => obtain ⟨t, rfl⟩ := rx; exact SeqAt.EqAt.str_int a t' b t
    | str b => obtain ⟨t, rfl⟩ := rx; exact SeqAt.EqAt.str_str a t' b t
    | _ => exact absurd (show false = true from fx) Bool.false_ne_true
  | _ => exact absurd (show false = true from fy) Bool.false_ne_true
noncomputable def eqU (x : V) (u : Value) : Bool := match u with
  | .none => eqV .non x
  | .bool b => eqV (.bl b) x
  | .int i _ => eqV (.int i) x
  | .str z _ => eqV (.str z) x
  | _ => false
theorem eqU_of {x y : V} {u : Value} (r : RelV y u) (f : flatV y = true) : eqU x u = eqV y x := by
  cases y with
  | non => cases r; rfl
  | bl b => cases r; rfl
  | int i => obtain ⟨t, rfl⟩ := r; rfl
  | str z => obtain ⟨t, rfl⟩ := r; rfl
  | _ => exact absurd (show false = true from f) Bool.false_ne_true
theorem mem_eqAt {A : Around} {s : Shared} {x : V} {v : Value} (rx : RelV x v) (fx : flatV x = true) : ∀ {xs : List V} {us : List Value}, Vals xs us → xs.all flatV = true → ∀ u ∈ us, SeqAt.EqAt A s u v (eqU x u)
  | _, _, .nil, _ => fun u hu => by cases hu
  | y :: xs, u :: us, .cons r t, f => fun u' hu => by
    rw [List.all_cons, Bool.and_eq_true] at f
    rcases List.mem_cons.mp hu with rfl | hu
    · rw [eqU_of r f.1]; exact eqAt_V r rx f.1 fx
    · exact mem_eqAt rx fx t f.2 u' hu
theorem call_len_seq : CallR X (.builtin "len") (fun xs H Q => ∃ p ys, xs = [.ref p] ∧ (SqL X.K H p ys ∨ SqT X.K H p ys) ∧ Q (.int ys.length) H) := by
  intro pins s σ H xs us Q I r h
  obtain ⟨p, ys, rfl, hq, q⟩ := h
  obtain ⟨u, rfl, rx⟩ := vals1 r
  cases rx
  have hn := line63
  rcases hq with hq | hq
  · obtain ⟨its, r', pl, hz⟩ := I.list hq
    have hlen := r'.length
    exact Calls.call_len_list pl.isList (by simp only [List.size_toArray] <;> trivial) ⟨.int ys.length, H, I.tok _, ⟨s.toks + 1, by rw [List.size_toArray, hlen]⟩, q⟩
  · obtain ⟨its, r', pl, hz⟩ := I.tuple hq
    have hlen := r'.length
    exact len_tuple pl (by simp only [List.size_toArray] <;> trivial) ⟨.int ys.length, H, I.tok _, ⟨s.toks + 1, by rw [List.size_toArray, hlen]⟩, q⟩
theorem call_list_of : CallR X (.type "list") (fun xs H Q => ∃ p ys, xs = [.ref p] ∧ (SqL X.K H p ys ∨ SqT X.K H p ys) ∧ ∀ l, H l = none → Q (.ref l) (upd H l (.lst ys))) := by
  intro pins s σ H xs us Q I r h
  obtain ⟨p, ys, rfl, hq, q⟩ := h
  obtain ⟨u, rfl, rx⟩ := vals1 r
  cases rx
  have fin : ∀ (its : List Value), Vals ys its → ys.length ≤ sizeLine → ∀ (h' : Heap) (c' : Nat), (∀ b o', s.heap.get? b = some o' → h'.get? b = some o') →
      h'.get? s.heap.objs.size = some { cls := .type "list", dict := none, data := .seq its.toArray c', slots := #[] } → EP X pins σ Q (.ref s.heap.objs.size) { s with heap := h' } := fun its r' hz h' c' kp e =>
    ⟨.ref s.heap.objs.size, _, I.laid (t' := s.toks) kp (Nat.le_refl _) (show ObjOk X.prog X.w _ h' _ (.lst ys) from ⟨hz, its, c', r', e⟩), rfl, q _ (I.hok.fresh (Nat.le_refl _))⟩
  rcases hq with hq | hq
  · obtain ⟨its, r', pl, hz⟩ := I.list hq
    have hlen := r'.length
    obtain ⟨o, ho, hc, n, hd⟩ := pl.isList
    exact call_list_seq p (.inl rfl) ho hc hd (fun h' c' kp e => fin its r' hz h' c' kp e) (by simp only [List.size_toArray] <;> trivial)
  · obtain ⟨its, r', pl, hz⟩ := I.tuple hq
    have hlen := r'.length
    obtain ⟨o, ho, hc, n, hd⟩ := pl
    exact call_list_seq p (.inr rfl) ho hc hd (fun h' c' kp e => fin its r' hz h' c' kp e) (by simp only [List.size_toArray] <;> trivial)
theorem call_tuple_of : CallR X (.type "tuple") (fun xs H Q => ∃ p ys, xs = [.ref p] ∧ ((SqL X.K H p ys ∧ ∀ l, H l = none → Q (.ref l) (upd H l (.tup ys))) ∨ (SqT X.K H p ys ∧ Q (.ref p) H))) := by
  intro pins s σ H xs us Q I r h
  obtain ⟨p, ys, rfl, h⟩ := h
  obtain ⟨u, rfl, rx⟩ := vals1 r
  cases rx
  rcases h with ⟨hq, q⟩ | ⟨hq, q⟩
  · obtain ⟨its, r', pl, hz⟩ := I.list hq
    have hlen := r'.length
    refine call_tuple_list pl.isList (fun h' kp => ?_) (by simp only [List.size_toArray] <;> trivial)
    have I1 : Inv X pins σ H { s with heap := h' } := I.kept (t' := s.toks) kp
    have I2 : Inv X pins σ (upd H h'.objs.size (.tup ys)) { s with heap := h'.push { cls := .type "tuple", data := .seq its.toArray } } :=
      I1.laid (t' := s.toks) (fun b o e => Heap.get?_push_of_some _ e) (Nat.le_refl _) (show ObjOk X.prog X.w _ _ _ (.tup ys) from ⟨hz, its, r', IsTup.new _ _⟩)
    exact ⟨.ref h'.objs.size, _, I2, rfl, q _ (I1.hok.fresh (Nat.le_refl _))⟩
  · obtain ⟨its, r', pl, hz⟩ := I.tuple hq
    exact call_tuple_same pl ⟨.ref p, H, I, rfl, q⟩
noncomputable def tyV (K : PySem.W.Frag) (T : String) (x : V) (H : Hp) : Prop := match x with
  | .str _ => T = "str"
  | .int _ => T = "int"
  | .ref p => (T = "list" ∧ ∃ xs, SqL K H p xs) ∨ (T = "tuple" ∧ ∃ o, K.lookup p = some o ∧ o.cls = .type "tuple" ∧ o.dict = none) ∨
      (T = "dict" ∧ ((∃ kvs, H p = some (.dK kvs)) ∨ ∃ kvs, H p = some (.dT kvs))) ∨ (T = "set" ∧ ∃ S n, H p = some (.set S n))
  | _ => False
theorem tyV_is {pins : List (Addr × Obj)} {σ : St} {H : Hp} {s : Shared} {T : String} {x : V} {v : Value} (I : Inv X pins σ H s) (r : RelV x v) (ty : tyV X.K T x H) :
    s.TypeIs v T ∧ ∀ a, v = .ref a → ∃ ob, s.heap.get? a = some ob ∧ ob.dict = none := by
  cases x with
  | str z =>
    obtain ⟨t, rfl⟩ := r
    cases (show T = "str" from ty)
    exact ⟨typeIs_str s z t, fun _ e => nomatch e⟩
  | int i =>
    obtain ⟨t, rfl⟩ := r
    cases (show T = "int" from ty)
    exact ⟨typeIs_int s i t, fun _ e => nomatch e⟩
  | ref p =>
    cases r
    rcases ty with ⟨rfl, xs, hq⟩ | ⟨rfl, o, hk, hc, hd⟩ | ⟨rfl, hk⟩ | ⟨rfl, S, n, hk⟩
    · obtain ⟨its, _, pl, _⟩ := I.list hq
      refine ⟨pl.isList.typeIs, fun a e => ?_⟩
      cases e
      obtain ⟨o, n, e, c, hd, _⟩ := pl
      exact ⟨o, e, hd⟩
    · refine ⟨⟨o, I.kIn p o hk, hc⟩, fun a e => ?_⟩
      cases e
      exact ⟨o, I.kIn _ o hk, hd⟩
    · have z : ∃ o, s.heap.get? p = some o ∧ o.ExactDict := by
        rcases hk with ⟨kvs, hk⟩ | ⟨kvs, hk⟩
        · obtain ⟨_, _, _, _, o, _, _, e, ex, _⟩ := I.hok p _ hk
          exact ⟨o, e, ex⟩
        · obtain ⟨_, _, _, _, o, _, _, e, ex, _⟩ := I.hok p _ hk
          exact ⟨o, e, ex⟩
      obtain ⟨o, e, ex⟩ := z
      refine ⟨⟨o, e, ex.1⟩, fun a e2 => ?_⟩
      cases e2
      exact ⟨o, e, ex.2.1⟩
    · obtain ⟨o, _, _, _, e, ex, _⟩ := I.hok p _ hk
      refine ⟨⟨o, e, ex.1⟩, fun a e2 => ?_⟩
      cases e2
      exact ⟨o, e, ex.2.1⟩
  | _ => exact False.elim ty
noncomputable def tBM (K : PySem.W.Frag) (T : String) (r : V → List V → Hp → VK → Prop) (to : TE) (t : TA) : TE := fun σ H Q => to σ H fun x H1 => tyV K T x H1 ∧ t σ H1 fun xs H2 => r x xs H2 Q
variable {o e : Expr} {es : List Expr} {to : TE} {t : TA} {name : Str} {apos cpos : Pos} {T id : String} {r : V → List V → Hp → VK → Prop}
theorem pe_bm (pa : PlainAttrs T) (slot : Slot T name id) (hty : typeOf (.builtin id) = pure (.type "method_descriptor")) (hm : MtR X id r) (ho : PE X o to) (ha : PA X (e :: es) t)
    (hbase : attributeBase o name X.env (eval o X.env) = eval o X.env := by rfl)
    (hfew : ((backTo cpos (starEach (e :: es) X.env)).all (fun x => !x.1) && (backToKw cpos (keywordEach [] X.env)).all (fun x => x.1.isSome)
      && decide ((e :: es).length + ([] : List Keyword).length + (if ([] : List Keyword).isEmpty then 0 else 1) < 30)) = true := by rfl)
    (hline : (apos.endLine == cpos.line) = true := by rfl) (hs : starEach (e :: es) X.env = (false, eval e X.env) :: starEach es X.env := by rfl) (hplain : (backTo cpos (starEach es X.env)).any (·.1) = false := by rfl) :
    PE X (.Call (.Attribute o name apos) (e :: es) [] cpos) (tBM X.K T r to t) := by
  intro pins s σ H Q I h
  refine wpAny_Call_method_late hbase hfew hline rfl (thn (ho pins s σ H _ I h) fun v s1 ⟨x, H1, I1, r1, ty, q1⟩ => ?_)
  obtain ⟨h1, h2⟩ := tyV_is I1 r1 ty
  refine ⟨T, id, pa, slot, hty, h1, h2, ?_⟩
  have hA := ha cpos pins s1 σ H1 _ I1 q1
  rw [hs] at hA ⊢
  refine Calls.callWith_builtin (by show (false || (backTo cpos (starEach es X.env)).any (·.1)) = false; rw [hplain] <;> rfl) (Calls.evalArgs_plain ?_)
  exact thn hA fun us s2 ⟨vs, H2, I2, r2, q2⟩ => hm pins s2 σ H2 x vs v us Q I2 r1 r2 q2
/- xs.append(e), list.index on a module's tuple .. are MtR facts of 06m -/
end
end L2
namespace L2
open PySem PySem.Spec PyProof.Rows
noncomputable def MtM (X : Cx) (id : String) (r : V → List V → Hp → VK → Prop) : Prop :=
  ∀ (pins : List (Addr × Obj)) (s : Shared) (σ : St) (H : Hp) (x : V) (xs : List V) (v : Value) (us : List Value) (Q : VK), Inv X pins σ H s → RelV x v → Vals xs us → r x xs H Q →
    wpAny (model X.prog X.w) X.A (call (.builtin id) (v :: us)) (EP X pins σ Q) X.xe s
theorem Vals.one : ∀ {x : V} {us : List Value}, Vals [x] us → ∃ u, us = [u] ∧ RelV x u
  | _, _, .cons r .nil => ⟨_, rfl, r⟩
theorem Vals.two : ∀ {x y : V} {us : List Value}, Vals [x, y] us → ∃ u v, us = [u, v] ∧ RelV x u ∧ RelV y v
  | _, _, _, .cons r (.cons q .nil) => ⟨_, _, rfl, r, q⟩
theorem Vals.eraseIdx : ∀ {xs : List V} {us : List Value} (i : Nat), Vals xs us → Vals (xs.eraseIdx i) (us.eraseIdx i)
  | _, _, _, .nil => .nil
  | _, _, 0, .cons _ t => t
  | _, _, i + 1, .cons r t => .cons r (Vals.eraseIdx i t)
theorem Vals.rep {xs : List V} {us : List Value} (h : Vals xs us) : ∀ k : Nat, Vals (List.replicate k xs).flatten (List.replicate k us).flatten
  | 0 => .nil
  | k + 1 => by
    rw [List.replicate_succ, List.replicate_succ, List.flatten_cons, List.flatten_cons]
    exact Vals.append h (Vals.rep h k)
theorem len_erase {α : Type} : ∀ (l : List α) (i : Nat), (l.eraseIdx i).length ≤ l.length
  | [], _ => Nat.le_refl _
  | _ :: _, 0 => Nat.le_succ _
  | _ :: r, i + 1 => Nat.succ_le_succ (len_erase r i)
theorem foldl_rep (its : List Value) : ∀ (k : Nat) (acc : List Value),
    List.foldl (fun x1 x2 => x1 ++ x2) acc.toArray (List.replicate k its.toArray) = (acc ++ (List.replicate k its).flatten).toArray
  | 0, acc => by simp
  | k + 1, acc => by
    have e : acc.toArray ++ its.toArray = (acc ++ its).toArray := by simp
    have e2 : (acc ++ its) ++ (List.replicate k its).flatten = acc ++ (List.replicate (k + 1) its).flatten := by
      rw [List.replicate_succ, List.flatten_cons, List.append_assoc]
    rw [← e2, ← foldl_rep its k (acc ++ its), ← e, List.replicate_succ, List.foldl_cons]
section
variable {X : Cx} {pins : List (Addr × Obj)} {σ : St} {H : Hp} {s : Shared} {l b : Addr} {xs ys zs : List V}
theorem Inv.lset {its its' : List Value} {n : Nat} {f : Array Value → Array Value} {t' : Nat} (I : Inv X pins σ H s) (hH : H l = some (.lst xs))
    (e : s.heap.get? l = some { cls := .type "list", data := .seq its.toArray n }) (hf : f its.toArray = its'.toArray) (hv : Vals ys its') (hz : ys.length ≤ sizeLine) :
    Inv X pins σ (upd H l (.lst ys)) { s with heap := s.heap.update l (Obj.mapSeq f), toks := t' } := by
  have q := PySem.IsL.update e f
  rw [hf] at q
  refine I.write (x := l) (e := l) (by rw [hH]; exact trivial) (.inl rfl) (fun b' u hb hu => (Heap.get?_update_other s.heap (Obj.mapSeq f) (Ne.symm hb)).trans hu) ⟨_, q⟩ ?_
  exact ⟨hz, its', _, hv, q⟩
theorem Inv.lnew {its : List Value} {t' : Nat} (I : Inv X pins σ H s) (hv : Vals ys its) (hz : ys.length ≤ sizeLine) :
    Inv X pins σ (upd H s.heap.objs.size (.lst ys)) { s with heap := s.heap.push { cls := .type "list", data := .seq its.toArray }, toks := t' } :=
  I.laid (fun _ _ q => Heap.get?_push_of_some _ q) (Nat.le_refl _) ⟨hz, its, 0, hv, Heap.get?_push_size _ rfl⟩
theorem Inv.fresh (I : Inv X pins σ H s) : H s.heap.objs.size = none := I.hok.fresh (Nat.le_refl _)
theorem Inv.lstM (I : Inv X pins σ H s) (hH : H l = some (.lst xs)) : xs.length ≤ sizeLine ∧ ∃ (its : List Value) (n : Nat), Vals xs its ∧ xs.length = its.length ∧ s.heap.get? l = some { cls := .type "list", data := .seq its.toArray n } := by
  obtain ⟨z, its, n, r, e⟩ := I.hok l _ hH
  exact ⟨z, its, n, r, r.length, e⟩
theorem notLongL {n : Nat} (h : n ≤ sizeLine) : Builtin.List.listTooLong n = false := by
  unfold Builtin.List.listTooLong
  exact decide_eq_false (by trivial)
end
section
variable {X : Cx}
noncomputable def rAppend : V → List V → Hp → VK → Prop := fun x vs H Q => ∃ l xs y, x = .ref l ∧ vs = [y] ∧ H l = some (.lst xs) ∧ xs.length < sizeLine ∧ Q .non (upd H l (.lst (xs ++ [y])))
theorem mt_append : MtM X "list.append" rAppend := by
  intro pins s σ H x vs v us Q I rx rv h
  obtain ⟨l, xs, y, rfl, rfl, hH, hz, q⟩ := h
  cases rx
  obtain ⟨u, rfl, ru⟩ := rv.one
  obtain ⟨z, its, n, r, hl, e⟩ := I.lstM hH
  refine call_meets F.slot_list_append ⟨_, e, rfl⟩ F.entry_list_append (F.args_list_append_2 _ _) (PySem.list_append l its.toArray n u (by rw [List.size_toArray]; trivial)) ⟨e, ?_⟩
  refine ⟨.non, _, I.lset (its' := its ++ [u]) hH e (by simp) (r.append (.cons ru .nil)) ?_, rfl, q⟩
  rw [List.length_append, List.length_singleton]
  trivial
noncomputable def rExtend : V → List V → Hp → VK → Prop := fun x vs H Q => ∃ l b xs zs, x = .ref l ∧ vs = [.ref b] ∧ H l = some (.lst xs) ∧ H b = some (.lst zs) ∧ xs.length + zs.length ≤ sizeLine ∧ Q .non (upd H l (.lst (xs ++ zs)))
theorem mt_extend : MtM X "list.extend" rExtend := by
  intro pins s σ H x vs v us Q I rx rv h
  obtain ⟨l, b, xs, zs, rfl, rfl, hH, hB, hz, q⟩ := h
  cases rx
  obtain ⟨u, rfl, ru⟩ := rv.one
  cases ru
  obtain ⟨z, its, n, r, hl, e⟩ := I.lstM hH
  obtain ⟨z2, its2, n2, r2, hl2, e2⟩ := I.lstM hB
  have hsz : its.toArray.size + its2.toArray.size ≤ sizeLine := by rw [List.size_toArray, List.size_toArray]; trivial
  have hlong : ¬ (!its.toArray.isEmpty && Builtin.List.listTooLong (its.toArray.size + its2.toArray.size)) = true := by
    rw [notLongL hsz, Bool.and_false]
    exact Bool.false_ne_true
  refine call_meets F.slot_list_extend ⟨_, e, rfl⟩ F.entry_list_extend (F.args_list_extend_2 _ _)
    (AutoSeq1.list_extend_list_list_0 l its.toArray n b its2.toArray n2 hlong (by rw [List.size_toArray]; trivial) (by trivial)) ⟨e, e2, ?_⟩
  refine ⟨.non, _, I.lset (its' := its ++ its2) hH e (by simp) (r.append r2) ?_, rfl, q⟩
  rw [List.length_append]
  trivial
noncomputable def rCat : R2 := fun x y H Q => ∃ l b xs zs, x = .ref l ∧ y = .ref b ∧ H l = some (.lst xs) ∧ H b = some (.lst zs) ∧ xs.length + zs.length ≤ sizeLine ∧ ∀ p, H p = none → Q (.ref p) (upd H p (.lst (xs ++ zs)))
theorem op_cat : OpR X (binaryOp .Add) rCat := by
  intro pins s σ H x y v u Q I rx ry h
  obtain ⟨l, b, xs, zs, rfl, rfl, hH, hB, hz, q⟩ := h
  cases rx
  cases ry
  obtain ⟨z, its, n, r, hl, e⟩ := I.lstM hH
  obtain ⟨z2, its2, n2, r2, hl2, e2⟩ := I.lstM hB
  refine PySem.P.add_list e e2 ?_ (by rw [List.size_toArray, List.size_toArray]; trivial)
  have ea : its.toArray ++ its2.toArray = (its ++ its2).toArray := by simp
  rw [ea]
  exact ⟨.ref _, _, I.lnew (t' := s.toks) (r.append r2) (by rw [List.length_append]; trivial), rfl, q _ I.fresh⟩
noncomputable def rRep : R2 := fun x y H Q => ∃ l k xs, x = .ref l ∧ y = .int k ∧ H l = some (.lst xs) ∧ -(2 ^ 63) ≤ k ∧ k < 2 ^ 63 ∧ xs.length * k.toNat ≤ sizeLine ∧
  ∀ p, H p = none → Q (.ref p) (upd H p (.lst (List.replicate k.toNat xs).flatten))
theorem len_rep {α : Type} (xs : List α) (k : Nat) : (List.replicate k xs).flatten.length = k * xs.length := by
  induction k with
  | zero => simp
  | succ k ih => rw [List.replicate_succ, List.flatten_cons, List.length_append, ih, Nat.succ_mul, Nat.add_comm]
theorem op_rep : OpR X (binaryOp .Mult) rRep := by
  intro pins s σ H x y v u Q I rx ry h
  obtain ⟨l, k, xs, rfl, rfl, hH, h1, h2, hz, q⟩ := h
  cases rx
  obtain ⟨t, rfl⟩ := ry
  obtain ⟨z, its, n, r, hl, e⟩ := I.lstM hH
  have hlen : its.toArray.size * k.toNat ≤ sizeLine := by rw [List.size_toArray, ← hl]; exact hz
  have hcap : ¬ its.toArray.size * k.toNat > (2 ^ 63 - 1) / 8 := by
    have : (sizeLine : Nat) ≤ (2 ^ 63 - 1) / 8 := by decide
    trivial
  have hfit : ¬ (!Builtin.List.listFitsIndex k) = true := by
    rw [fitsIndex_both h1 h2]
    exact Bool.false_ne_true
  have hlong : ¬ Builtin.List.listTooLong (its.toArray.size * k.toNat) = true := by
    rw [notLongL hlen]
    exact Bool.false_ne_true
  have hnew : List.foldl (fun x1 x2 => x1 ++ x2) #[] (List.replicate (if its.toArray.isEmpty = true then 0 else k.toNat) its.toArray) = (List.replicate k.toNat its).flatten.toArray := by
    have f0 : ∀ m : Nat, List.foldl (fun x1 x2 => x1 ++ x2) #[] (List.replicate m its.toArray) = (List.replicate m its).flatten.toArray := fun m => by
      have := foldl_rep its m []
      rw [List.nil_append] at this
      exact this
    rw [f0]
    cases its with
    | nil => simp
    | cons a r' => rw [if_neg (by simp)]
  refine wpAny_binaryOp_repeat_ref (T := "list") (U := "int") (by decide) ⟨_, e, rfl⟩ (fun s' => typeIs_int s' k t) noFill_list_mul F.fills_int_mul F.slot_int_rmul repeat_list F.slot_int_index.lookup
    (call_meets F.slot_int_rmul (typeIs_int s k t) F.entry_int_rmul (F.args_int_rmul_2 _ _) (int___rmul___int_list k t l its.toArray n)
      ⟨e, rfl, ⟨_, e, rfl⟩, call_meets F.slot_list_mul ⟨_, e, rfl⟩ F.entry_list_mul (F.args_list_mul_2 _ _) (AutoListH.list___mul___list_int_3 l its.toArray n k t hfit hcap hlong) ⟨e, ?_⟩⟩)
  rw [hnew]
  exact ⟨.ref _, _, I.lnew (t' := s.toks) (r.rep k.toNat) (by rw [len_rep, Nat.mul_comm]; exact hz), rfl, q _ I.fresh⟩
end
section
variable {prog : Program} {w : World} {A : Around} {E : Value → Shared → Prop} {s : Shared}
theorem bounds_run {a c n : Nat} (hac : a ≤ c) (hc : c ≤ n) : sliceBounds (some (a : Int)) (some (c : Int)) none n = ((a : Int), (c : Int), 1) := by
  simp only [sliceBounds, Option.getD_none]
  have h1 : ¬ ((a : Int) < 0) := by trivial
  have h2 : ¬ ((c : Int) < 0) := by trivial
  simp only [h1, h2, if_false, show (1 : Int) > 0 by decide, if_true]
  congr 1
  · trivial
  · congr 1; trivial
set_option maxRecDepth 100000 in
theorem setItem_slice {l b sl : Addr} {items new : Array Value} {n n2 : Nat} {vl vu : Value} {a c : Nat} {Q : Unit → Shared → Prop}
    (e : s.heap.get? l = some { cls := .type "list", data := .seq items n }) (e2 : s.heap.get? b = some { cls := .type "list", data := .seq new n2 }) (hne : l ≠ b)
    (hs : s.heap.IsSliceOf sl vl vu .none) (pl : IsPart vl (some (a : Int))) (pu : IsPart vu (some (c : Int))) (hac : a ≤ c) (hc : c ≤ items.size)
    (hsz : items.size + new.size ≤ sizeLine) (h : Q () { s with heap := s.heap.update l (Obj.mapSeq fun xs => xs.extract 0 a ++ new ++ xs.extract c xs.size) }) :
    wpAny (model prog w) A (setItem (.ref l) (.ref sl) (.ref b)) Q E s := by
  have hl : s.heap.IsList l items := PySem.IsL.isList e
  have hb : s.heap.IsList b new := PySem.IsL.isList e2
  obtain ⟨os, hos, hcs, hds⟩ := id hs
  have hTs : s.TypeIs (.ref sl) "slice" := ⟨os, hos, hcs⟩
  have hstep : ¬ ((rawPart none == rawInt 0) = true) := Bool.false_ne_true
  have hsame : Builtin.List.listSameRef (.ref l) (.ref b) = false := by
    unfold Builtin.List.listSameRef
    exact beq_eq_false_iff_ne.mpr hne
  have hmax : (max (a : Int) (c : Int)).toNat = c := by trivial
  have hz' : ((fun xs : Array Value => xs.extract 0 a ++ new ++ xs.extract c xs.size) items).size ≤ sizeLine + 1 := by
    simp only [Array.size_append, Array.size_extract]
    trivial
  unfold setItem
  try with_reducible refine wpAny_holding ?_
  first | refine wpAny_bind (wpAny_pure ?_) | skip
  refine wpAny_bind (wpAny_sequenceKey hl.typeIs (by decide) ?_)
  refine wpAny_bind (wpAny_callSpecial?_slot (name := Str.ofString "__setitem__") hl.typeIs slot_list_setitem
    (wpAny_call_entry slot_list_setitem hl.typeIs entry_list_setitem ?_ (args_list_setitem _ _ _)))
  show wpAny _ _ (Builtin.List.listSubscript? (.ref sl) >>= _) _ _ s
  refine wpAny_bind ?_
  unfold Builtin.List.listSubscript?
  refine wpAny_bind (wpAny_specialOf hTs slice_no_index ?_)
  simp only [Option.isNone_none, if_true]
  refine wpAny_pure ?_
  show wpAny _ _ (typeOf (.ref sl) >>= _) _ _ s
  refine wpAny_bind (wpAny_typeOf hTs ?_)
  first
    | rw [if_neg (by decide)]
    | refine PySem.W.KFB.if_not (by decide) ?_
  rw [listSliceParts_eq]
  refine wpAny_bind (wpAny_bind (wpAny_field hos hds (x := .none) rfl (wpAny_bind (wpAny_listPart .none ?_))))
  rw [if_neg hstep]
  refine wpAny_bind (wpAny_field hos hds (x := vl) rfl (wpAny_bind (wpAny_listPart pl ?_)))
  refine wpAny_bind (wpAny_field hos hds (x := vu) rfl (wpAny_bind (wpAny_listPart pu (wpAny_pure ?_))))
  first
    | simp only [hsame, Bool.false_eq_true, if_false]
    | refine PySem.W.KFB.if_not hsame ?_
    | (dsimp only
       rw [if_neg (by rw [hsame]; exact Bool.false_ne_true)])
  refine wpAny_bind (m := Builtin.List.listAllItems (.ref b) "must assign iterable to extended slice") ?_
  unfold Builtin.List.listAllItems
  refine wpAny_bind (wpAny_typeOf hb.typeIs ?_)
  first
    | refine PySem.W.KFB.if_so (by decide) ?_
    | rw [if_pos (by decide)]
    | simp only [beq_self_eq_true, Bool.true_or, if_true]
  unfold Builtin.List.listItems
  refine wpAny_bind (wpAny_seqItems e2 rfl (wpAny_pure ?_))
  refine wpAny_bind (wpAny_bind (wpAny_seqItems e rfl (wpAny_pure ?_)))
  refine wpAny_bind (wpAny_of_eq ((sliceIndices_raw (some (a : Int)) (some (c : Int)) none items.size (by simp)).trans (congrArg (pure : Int × Int × Int → Sem (Int × Int × Int)) (bounds_run hac hc))) ?_)
  show wpAny _ _ (if ((1 : Int) == 1) = true then _ else _) _ _ s
  rw [if_pos (by decide)]
  refine wpAny_bind (wpAny_rule ?_)
  first
    | simp only [notLongL hsz, Bool.false_eq_true, if_false]
    | refine PySem.W.KFB.if_not (notLongL hsz) ?_
  first | refine wpAny_bind (wpAny_pure ?_) | skip
  show wpAny _ _ (updateSeq l (fun xs => xs.extract 0 ((a : Int)).toNat ++ new ++ xs.extract (max (a : Int) (c : Int)).toNat xs.size) >>= _) _ _ s
  rw [hmax, Int.toNat_natCast]
  refine wpAny_bind (wpAny_updateSeq (hz := Nat.le_trans (Nat.le_add_right _ _) hsz) (_hz' := hz') e rfl ?_)
  refine wpAny_bind (wpAny_letGo ?_)
  first
    | exact wpAny_bind (wpAny_pure (wpAny_pure ⟨.none, rfl, wpAny_pure h⟩))
    | exact wpAny_pure ⟨.none, rfl, wpAny_pure h⟩
end
section
variable {X : Cx}
end
end L2
namespace Att
open PySem PySem.W PySem.Calls PyProof.Rows
theorem ints_of_wellAll {P : Params} {h : Heap} : ∀ (ns : List Int) (vs : List Value), WellAll P h vs (ns.map WData.int) → IntsAre vs ns := by
  intro ns
  induction ns with
  | nil =>
    intro vs w
    rw [List.map_nil] at w
    cases w
    exact .nil
  | cons n ns ih =>
    intro vs w
    rw [List.map_cons] at w
    cases w with
    | cons a b =>
      cases a
      exact .cons _ _ (ih _ b)
theorem script_of {l : OpenLaw} {n : Nat} (hn : l.most = some n) {P : Params} {h : Heap} {args : List WData} {vals : List Value}
    (hpre : l.row.toRowW.claim.pre args = true) (hwl : WellAll P h vals args) :
    ∃ a vs ns, vals = [Value.ref a] ∧ args = [WData.list (ns.map WData.int)] ∧ h.get? a = some { cls := .type "list", data := .seq vs.toArray } ∧ IntsAre vs ns ∧ ns.length ≤ n := by
  have hsh : WShape.hasAll [] args [.list .int] = true := (pre_splitW hpre).1
  have hc : l.pre.holds [] { args := args } = true := (pre_splitW hpre).2
  obtain ⟨d, r, rfl, h1, h2⟩ := hasAllW_cons hsh
  obtain rfl := hasAllW_nil h2
  obtain ⟨xs, rfl, h3⟩ := hasW_list h1
  obtain ⟨ns, rfl⟩ := items_int h3
  have hlen : ns.length ≤ n := by
    unfold OpenLaw.pre at hc
    have h4 : (WTm.not (.lt (.lit (.int (n : Int))) (.len (.arg 0)))).holds [] { args := [.list (ns.map .int)] } = true := by
      have h4 := (holds_andW hc).1
      rw [hn] at h4
      exact h4
    have h5 := condW_of h4 (w_not (w_lt w_lit (w_len_list (w_arg rfl))))
    rw [List.length_map] at h5
    refine Nat.le_of_not_lt fun q => ?_
    have q' : (n : Int) < ((ns.length : Nat) : Int) := by trivial
    first
      | (rw [decide_eq_true q'] at h5; exact absurd h5 (by decide))
      | (simp at h5; trivial)
  cases hwl with
  | cons w1 w2 =>
    cases w2
    cases w1 with
    | list ho hall => exact ⟨_, _, ns, rfl, rfl, ho, ints_of_wellAll ns _ hall, hlen⟩
theorem post_true (l : OpenLaw) (args : List WData) : l.row.toRowW.claim.post args (.bool true) args = true :=
  postW_of (r := l.row.toRowW) (X := (true == true))
    (show WShape.has [] (.bool true) .bool = true by first | rfl | decide | simp [WShape.has, WShape.arms, WShape.armsAll])
    (show (WTm.eq .res (.lit (.bool true))).value [] { args := args, res := some (.bool true), after := args } = some (.bool (true == true)) from w_eq_bool (w_res rfl) w_lit) rfl
theorem attach_call {l : OpenLaw} {n : Nat} {q : Program} {loose : List Str} {XP : (Str → Option Value) → Heap → Prop} {YP : World → Heap → Prop} {d : DefRec}
    (hn : l.most = some n) (hdf : d.params.defaults = [])
    (call : ∀ (w : World) (s₀ s₁ : Shared) (mg mb : Str → Option Value) (fa : Addr) (o : Obj) (pm cd doc : Value) (a : Addr) (vs : List Value) (ns : List Int),
      Ground q loose [] XP w s₀ mg mb s₁.heap → YP w s₁.heap →
      s₁.heap.get? fa = some o → o.data = .func (docDef d.name d.params d.body d.scope pm cd doc) → s₁.heap.CodeRec cd d.name → mg d.name = some (.ref fa) →
      s₁.heap.get? a = some { cls := .type "list", data := .seq vs.toArray } → IntsAre vs ns → ns.length ≤ n → s₁.gens = #[] →
      codeAny (model l.prog w) callerA (.call (.ref fa) ⟨[.ref a], []⟩) (fun r s' => r = .ok (.ret (.bool true)) ∧ OldK s₁.heap s'.heap ∧ s'.os = s₁.os ∧ AllBare s'.gens) s₁) :
    WalkO q loose XP YP l.row.toRowW d [] (fun f vs => PySem.call f vs) := by
  intro w s₀ s₁ mg mb G Y fa o pm cd doc dV kV ho hd hcd hD hmg hg args vals as hpre hlay hrd hwl hlo
  obtain rfl : dV = .none := Dflts.none hD hdf
  obtain rfl : kV = .none := Dflts.noKw hD
  obtain ⟨a, vs, ns, rfl, rfl, hobj, hints, hlen⟩ := script_of hn hpre hwl
  refine enter_call (codeAny_mono (call w s₀ s₁ mg mb fa o pm cd doc a vs ns G Y ho (fd_plain hd) hcd hmg hobj hints hlen hg) fun r s' hq => ?_)
  obtain ⟨rfl, h2, h3, h4⟩ := hq
  exact ⟨.inl ⟨.bool true, .bool true, [], rfl, fun _ => rfl, .bool true, post_true l _, fun _ => ⟨List.Pairwise.nil, fun _ hm => (nomatch hm)⟩⟩, h2, h3, h4⟩
section
variable {prog : Program} {w : World} {A : Around} {E : Value → Shared → Prop} {s : Shared} {K : Frag}
end
end Att
namespace L2
open PySem PySem.Spec PyProof.Rows
theorem vals_ints : ∀ {vs : List Value} {ns : List Int}, IntsAre vs ns → Vals (ns.map V.int) vs
  | _, _, .nil => .nil
  | _, _, .cons n t h => .cons ⟨t, rfl⟩ (vals_ints h)
noncomputable def Only (H : Hp) : Prop := ∀ b, H b = none ∨ ∃ o xs, H b = some (.frz o (.lst xs))
theorem law_call {P : Program} {w : World} {K : PySem.W.Frag} {mg mb : Str → Option Value} {CX : CXT} {k : Nat} {fa a : Addr} {fd : FuncData} {x : Str} {sp : Sp} {s₁ : Shared} {vs : List Value} {ns : List Int}
    (KX : K.In s₁.heap) (hns : s₁.heap.Ns mainGlobals mg) (hb : s₁.heap.Ns builtinsNs mb) (hbb : ∀ x : Str, x ≠ "__name__" → mb x = bootBuiltins x) (hlim : s₁.heap.NoLimit) (hg : s₁.gens = #[])
    (ha : s₁.heap.get? a = some { cls := .type "list", data := .seq vs.toArray }) (hi : IntsAre vs ns) (hl : ns.length ≤ sizeLine) (hr : Room k callerA)
    (F : ∀ base : Heap, K.In base → base.Ns mainGlobals mg → FnOk P w K mg base CX k fa fd [x] sp) (hbind : ∀ (s : Shared) (u : Value), BindsTo s fd ⟨[u], []⟩ [(x, u)])
    (hsp : ∀ H : Hp, Only H → SqL K H a (ns.map V.int) → sp [.ref a] H (fun v _ => v = .bl true) fun _ _ _ => False)
    (hCX : ∀ H e s', CX [] H s₁ (fun _ _ _ => False) e s' → False) :
    codeAny (model P w) callerA (.call (.ref fa) ⟨[.ref a], []⟩) (fun r s' => r = .ok (.ret (.bool true)) ∧ OldK s₁.heap s'.heap ∧ s'.os = s₁.os ∧ AllBare s'.gens) s₁ := by
  have rv := vals_ints hi
  have lenV := hi.length
  -- from an abstract heap in which nothing but the script may be tracked
  have core : ∀ H : Hp, Only H → SqL K H a (ns.map V.int) → HOk P w H s₁.heap → (∀ b, H b ≠ none → b = a) → (H a ≠ none → K.lookup a = none) →
      codeAny (model P w) callerA (.call (.ref fa) ⟨[.ref a], []⟩) (fun r s' => r = .ok (.ret (.bool true)) ∧ OldK s₁.heap s'.heap ∧ s'.os = s₁.os ∧ AllBare s'.gens) s₁ := by
    intro H hO hS hok hA hK
    have base_of : ∀ {b : Addr} {o : Obj}, s₁.heap.get? b = some o → H b = none → (hidT s₁.heap H).get? b = some o := fun e n => hidT_get e n
    have noA : ∀ {b : Addr} {o : Obj} {es : Array DictEntry} {ep : Nat}, s₁.heap.get? b = some o → o.data = .dict es ep → H b = none := fun {b o es ep} e d => by
      cases q : H b with
      | none => rfl
      | some u =>
        have e' : b = a := hA b (by rw [q]; simp)
        subst e'
        rw [ha] at e; cases e
        have d' : Data.seq vs.toArray _ = Data.dict es ep := d
        cases d'
    have nsK : ∀ {b : Addr} {m : Str → Option Value}, s₁.heap.Ns b m → (hidT s₁.heap H).Ns b m := fun {b m} ⟨o, es, ep, e, d, r⟩ => ⟨o, es, ep, base_of e (noA e d), d, r⟩
    have hKb : K.In (hidT s₁.heap H) := fun b o e => base_of (KX b o e) (by
      cases q : H b with
      | none => rfl
      | some u =>
        have e' : b = a := hA b (by rw [q]; simp)
        subst e'
        rw [hK (by rw [q]; simp)] at e; cases e)
    have hM : Mod K mg (hidT s₁.heap H) := ⟨hKb, nsK hns, ⟨mb, nsK hb, hbb⟩, let ⟨mc, h1, h2⟩ := hlim; ⟨mc, nsK h1, h2⟩⟩
    have e0 : Env0 P w K mg (hidT s₁.heap H) callerA [] s₁ H := ⟨rfl, hM, fun b o e => of_hidT e, Nat.le_of_eq (hidT_size _ _), trivial, fun b hb => absurd (show b ∈ ([] : List Addr) from hb) (by simp), hok, .of_eq hg⟩
    refine codeAny_mono ((F _ hKb (nsK hns)).run callerA [] s₁ H ⟨[.ref a], []⟩ [.ref a] [.ref a] _ _ hr e0 (hbind s₁ (.ref a)) (.cons rfl .nil) (hsp H hO hS)) fun r s' h => ?_
    cases r with
    | error e => exact (hCX H e s' h).elim
    | ok fl =>
      cases fl with
      | next => exact False.elim h
      | brk => exact False.elim h
      | cont => exact False.elim h
      | ret u =>
        obtain ⟨v, H', os, bare, un, hok', r', q⟩ := h
        have q' : v = .bl true := q
        subst q'
        obtain rfl : u = Value.bool true := r'
        refine ⟨rfl, OldK.of_keep fun b o e => ?_, os, bare⟩
        cases q : H b with
        | none => exact un.keep b o e q (by intro z; exact absurd (show b ∈ ([] : List Addr) from z) (by simp)) (by simp)
        | some u =>
          rcases hO b with z | ⟨ob, xs, z⟩
          · rw [q] at z; cases z
          · have z2 := un.frzs b ob _ z
            obtain ⟨e1, _⟩ := hok b _ z
            obtain ⟨e2, _⟩ := hok' b _ z2
            rw [e] at e1; cases e1
            exact e2
  cases hk : K.lookup a with
  | some o =>
    -- the script is one of the module's own objects
    have e := KX a o hk
    rw [ha] at e
    cases e
    refine core (fun _ => none) (fun _ => .inl rfl) (.inr ⟨_, vs.toArray, _, hk, rfl, rfl, rfl, by rw [List.size_toArray, lenV]; exact hl, by simpa using rv⟩) (fun b u z => by have z' : (none : Option HO) = some u := z; cases z') (fun b z => absurd rfl z) fun z => absurd rfl z
  | none =>
    refine core (fun b => if b = a then some (.frz { cls := .type "list", data := .seq vs.toArray } (.lst (ns.map V.int))) else none) (fun b => ?_) (.inl (.inr ⟨{ cls := .type "list", data := .seq vs.toArray }, if_pos rfl⟩)) (fun b u z => ?_) (fun b z => ?_) fun _ => hk
    · by_cases hb : b = a
      · exact .inr ⟨_, _, if_pos hb⟩
      · exact .inl (if_neg hb)
    · by_cases hb : b = a
      · have z' := (if_pos hb).symm.trans z
        cases z'
        subst hb
        exact ⟨ha, by rw [List.length_map]; exact hl, vs, _, rv, ha⟩
      · have z' := (if_neg hb).symm.trans z
        cases z'
    · by_cases hb : b = a
      · exact hb
      · exact absurd (if_neg hb) z
end L2
namespace L2
open PySem PySem.Spec PyProof.Rows
noncomputable abbrev KOf {K : PySem.W.Frag} {h : Heap} (_ : K.In h) : PySem.W.Frag := K
theorem walk_of {l : PySem.W.OpenLaw} {n k : Nat} {q : Program} {loose : List Str} {XP : (Str → Option Value) → Heap → Prop} {YP : World → Heap → Prop} {d : DefRec} {K : Params → PySem.W.Frag} {CX : World → CXT} {sp : World → Sp} {x : Str}
    (hn : l.most = some n) (hn2 : n ≤ sizeLine) (hdf : d.params.defaults = []) (hr : Room k callerA)
    (hY : ∀ (w : World) (h : Heap), YP w h → (K w.params).In h)
    (F : ∀ (w : World) (mg : Str → Option Value) (fa : Addr) (h : Heap), (K w.params).In h → h.Ns mainGlobals mg → mg d.name = some (.ref fa) →
      ∃ fd : FuncData, (∀ (s : Shared) (u : Value), BindsTo s fd ⟨[u], []⟩ [(x, u)]) ∧
        ∀ base : Heap, (K w.params).In base → base.Ns mainGlobals mg → FnOk l.prog w (K w.params) mg base (CX w) k fa fd [x] (sp w))
    (hsp : ∀ (w : World) (H : Hp) (a : Addr) (ns : List Int), ns.length ≤ n → Only H → SqL (K w.params) H a (ns.map V.int) → sp w [.ref a] H (fun v _ => v = .bl true) fun _ _ _ => False)
    (hCX : ∀ (w : World) (H : Hp) (s : Shared) (e : Value) (s' : Shared), CX w [] H s (fun _ _ _ => False) e s' → False) :
    PySem.W.WalkO q loose XP YP l.row.toRowW d [] (fun f vs => PySem.call f vs) := by
  refine Att.attach_call hn hdf fun w s₀ s₁ mg mb fa o pm cd doc a vs ns G Y ho hd hcd hmg hobj hints hlen hg => ?_
  have KX := hY w _ Y
  obtain ⟨fd, hb, hF⟩ := F w mg fa _ KX G.T.g hmg
  exact law_call KX G.T.g G.T.b G.T.builtins G.T.nolimit hg hobj hints (Nat.le_trans hlen hn2) hr hF hb (fun H hO hS => hsp w H a ns hlen hO hS) fun H e s' => hCX w H s₁ e s'
end L2
/- THE LAST THEOREM (shape; LID, My.* are yours):
   My.Adr: a structure of the addresses that your layer names (classes, functions); My.Txt K t: a structure (Prop) of the equations over K;
   My.txt_mk : {K} {implicit addresses ..} (e1 : nsIn K mainGlobals "law" = some (some (.ref f))) (e2 : K.lookup f = some ⟨oc, od, .func (fnOf "law" "law" params body scope dV kV doc pm an cdv ct), sl⟩) (e3 : codeIn K cdv "law" = true) .. : ∃ t, My.Txt K t
set_option maxRecDepth 100000 in
set_option maxHeartbeats 0 in
theorem PySem.Challenge.cw_LID_holds : PySem.Challenge.rw_LID.Holds := by
  w_on; o_law; k_head; (case hw => w_witness2)
  k_fill
  refine L2.walk_of (l := PySem.Challenge.rw_LID) (n := 63) (k := 40) (x := "script") (CX := fun w => ..) (sp := fun _ => My.sp_law) rfl (by decide) rfl ⟨rfl, by decide, by decide⟩ (fun w h Y => PySem.W.kIn_of Y) ?F ?S ?C
  case F =>
    intro w mg fa h KX G hmg
    have T : ∃ t, My.Txt (L2.KOf KX) t := by
      dsimp only [L2.KOf]                          -- K must stand as «<heap const> w.params» for k_is
      refine' My.txt_mk ?e1 ?e2 ?e3 ..
      (case e1 => PySem.W.k_is)                    -- in the order: a name -> its address -> its object -> its parts
      (case e2 => PySem.W.k_is)
      ..
    obtain ⟨t, T⟩ := T
    have e0 := hmg.symm.trans (PySem.W.mg_of KX G T.law)
    cases e0                                       -- fa is the law's own address
    exact ⟨_, fun s u => .of_eq rfl, fun base kb nb => My.law_fn T kb nb⟩     -- if «.of_eq rfl» comes too early: refine' ⟨_, ?b, fun base kb nb => My.law_fn T kb nb⟩; exact fun s u => .of_eq rfl
  case S => exact fun w H a ns hl hO hS => ..
  case C => exact ..
(the tactic k_is has no namespace: write k_is) -/
namespace L2
open PySem PySem.Spec PyProof.Rows
noncomputable def defArgs (s : Stmt) : Arguments := match s with
  | .FunctionDef _ a _ _ _ _ _ _ _ _ => a
  | _ => { posonlyargs := [], args := [], vararg := none, kwonlyargs := [], kw_defaults := [], kwarg := none, defaults := [] }
noncomputable def defBody (s : Stmt) : List Stmt := match s with
  | .FunctionDef _ _ b _ _ _ _ _ _ _ => b
  | _ => []
noncomputable def defScope (s : Stmt) : Scope := match s with
  | .FunctionDef _ _ _ _ _ _ sc _ _ _ => sc
  | _ => { kind := .function, names := [], isGenerator := false, isCoroutine := false }
noncomputable abbrev CX0 : CXT := fun _ _ _ _ _ _ => False
noncomputable abbrev E0 : XK := fun _ _ _ => False
structure Fun (K : PySem.W.Frag) (x qual : Str) (st : Stmt) (f : Addr) (fd : FuncData) : Prop where
  ex : ∃ (oc : Value) (od : Option Addr) (kV doc pm : Value) (an : Option Addr) (cdv ct : Value) (osl : Array (Option Value)),
    fd = PySem.W.fnOf x qual (defArgs st) (defBody st) (defScope st) .none kV doc pm an cdv ct ∧ K.lookup f = some ⟨oc, od, .func fd, osl⟩ ∧ PySem.W.codeIn K cdv qual = true
  kp : PySem.W.keepIn K (.ref f) = true
section
variable {P : Program} {w : World} {K : PySem.W.Frag} {mg : Str → Option Value} {base : Heap}
theorem Fun.ok {x qual : Str} {st : Stmt} {f : Addr} {fd : FuncData} {N ps : List Str} {k : Nat} {sp : Sp} (F : Fun K x qual st f fd) (S : FnScope N ps (defScope st)) (len : ∀ vs H Q E, sp vs H Q E → vs.length = ps.length)
    (hbody : ∀ (cdv : Value) (A : Around) (outer : List Env) (s : Shared) (H : Hp) (vs : List V) (Q : VK) (E : XK), Room k (A.deeper (envOfC qual (defScope st) s.heap.objs.size f cdv)) → sp vs H Q E →
      ∃ t, PSs (cxOf CX0 P w K mg base N qual (defScope st) f cdv A outer s H E).nox (defBody st) t ∧ t { nx := fun _ H' => Q .non H', rt := Q } (start N vs) H) : FnOk P w K mg base CX0 (k + 1) f fd ps sp := by
  obtain ⟨oc, od, kV, doc, pm, an, cdv, ct, osl, rfl, lk, hcd⟩ := F.ex
  refine fn_of lk hcd S len fun A outer s H vs Q E hr hsp => ?_
  obtain ⟨t, h, q⟩ := hbody cdv A outer s H vs Q E hr hsp
  exact ⟨t, h.nox, q⟩
theorem Fun.binds {x qual : Str} {st : Stmt} {f : Addr} {fd : FuncData} {ps : List Str} (F : Fun K x qual st f fd)
    (h : ∀ (kV doc pm : Value) (an : Option Addr) (cdv ct : Value) (us : List Value), us.length = ps.length → bindArgs (PySem.W.fnOf x qual (defArgs st) (defBody st) (defScope st) .none kV doc pm an cdv ct) ⟨us, []⟩ = pure (ps.zip us)) : Binds K fd ps [] := by
  obtain ⟨oc, od, kV, doc, pm, an, cdv, ct, osl, rfl, lk, hcd⟩ := F.ex
  exact .all (h kV doc pm an cdv ct)
theorem fun_mk {x qual : Str} {st : Stmt} {f : Addr} {oc : Value} {od an : Option Addr} {osl : Array (Option Value)} {kV doc pm cdv ct : Value} (l : K.lookup f = some ⟨oc, od, .func (PySem.W.fnOf x qual (defArgs st) (defBody st) (defScope st) .none kV doc pm an cdv ct), osl⟩)
    (c : PySem.W.codeIn K cdv qual = true) (k : PySem.W.keepIn K (.ref f) = true) : Fun K x qual st f (PySem.W.fnOf x qual (defArgs st) (defBody st) (defScope st) .none kV doc pm an cdv ct) := ⟨⟨oc, od, kV, doc, pm, an, cdv, ct, osl, rfl, l, c⟩, k⟩
end
theorem hu_of {A : Around} {k : Nat} (hr : Room k A) : A.units + 1 < cLine := Nat.lt_of_le_of_lt (Nat.add_le_add_left (by decide : 1 ≤ 64) _) hr.units
section
variable {X : Cx}
theorem pv (i : Nat) {x : Str} {pos : Pos} (hN : X.N[i]? = some x := by rfl) (hv : Vis X.env.scope x := by first | exact Or.inl rfl | exact Or.inr (Or.inl rfl) | exact Or.inr (Or.inr rfl)) (hd : (x == ("__debug__" : Str)) = false := by decide)
    (hcd : (x == ("__classdict__" : Str)) = false := by decide) : PE X (.Name x pos) (tVar i) := pe_var hN hv hd hcd
end
theorem iteF {A B : Prop} (h : B) : if false = true then A else B := by
  rw [if_neg Bool.false_ne_true]
  exact h
theorem iteT {A B : Prop} (h : A) : if true = true then A else B := by
  rw [if_pos rfl]
  exact h
theorem ite2 {c A B : Prop} [Decidable c] (h1 : c → A) (h2 : ¬ c → B) : if c then A else B := by
  by_cases h : c
  · rw [if_pos h]
    exact h1 h
  · rw [if_neg h]
    exact h2 h
theorem iteNS {c A B : Prop} [Decidable c] (hc : c) (h : B) : if (!decide c) = true then A else B := by
  rw [decide_eq_true hc]
  exact iteF h
noncomputable def Same (H H' : Hp) : Prop := ∀ b o, H b = some o → H' b = some o
theorem Same.refl (H : Hp) : Same H H := fun _ _ h => h
theorem Same.trans {H H1 H2 : Hp} (a : Same H H1) (b : Same H1 H2) : Same H H2 := fun c o h => b c o (a c o h)
theorem Same.free {H H' : Hp} (e : Same H H') {l : Addr} (h : H' l = Option.none) : H l = Option.none := by
  cases q : H l with
  | none => rfl
  | some o =>
    rw [e l o q] at h
    cases h
theorem Same.seq {K : PySem.W.Frag} {H H' : Hp} {a : Addr} {xs : List V} (e : Same H H') (h : SqL K H a xs) : SqL K H' a xs := by
  rcases h with (h | ⟨o, h⟩) | h
  · exact .inl (.inl (e _ _ h))
  · exact .inl (.inr ⟨o, e _ _ h⟩)
  · exact .inr h
end L2
set_option Elab.async false
set_option linter.all false
set_option maxRecDepth 100000
namespace L2
open PySem PySem.Spec PyProof.Rows
noncomputable def clos (cells : List (Str × Addr)) : List (Str × NameKind) → List (Str × Addr) → List (Str × Addr)
  | [], cs => cs
  | (n, k) :: r, cs => if (k == NameKind.free) = true then (match cells.lookup n with | some c => clos cells r ((n, c) :: cs) | none => clos cells r cs) else clos cells r cs
theorem clos_for {env : Env} : ∀ (l : List (Str × NameKind)) (cs : List (Str × Addr)), (∀ x ∈ l, x.2 = .free → ∃ c, env.cells.lookup x.1 = some c) →
    (forIn (m := Sem) l cs fun x r => match x with
      | (name, kind) => if (kind == NameKind.free) = true then do let c ← cellOf env name; pure (ForInStep.yield ((name, c) :: r)) else pure (ForInStep.yield r)) = pure (clos env.cells l cs)
  | [], cs, _ => by rfl
  | (n, k) :: r, cs, h => by
    have ih := fun cs => clos_for r cs fun x hx => h x (List.mem_cons_of_mem _ hx)
    rw [List.forIn_cons]
    unfold clos
    by_cases hk : (k == NameKind.free) = true
    · obtain ⟨c, hc⟩ := h (n, k) List.mem_cons_self (by simpa using hk)
      have hc' : env.cells.lookup n = some c := hc
      simp only [hk, if_true, hc']
      have e : cellOf env n = pure c := by unfold cellOf; rw [hc']
      rw [e]
      simp only [pure_bind]
      exact ih _
    · have hk' : (k == NameKind.free) = false := by simpa using hk
      simp only [hk', Bool.false_eq_true, if_false, pure_bind]
      exact ih _
theorem clos_eq {scope : Scope} {env : Env} (h : ∀ x ∈ scope.names, x.2 = .free → ∃ c, env.cells.lookup x.1 = some c) : closureFor scope env = pure (clos env.cells scope.names []) := by
  unfold closureFor
  have := clos_for (env := env) scope.names [] h
  simp only [this, pure_bind]
theorem clos_sub {cells : List (Str × Addr)} {x : Str} {c : Addr} : ∀ (l : List (Str × NameKind)) (cs : List (Str × Addr)), (∀ y d, cs.lookup y = some d → cells.lookup y = some d) → (clos cells l cs).lookup x = some c → cells.lookup x = some c
  | [], cs, h, e => h x c e
  | (n, k) :: r, cs, h, e => by
    unfold clos at e
    split at e
    · split at e
      · rename_i d hd
        refine clos_sub r _ (fun y z q => ?_) e
        rw [List.lookup_cons] at q
        split at q
        · rename_i hy
          cases q
          rw [eq_of_beq hy]; exact hd
        · exact h y z q
      · exact clos_sub r cs h e
    · exact clos_sub r cs h e
theorem clos_keep {cells : List (Str × Addr)} {x : Str} : ∀ (l : List (Str × NameKind)) (cs : List (Str × Addr)), (∃ c, cs.lookup x = some c) → ∃ c, (clos cells l cs).lookup x = some c
  | [], cs, h => h
  | (n, k) :: r, cs, h => by
    unfold clos
    split
    · split
      · refine clos_keep r _ ?_
        rw [List.lookup_cons]
        split
        · exact ⟨_, rfl⟩
        · exact h
      · exact clos_keep r cs h
    · exact clos_keep r cs h
theorem clos_has {cells : List (Str × Addr)} {x : Str} : ∀ (l : List (Str × NameKind)) (cs : List (Str × Addr)), (x, NameKind.free) ∈ l → (∃ c, cells.lookup x = some c) → ∃ c, (clos cells l cs).lookup x = some c
  | [], _, h, _ => nomatch h
  | (n, k) :: r, cs, h, ⟨c, hc⟩ => by
    unfold clos
    rcases List.mem_cons.mp h with e | h
    · cases e
      rw [if_pos (by rfl), hc]
      refine clos_keep r _ ⟨c, ?_⟩
      simp [List.lookup_cons]
    · split
      · split
        · exact clos_has r _ h ⟨c, hc⟩
        · exact clos_has r _ h ⟨c, hc⟩
      · exact clos_has r _ h ⟨c, hc⟩
theorem relabel_free {env : Env} : ∀ {names : List (Str × NameKind)} {x : Str}, names.lookup x = some .free →
    (names.map fun (n, k) => if (k == NameKind.free && env.scope.kind == .function && env.kindOf n == some .cell) then (n, NameKind.cell) else (n, k)).lookup x = some .cell ∨
    (names.map fun (n, k) => if (k == NameKind.free && env.scope.kind == .function && env.kindOf n == some .cell) then (n, NameKind.cell) else (n, k)).lookup x = some .free
  | [], _, h => by simp at h
  | (n, k) :: r, x, h => by
    have ih := @relabel_free env r x
    by_cases hc : (k == NameKind.free && env.scope.kind == .function && env.kindOf n == some .cell) = true
    · simp only [List.map_cons, if_pos hc, List.lookup_cons]
      cases hx : x == n with
      | true => exact .inl rfl
      | false =>
        simp only [List.lookup_cons, hx] at h
        exact ih h
    · simp only [List.map_cons, if_neg hc, List.lookup_cons]
      cases hx : x == n with
      | true =>
        simp only [List.lookup_cons, hx] at h
        cases h
        exact .inr rfl
      | false =>
        simp only [List.lookup_cons, hx] at h
        exact ih h
theorem relabel_back {env : Env} : ∀ {names : List (Str × NameKind)} {x : Str}, (∀ y ∈ names, y.2 ≠ .cell) →
    ((names.map fun (n, k) => if (k == NameKind.free && env.scope.kind == .function && env.kindOf n == some .cell) then (n, NameKind.cell) else (n, k)).lookup x = some .cell ∨
    (names.map fun (n, k) => if (k == NameKind.free && env.scope.kind == .function && env.kindOf n == some .cell) then (n, NameKind.cell) else (n, k)).lookup x = some .free) → (x, NameKind.free) ∈ names
  | [], _, _, h => by simp at h
  | (n, k) :: r, x, hn, h => by
    have ih := @relabel_back env r x fun y hy => hn y (List.mem_cons_of_mem _ hy)
    by_cases hc : (k == NameKind.free && env.scope.kind == .function && env.kindOf n == some .cell) = true
    · simp only [List.map_cons, if_pos hc, List.lookup_cons] at h
      have hk : k = .free := by
        simp only [Bool.and_eq_true] at hc
        exact eq_of_beq hc.1.1
      cases hx : x == n with
      | true => rw [eq_of_beq hx, hk]; exact List.mem_cons_self
      | false =>
        simp only [hx] at h
        exact List.mem_cons_of_mem _ (ih h)
    · simp only [List.map_cons, if_neg hc, List.lookup_cons] at h
      cases hx : x == n with
      | true =>
        simp only [hx] at h
        rcases h with h | h
        · have e : k = .cell := Option.some.inj h
          exact absurd e (hn (n, k) List.mem_cons_self)
        · have e : k = .free := Option.some.inj h
          rw [eq_of_beq hx, e]; exact List.mem_cons_self
      | false =>
        simp only [hx] at h
        exact List.mem_cons_of_mem _ (ih h)
noncomputable def compCx (X : Cx) (N : List Str) (scope : Scope) (C : Addr) (s : Shared) (H : Hp) (fp : List Addr) : Cx where
  prog := X.prog
  w := X.w
  K := X.K
  mg := X.mg
  base := X.base
  A := X.A
  N := N
  s₀ := s
  H₀ := H
  env := compEnvC scope (clos X.env.cells scope.names []) C X.env
  outer := X.stack
  stack := X.stack
  ex := fp
  fn := fun _ => false
  calm := X.calm
  pn := []
  xe := fun _ _ => False
structure CompScope (X : Cx) (N : List Str) (js : List (Option Nat)) (scope : Scope) : Prop where
  kind : scope.kind = .function
  nocell : ∀ y ∈ scope.names, y.2 ≠ .cell
  locs : ∀ y ∈ scope.names, y.2 = .local → scope.names.lookup y.1 = some .local
  free : ∀ y ∈ scope.names, y.2 = .free → X.env.kindOf y.1 = some .cell ∨ X.env.kindOf y.1 = some .free
  len : js.length = N.length
  js : ∀ (i j : Nat) (x : Str), js[i]? = some (some j) → N[i]? = some x → X.N[j]? = some x ∧ scope.names.lookup x = some .free
noncomputable def innerSt (js : List (Option Nat)) (σ : St) : St := js.map fun j => (j.bind fun j => σ[j]?).join
section
variable {X : Cx} {pins : List (Addr × Obj)} {σ : St} {H : Hp} {s : Shared} {N : List Str} {js : List (Option Nat)} {scope : Scope} {fp : List Addr} {C D : Addr} {h₁ : Heap} {m : Str → Option Value} {tk : Nat}
theorem lookup_mem {α β : Type} [BEq α] [LawfulBEq α] {x : α} {y : β} : ∀ {l : List (α × β)}, l.lookup x = some y → (x, y) ∈ l
  | [], h => by simp at h
  | (a, b) :: r, h => by
    rw [List.lookup_cons] at h
    split at h
    · rename_i hx
      cases h
      rw [eq_of_beq hx]; exact List.mem_cons_self
    · exact List.mem_cons_of_mem _ (lookup_mem h)
theorem inv_comp (S : CompScope X N js scope) (I : Inv X pins σ H s) (f2 : ∀ b ∈ fp, FpOk X pins H b) (hfp : ∀ b ∈ fp, b < s.heap.objs.size) (keep : ∀ b o, s.heap.get? b = some o → h₁.get? b = some o)
    (hD0 : s.heap.objs.size ≤ D) (hC0 : s.heap.objs.size ≤ C) (hDC : D ≠ C) (hD : ∃ n, h₁.get? D = some { cls := .type "list", data := .seq ([] : List Value).toArray n }) (hns : h₁.Ns C m) :
    Inv (compCx X N scope C s H fp) [] (innerSt js σ) (upd H D (.lst [])) { s with heap := h₁, toks := tk } := by
  have hc : ∀ x ∈ scope.names, x.2 = .free → ∃ c, X.env.cells.lookup x.1 = some c := fun x hx e => I.ok.has _ (S.free x hx e)
  have sub : ∀ x c, (clos X.env.cells scope.names []).lookup x = some c → X.env.cells.lookup x = some c := fun x c e => clos_sub _ _ (fun _ _ z => by simp at z) e
  have clt : ∀ x c, X.env.cells.lookup x = some c → c < s.heap.objs.size := fun x c e => by obtain ⟨v, q⟩ := I.cell x c e; exact q.lt
  have hasF : ∀ x, (x, NameKind.free) ∈ scope.names → ∃ c, (clos X.env.cells scope.names []).lookup x = some c := fun x hx => clos_has _ _ hx (hc (x, .free) hx rfl)
  have fD : H D = none := I.hok.fresh hD0
  have fC : H C = none := I.hok.fresh hC0
  refine ⟨⟨I.ok.mod, S.kind, I.ok.glob, I.ok.blt, hC0, fun x y c h1 h2 => I.ok.inj x y c (sub _ _ h1) (sub _ _ h2), fun x hx => ?_, fun x c h _ => (Bool.noConfusion h), I.ok.hd, I.ok.frames, .inl rfl, fun b hb => ⟨?_, fun x c e => (f2 b hb).2.2.2.2.1 x c (sub _ _ e)⟩, I.bs,
      Nat.le_trans I.ok.bsz I.sz, fun b o e hb => ?_, fun b hb z => ?_, I.stack, I.stkFree⟩,
    rfl, I.bare, Un.laid keep hD0 fD, ⟨m, hns, fun i x v h1 h2 h3 => ?_⟩, fun x c e => ?_, ?_, fun x c e => ?_, fun p hp => absurd hp (by simp [compCx]), I.hok.laid keep hD0 ?_, ?_⟩
  · exact hasF x (relabel_back S.nocell hx)
  · exact Nat.ne_of_lt (Nat.lt_of_lt_of_le (hfp b hb) hC0)
  · rcases (f2 b hb).2.2.2.1 with q | q
    · exact I.ok.noex b o e q
    · exact absurd (Nat.lt_of_lt_of_le (Heap.lt_size e) (Nat.le_trans I.ok.bsz q)) (Nat.lt_irrefl _)
  · rcases List.mem_cons.mp (I.stkSub b z) with q | q
    · exact (f2 b hb).2.1 q
    · exact (f2 b hb).2.2.1 q
  · have h2' : (js[i]?.map fun j => (j.bind fun j => σ[j]?).join) = some (some v) := by rw [← List.getElem?_map]; exact h2
    cases ej : js[i]? with
    | none => rw [ej] at h2'; cases h2'
    | some j =>
      rw [ej] at h2'
      cases j with
      | none => simp at h2'
      | some j =>
        have e2 : σ[j]? = some (some v) := by
          simp only [Option.map_some, Option.bind_some, Option.some.injEq] at h2'
          cases q : σ[j]? with
          | none => rw [q] at h2'; simp at h2'
          | some z => rw [q] at h2'; simp at h2'; rw [h2']
        obtain ⟨n1, n2⟩ := S.js i j x ej h1
        have hx := lookup_mem n2
        have hk := S.free _ hx rfl
        obtain ⟨m0, _, hl⟩ := I.loc
        obtain ⟨u, r, l⟩ := hl j x v n1 e2 (hk.elim (fun z => .inr (.inl z)) fun z => .inr (.inr z))
        refine ⟨u, r, ?_⟩
        rcases l with ⟨k, _⟩ | ⟨_, c, e, z⟩
        · have k' : X.env.kindOf x = some .local := k
          rcases hk with q | q <;> (rw [show X.env.kindOf x = _ from q] at k'; cases k')
        · obtain ⟨c', e'⟩ := hasF x hx
          have := sub _ _ e'
          rw [e] at this; cases this
          exact .inr ⟨relabel_free n2, c, e', z.keeps keep⟩
  · obtain ⟨v, q⟩ := I.cell x c (sub _ _ e)
    exact ⟨v, q.keeps keep⟩
  · show upd H D _ C = none
    rw [upd_ne (Ne.symm hDC)]; exact fC
  · show upd H D _ c = none
    have hlt := clt x c (sub _ _ e)
    rw [upd_ne (Nat.ne_of_lt (Nat.lt_of_lt_of_le hlt hD0))]
    exact I.freeC x c (sub _ _ e)
  · obtain ⟨n, hD⟩ := hD
    exact ⟨Nat.zero_le _, [], n, .nil, hD⟩
  · show (innerSt js σ).length = N.length
    unfold innerSt
    rw [List.length_map, S.len]
end
noncomputable def PIfs (X : Cx) (ifs : List Expr) (t : TT) : Prop :=
  ∀ (pins : List (Addr × Obj)) (s : Shared) (σ : St) (H : Hp) (Q : Bool → Hp → Prop), Inv X pins σ H s → t σ H Q →
    wpAny (model X.prog X.w) X.A (forIn ifs true fun c r => if r = true then do let ok ← isTrue c X.env (eval c X.env); pure (ForInStep.yield ok) else pure (ForInStep.yield r)) (TP X pins σ Q) X.xe s
noncomputable def tTrue : TT := fun _ H Q => Q true H
theorem pif_nil {X : Cx} : PIfs X [] tTrue := fun _ _ _ H _ I h => wpAny_tests_nil ⟨H, I, h⟩
theorem pif_one {X : Cx} {c : Expr} {t : TT} (h : PT X c t) : PIfs X [c] t := fun pins s σ H Q I hw => wpAny_tests_one (h pins s σ H Q I hw)
theorem compLoop_gen {prog : Program} {w : World} {A : Around} {R : Result → Shared → Prop} {s : Shared} {elt target iter : Expr} {ifs : List Expr} {scope : Scope} {pos : Pos} {it acc : Value} {env : Env} (I : Nat → Shared → Prop)
    (turn : ∀ n s, I n s → wpAny (model prog w) A (pyNext it) (fun r s₁ => match r with
      | none => R (.ok .next) s₁
      | some v => wpAny (model prog w) A (letOwnedTupleGo target it v) (fun _ s₁' => wpAny (model prog w) A (assign target env v) (fun _ s₂ =>
          wpAny (model prog w) A (forIn ifs true fun c r => if r = true then do let ok ← isTrue c env (eval c env); pure (ForInStep.yield ok) else pure (ForInStep.yield r)) (fun ok s₃ =>
            if ok = true then wpAny (model prog w) A (eval elt env) (fun x s₄ =>
              wpAny (model prog w) A (call (.builtin "list.append") [acc, x]) (fun _ s₅ => ∃ m, m < n ∧ I m s₅) (fun _ _ => False) s₄) (fun _ _ => False) s₃
            else ∃ m, m < n ∧ I m s₃) (fun _ _ => False) s₂) (fun _ _ => False) s₁') (fun _ _ => False) s₁) (fun _ _ => False) s)
    (n : Nat) (h : I n s) :
    codeAny (model prog w) A (.compLoop (.ListComp elt [⟨target, iter, ifs, 0⟩] scope pos) 0 it acc env) R s := by
  refine codeAny_loop rfl I (fun n s hI => ?_) n h
  show wpAny _ A ((compTurn (.ListComp elt [⟨target, iter, ifs, 0⟩] scope pos) 0 it acc env).onRaise (fun x => do noteFrame x env; theTreesLotGoes x)) _ _ s
  refine wpAny_noted ?_
  rw [compTurn_list]
  refine wpAny_bind (wpAny_standAt (wpAny_bind (wpAny_mono (turn n s hI) (fun r s₁ h₁ => ?_) fun _ _ h' => h'.elim)))
  cases r with
  | none => exact wpAny_pure h₁
  | some v =>
    refine wpAny_bind (wpAny_mono h₁ (fun _ s₁' h₁' => ?_) fun _ _ h' => h'.elim)
    refine wpAny_bind (wpAny_mono h₁' (fun _ s₂ h₂ => wpAny_bind (wpAny_mono h₂ (fun ok s₃ h₃ => ?_) fun _ _ h' => h'.elim)) fun _ _ h' => h'.elim)
    cases ok with
    | false => exact wpAny_pure ⟨rfl, h₃⟩
    | true =>
      exact wpAny_bind (wpAny_bind (wpAny_mono h₃ (fun x s₄ h₄ => wpAny_bind (wpAny_mono h₄ (fun _ s₅ h₅ => wpAny_pure (wpAny_pure ⟨rfl, h₅⟩)) fun _ _ h' => h'.elim)) fun _ _ h' => h'.elim))
noncomputable def tComp (js : List (Option Nat)) (wi : TI) (g : TG) (tc : TT) (te : TE) : TE := fun σ H Q =>
  wi σ H fun J H1 => ∀ D, H1 D = none → ∃ W : Nat → Nat → St → Hp → Prop, (∃ m, W 0 m (innerSt js σ) (upd H1 D (.lst []))) ∧
    ∀ i m σ' H', W i m σ' H' → (J.stop i H' ∧ Q (.ref D) H') ∨ (J.go i H' ∧ ∀ x H2, J.yld i H' x H2 → g x σ' H2 fun σ2 H3 => tc σ2 H3 fun b H4 =>
      if b = true then te σ2 H4 fun v H5 => rAppend (.ref D) [v] H5 fun _ H6 => ∃ m', m' < m ∧ W (i + 1) m' σ2 H6 else ∃ m', m' < m ∧ W (i + 1) m' σ2 H4)
theorem pe_comp {X : Cx} {elt tg iter : Expr} {ifs : List Expr} {scope : Scope} {pos : Pos} {N : List Str} {js : List (Option Nat)} {wi : TI} {g : TG} {tc : TT} {te : TE} (hcalm : X.calm = true) (S : CompScope X N js scope)
    (hi : PI X tg iter wi) (hg : ∀ C s H fp, PG (compCx X N scope C s H fp) tg g) (ht : ∀ C s H fp, PIfs (compCx X N scope C s H fp) ifs tc) (he : ∀ C s H fp, PE (compCx X N scope C s H fp) elt te)
    (hs : ∀ x, foldedSetIterable iter X.env x = pure x := by intro _; rfl) : PE X (.ListComp elt [⟨tg, iter, ifs, 0⟩] scope pos) (tComp js wi g tc te) := by
  intro pins s σ H Q I h
  have hc : ∀ x ∈ scope.names, x.2 = .free → ∃ c, X.env.cells.lookup x.1 = some c := fun x hx e => I.ok.has _ (S.free x hx e)
  rw [eval_ListComp]
  refine wpAny_comprehension_free (use := none) rfl hs (clos_eq hc) S.kind S.locs (thn (hi pins s σ H _ I h) fun v s1 h1 => thn h1 fun itv s2 h2 => ?_)
  obtain ⟨it, fp, tn, J, H2, e, I2, T, st2, f2, q⟩ := h2
  subst e
  refine wpAny_newObj_type (wpAny_newFunctionEnv S.nocell (by intro y hy; simp at hy) (fun h₁ hns₁ hsb₁ => ?_) S.kind)
  dsimp only at hns₁ hsb₁ ⊢
  generalize hH2 : s2.heap.push { cls := .type "list", dict := none, data := .seq ([] : List Value).toArray } = G2 at hns₁ hsb₁ ⊢
  have hC : G2.objs.size = s2.heap.objs.size + 1 := by rw [← hH2, Heap.size_push]
  have hDC : s2.heap.objs.size ≠ G2.objs.size := by rw [hC]; exact Nat.ne_of_lt (Nat.lt_succ_self _)
  have hC0 : s2.heap.objs.size ≤ G2.objs.size := by rw [hC]; exact Nat.le_succ _
  have below : ∀ b, b < s2.heap.objs.size → b ≠ G2.objs.size := fun b hb => by rw [hC]; exact Nat.ne_of_lt (Nat.lt_succ_of_lt hb)
  have old : ∀ b o, s2.heap.get? b = some o → h₁.get? b = some o := fun b o e => hsb₁.extBut b o (below b (Heap.lt_size e)) (Heap.get?_push_of_some _ (hH2 ▸ Heap.get?_push_of_some _ e))
  have hacc : h₁.get? s2.heap.objs.size = some { cls := .type "list", data := .seq ([] : List Value).toArray } := hsb₁.extBut _ _ hDC (Heap.get?_push_of_some _ (hH2 ▸ Heap.get?_push_size _ rfl))
  have hfp : ∀ b ∈ fp, b < s2.heap.objs.size := fun b hb => by obtain ⟨o, e, _⟩ := T.obj 0 _ st2 b hb; exact Heap.lt_size e
  obtain ⟨W, ⟨m0, w0⟩, turn⟩ := q s2.heap.objs.size (I2.hok.fresh (Nat.le_refl _))
  have stat : ∀ {H' : Hp}, (∀ b ∈ fp, H' b = none) → ∀ b ∈ fp, FpOk (compCx X N scope G2.objs.size s2 H2 fp) [] H' b := fun {H'} hn b hb =>
    ⟨hn b hb, below b (hfp b hb), fun z => by
      rcases List.mem_cons.mp (I2.stkSub b z) with q | q
      · exact (f2 b hb).2.1 q
      · exact (f2 b hb).2.2.1 q, .inl hb, fun x c e => (f2 b hb).2.2.2.2.1 x c (clos_sub _ _ (fun _ _ z => by simp at z) e), fun p hp => absurd hp (by simp [compCx])⟩
  have loop : ∀ s3 : Shared, s3 = { s2 with heap := h₁, toks := s2.toks + ([] : List (Str × Value)).length } →
      codeAny (model X.prog X.w) X.A (.compLoop (.ListComp elt [⟨tg, iter, ifs, 0⟩] scope pos) 0 (.ref it) (.ref s2.heap.objs.size) (compEnvC scope (clos X.env.cells scope.names []) G2.objs.size X.env))
        (compPost (model X.prog X.w) X.A X.xe none (EP X pins σ Q) (.ref s2.heap.objs.size) G2.objs.size) s3 := by
    rintro s3 rfl
    have I3 : Inv (compCx X N scope G2.objs.size s2 H2 fp) [] (innerSt js σ) (upd H2 s2.heap.objs.size (.lst [])) { s2 with heap := h₁, toks := s2.toks + ([] : List (Str × Value)).length } :=
      inv_comp S I2 f2 hfp old (Nat.le_refl _) hC0 hDC ⟨_, hacc⟩ hns₁
    refine compLoop_gen (fun n s' => ∃ i σ' H', Inv (compCx X N scope G2.objs.size s2 H2 fp) [] σ' H' s' ∧ tn i s'.heap ∧ (∀ b ∈ fp, H' b = none) ∧ W i n σ' H') ?_ m0
      ⟨0, _, _, I3, T.keep 0 _ _ st2 fun b _ o e => old b o e, fun b hb => by rw [upd_ne (Nat.ne_of_lt (hfp b hb))]; exact (f2 b hb).1, w0⟩
    rintro n s4 ⟨i, σ4, H4, I4, st4, fr4, w4⟩
    rcases turn i n σ4 H4 w4 with ⟨stop, qn⟩ | ⟨go, step⟩
    · refine thn (T.done (compCx X N scope G2.objs.size s2 H2 fp) rfl rfl rfl hcalm i [] s4 σ4 H4 (fun _ _ => False) I4 (stat fr4) st4 stop) fun r s5 ⟨hr, I5⟩ => ?_
      subst hr
      obtain ⟨m5, n5, _⟩ := I5.loc
      refine ⟨m5, n5, fun h' sb => ?_⟩
      have hos : s5.os = s2.os := I5.os
      obtain ⟨hh, gg, dd, tt, os5⟩ := s5
      obtain rfl : os5 = s2.os := hos
      have un : Un (frs X.stack) fp H2 H4 s2.heap h' := by
        have u := I5.base
        have nC : ∀ b o, s2.heap.get? b = some o → b ≠ G2.objs.size := fun b o e => below b (Heap.lt_size e)
        exact ⟨fun b o e n hf hx => sb.extBut b o (nC b o e) (u.keep b o e n hf hx), fun b o e n hf hx => by
            obtain ⟨sl, z⟩ := u.slot b o e n hf hx
            exact ⟨sl, sb.extBut b _ (nC b o e) z⟩, u.free, fun b o e hx => by
            obtain ⟨o', z⟩ := u.there b o e hx
            exact ⟨o', sb.extBut b _ (nC b o e) z⟩, u.tups, u.frzs, u.tbls⟩
      have hok : HOk X.prog X.w H4 h' := fun b ob e => (I5.hok b ob e).stay (fun c v hcv z => sb.extBut c v (fun q => by
        rcases hcv with hcv | hcv
        · rw [← hcv, q] at e
          have := I5.free
          have this' : H4 G2.objs.size = none := this
          rw [e] at this'; cases this'
        · rw [q] at hcv
          have this' : H4 G2.objs.size = none := I5.free
          rw [hcv] at this'; cases this') z) (fun _ z => z) fun _ _ z => z
      have IE := I2.call (h' := h') (g' := gg) (d' := dd) (t' := tt) (ch := fp) un hok I5.bare fun b hb => ⟨(f2 b hb).2.2.2.1, (f2 b hb).2.1, (f2 b hb).2.2.2.2.1, (f2 b hb).2.2.2.2.2⟩
      exact ⟨.ref s2.heap.objs.size, H4, IE, rfl, qn⟩
    · refine thn (T.item (compCx X N scope G2.objs.size s2 H2 fp) rfl rfl rfl hcalm i [] s4 σ4 H4 (fun _ _ => False) I4 (stat fr4) st4 go) fun r s5 ⟨u, hr, h5⟩ => ?_
      subst hr
      refine thn h5 fun _ s6 ⟨x, H6, I6, r6, y6, st6, fr6⟩ => ?_
      have I6' := I6.pinned (stat fr6) (T.obj _ _ st6)
      refine thn (hg _ _ _ _ _ s6 σ4 H6 x u _ I6' r6 (step x H6 y6)) fun _ s7 ⟨σ7, H7, I7, q7⟩ => ?_
      refine thn (ht _ _ _ _ _ s7 σ7 H7 _ I7 q7) fun b s8 ⟨H8, I8, q8⟩ => ?_
      have again : ∀ {s9 : Shared} {H9 : Hp}, Inv (compCx X N scope G2.objs.size s2 H2 fp) ([] ++ pinsAt fp s6.heap) σ7 H9 s9 → (∃ m', m' < n ∧ W (i + 1) m' σ7 H9) → ∃ m, m < n ∧ ∃ i σ' H', Inv (compCx X N scope G2.objs.size s2 H2 fp) [] σ' H' s9 ∧ tn i s9.heap ∧ (∀ b ∈ fp, H' b = none) ∧ W i m σ' H' := fun {s9 H9} I9 ⟨m', hm, w9⟩ => by
        refine ⟨m', hm, i + 1, σ7, H9, I9.unpinned, T.keep _ _ _ st6 fun b hb o e => (I9.pin (b, o) (List.mem_append_right _ (List.mem_append_right _ (mem_pinsAt hb e)))).1, fun b hb => ?_, w9⟩
        obtain ⟨o, e, d⟩ := T.obj _ _ st6 b hb
        exact (I9.pin (b, o) (List.mem_append_right _ (List.mem_append_right _ (mem_pinsAt hb e)))).2.1
      cases b with
      | false =>
        rw [if_neg Bool.false_ne_true] at q8 ⊢
        exact again I8 q8
      | true =>
        rw [if_pos rfl] at q8 ⊢
        refine thn (he _ _ _ _ _ s8 σ7 H8 _ I8 q8) fun xv s9 ⟨xx, H9, I9, r9, q9⟩ => ?_
        refine thn (mt_append _ s9 σ7 H9 (.ref s2.heap.objs.size) [xx] (.ref s2.heap.objs.size) [xv] _ I9 rfl (.cons r9 .nil) q9) fun _ s10 ⟨_, H10, I10, _, q10⟩ => ?_
        exact again I10 q10
  exact codeAny_compStart_list (loop _ rfl) (T.self _ _ _ _ _ (T.keep 0 _ _ st2 fun b _ o e => old b o e) (loop _ rfl))
end L2
set_option Elab.async false
set_option linter.all false
set_option maxRecDepth 100000
namespace L2
open PySem PySem.Spec PyProof.Rows
theorem ObjOk.obj {P : Program} {w : World} {H : Hp} {h : Heap} {a : Addr} {o : HO} (x : ObjOk P w H h a o) : ∃ ob, h.get? a = some ob := by
  cases o with
  | lst xs => obtain ⟨_, _, _, _, e⟩ := x; exact ⟨_, e⟩
  | tup xs => obtain ⟨_, _, _, o, e, _⟩ := x; exact ⟨_, e⟩
  | dK kvs => obtain ⟨_, _, _, _, o, _, _, e, _⟩ := x; exact ⟨_, e⟩
  | dT kvs => obtain ⟨_, _, _, _, o, _, _, e, _⟩ := x; exact ⟨_, e⟩
  | set S n => obtain ⟨o, _, _, _, e, _⟩ := x; exact ⟨_, e⟩
  | ins C dx fs => obtain ⟨_, _, _, e, _⟩ := x; exact ⟨_, e⟩
  | own y => exact x
  | xd fs => obtain ⟨_, ⟨_, _, _, e, _⟩, _⟩ := x; exact ⟨_, e⟩
  | rng lo hi => obtain ⟨_, _, _, e⟩ := x; exact ⟨_, e⟩
  | frz ob u => obtain ⟨e, _⟩ := x; exact ⟨_, e⟩
  | tbl ps => exact ⟨_, (show h.get? a = some _ from x)⟩
  | met f y => exact ⟨_, (show h.get? a = some _ from x)⟩
  | ext φ => obtain ⟨_, e, _⟩ := x; exact e
noncomputable def CXW (P : Program) (w : World) : CXT := fun outer H s E e s' => ∃ (a : Addr) (cls a0 : Value) (H' : Hp) (B : Heap), e = .ref a ∧ s'.os = s.os ∧ AllBare s'.gens ∧ Un (frs outer) [] H H' s.heap s'.heap ∧ HOk P w H' B ∧
  Heap.FlyingW B outer a cls a0 s'.heap ∧ (∀ b o, s.heap.get? b = some o → H b = none → b ∉ frs outer → B.get? b = some o) ∧ (∀ b o, s.heap.get? b = some o → b ∉ frs outer → ∃ o', B.get? b = some o') ∧ E cls none H'
theorem passN {P : Program} {w : World} {X : Cx} : Passes (CXW P w) X E0 := fun _ _ _ _ _ _ _ h => by
  obtain ⟨_, _, _, _, _, _, _, _, _, _, _, _, _, hE⟩ := h
  exact hE.elim
theorem mem_frs {env : Env} {L b : Addr} {outer : List Env} (hf : env.frame = some L) : b ∈ frs (env :: outer) ↔ b = L ∨ b ∈ frs outer := by
  unfold frs
  rw [List.filterMap_cons, hf]
  exact List.mem_cons
section
variable {P : Program} {w : World} {K : PySem.W.Frag} {mg : Str → Option Value} {base : Heap} {N : List Str} {qual : Str} {scope : Scope} {f : Addr} {cd : Value} {A : Around} {outer : List Env} {s : Shared} {H : Hp} {E : XK}
  {pins : List (Addr × Obj)} {σ : St} {H1 : Hp} {s1 : Shared}
theorem cxw_out (I : Inv (cxOf (CXW P w) P w K mg base N qual scope f cd A outer s H E) pins σ H1 s1) {a : Addr} {cls a0 : Value} {H' : Hp} {B : Heap} {s2 : Shared}
    (hos : s2.os = s1.os) (hb : AllBare s2.gens) (hokB : HOk P w H' B) (hfl : Heap.FlyingW B outer a cls a0 s2.heap)
    (keepB : ∀ b o, s1.heap.get? b = some o → H1 b = none → b ∉ frs (envOfC qual scope s.heap.objs.size f cd :: outer) → B.get? b = some o)
    (thereB : ∀ b o, s1.heap.get? b = some o → b ∉ frs (envOfC qual scope s.heap.objs.size f cd :: outer) → ∃ o', B.get? b = some o')
    (up : ∀ b o, s1.heap.get? b = some o → (∀ vs, o.data ≠ .fields vs) → b ∈ frs outer → H1 b = none → ∃ sl, s2.heap.get? b = some { o with slots := sl })
    (free1 : ∀ b o, s1.heap.get? b = some o → H1 b = none → H' b = none)
    (tups : ∀ b xs, H1 b = some (.tup xs) → H' b = some (.tup xs)) (frzs : ∀ b o u, H1 b = some (.frz o u) → H' b = some (.frz o u)) (tbls : ∀ b ps, H1 b = some (.tbl ps) → ∃ more, H' b = some (.tbl (ps ++ more)))
    (hE : E cls none H') : CXW P w outer H s E (.ref a) s2 := by
  have u := I.base
  have notL : ∀ b o, s.heap.get? b = some o → b ∉ frs outer → b ∉ frs (envOfC qual scope s.heap.objs.size f cd :: outer) := fun b o e nf z => by
    rcases (mem_frs (env := envOfC qual scope s.heap.objs.size f cd) rfl).mp z with q | q
    · rw [q] at e; exact absurd (Heap.lt_size e) (Nat.lt_irrefl _)
    · exact nf q
  have inB : ∀ b o, s.heap.get? b = some o → H b = none → b ∉ frs outer → B.get? b = some o := fun b o e n nf =>
    keepB b o (u.keep b o e n nf (by simp [cxOf])) (u.free b o e n (by simp [cxOf])) (notL b o e nf)
  have thB : ∀ b o, s.heap.get? b = some o → b ∉ frs outer → ∃ o', B.get? b = some o' := fun b o e nf => by
    obtain ⟨o1, e1⟩ := u.there b o e (by simp [cxOf])
    exact thereB b o1 e1 (notL b o e nf)
  have sl : ∀ b o, s.heap.get? b = some o → H b = none → b ∈ frs outer → ∃ sl, s2.heap.get? b = some { o with slots := sl } := fun b o e n hb => by
    obtain ⟨sl1, e1⟩ := u.slot b o e n hb (by simp [cxOf])
    obtain ⟨_, o', e', nf⟩ := I.ok.funs.mem hb
    have e'' : s.heap.get? b = some o' := e'
    rw [e] at e''; cases e''
    obtain ⟨sl2, e2⟩ := up b _ e1 nf hb (u.free b o e n (by simp [cxOf]))
    exact ⟨sl2, e2⟩
  refine ⟨a, cls, a0, H', B, rfl, hos.trans I.os, hb, ⟨fun b o e n nf _ => hfl.1 b o (inB b o e n nf), fun b o e n hb _ => sl b o e n hb, fun b o e n _ => ?_, fun b o e _ => ?_, fun b xs e => tups b xs (u.tups b xs e), fun b o x e => frzs b o x (u.frzs b o x e), fun b ps e => ?_⟩, hokB, hfl, inB, thB, hE⟩
  · obtain ⟨o1, e1⟩ := u.there b o e (by simp [cxOf])
    exact free1 b o1 e1 (u.free b o e n (by simp [cxOf]))
  · by_cases hb : b ∈ frs outer
    · obtain ⟨sl, q⟩ := sl b o e (I.ok.frf b hb) hb
      exact ⟨_, q⟩
    · obtain ⟨o', q⟩ := thB b o e hb
      exact ⟨o', hfl.1 b o' q⟩
  · obtain ⟨m1, e1⟩ := u.tbls b ps e
    obtain ⟨m2, e2⟩ := tbls b _ e1
    exact ⟨m1 ++ m2, by rw [e2, Array.append_assoc]⟩
theorem passW : Passes (CXW P w) (cxOf (CXW P w) P w K mg base N qual scope f cd A outer s H E) E := by
  intro pins σ H1 s1 e s' I hx
  obtain ⟨a, cls, a0, H', B, rfl, hos, hb, un, hokB, hfl, keepB, thereB, hE⟩ := hx
  show wpAny _ _ (leaving _ (.ref a)) _ _ s'
  refine wpAny_leaves_onW (L := s.heap.objs.size) I.ok.frames rfl hfl fun h'' hfl' hup => ?_
  refine cxw_out I (s2 := { s' with heap := h'' }) hos hb hokB hfl' keepB thereB (fun b o e nf hb n => ?_) (fun b o e n => un.free b o e n (by simp)) un.tups un.frzs un.tbls hE
  obtain ⟨sl, e1⟩ := un.slot b o e n ((mem_frs (env := envOfC qual scope s.heap.objs.size f cd) rfl).mpr (.inr hb)) (by simp)
  obtain ⟨sl2, e2⟩ := hup b _ e1 nf
  exact ⟨sl2, e2⟩
theorem madeW (I : Inv (cxOf (CXW P w) P w K mg base N qual scope f cd A outer s H E) pins σ H1 s1) {h' : Heap} {a : Addr} {cls : Value} {vs : List Value} (hx : Heap.MadeExcOf s1.heap h' a cls vs) (hE : E cls none H1) :
    (cxOf (CXW P w) P w K mg base N qual scope f cd A outer s H E).xe (.ref a) { s1 with heap := h' } := by
  have hin : ∀ env ∈ (envOfC qual scope s.heap.objs.size f cd :: outer), ∀ b, env.frame = some b → b ∈ frs (envOfC qual scope s.heap.objs.size f cd :: outer) := fun env he b hb => List.mem_filterMap.mpr ⟨env, he, hb⟩
  have stk : s1.heap.FunFrames base (envOfC qual scope s.heap.objs.size f cd :: outer) := I.stack
  have fr0 : ∀ b, b ∈ frs (envOfC qual scope s.heap.objs.size f cd :: outer) → H1 b = none := I.stkFree
  show wpAny _ _ (leaving _ (.ref a)) _ _ _
  refine wpAny_leaves_madeW (base := PySem.W.hideAll s1.heap (frs (envOfC qual scope s.heap.objs.size f cd :: outer))) (h := s1.heap) (L := s.heap.objs.size) (s := { s1 with heap := h' }) I.ok.frames rfl (fun b o q => PySem.W.of_hideAll _ q) (PySem.W.funFrames_hide stk hin) hx fun h'' t x1 x2 x3 x4 => ?_
  have hg : ∀ b o, s1.heap.get? b = some o → b ∉ frs (envOfC qual scope s.heap.objs.size f cd :: outer) → (PySem.W.hideAll s1.heap (frs (envOfC qual scope s.heap.objs.size f cd :: outer))).get? b = some o := fun b o e nf => PySem.W.hideAll_get _ e nf
  refine cxw_out I (s2 := { s1 with heap := h'' }) (H' := H1) rfl I.bare (fun b ob e => (I.hok b ob e).stay (fun c v hcv z => hg c v z fun q => ?_) (fun _ z => z) fun _ _ z => z) x1 (fun b o e _ nf => hg b o e nf) (fun b o e nf => ⟨o, hg b o e nf⟩) (fun b o e nf hb n => ?_) (fun _ _ _ n => n) (fun _ _ e => e) (fun _ _ _ e => e) (fun b ps e => ⟨#[], by rw [e]; simp⟩) hE
  · have z := fr0 c q
    rcases hcv with r | r
    · rw [← r, z] at e; cases e
    · rw [z] at r; cases r
  · exact x4 b o (hx.keeps b o e) nf
theorem pown : PassesOwn (model (cxOf (CXW P w) P w K mg base N qual scope f cd A outer s H E).prog (cxOf (CXW P w) P w K mg base N qual scope f cd A outer s H E).w) (cxOf (CXW P w) P w K mg base N qual scope f cd A outer s H E).A
    (cxOf (CXW P w) P w K mg base N qual scope f cd A outer s H E).env (cxOf (CXW P w) P w K mg base N qual scope f cd A outer s H E).xe := PassesOwn.leaving
end
theorem exc_obj {K : PySem.W.Frag} {h : Heap} {C : Addr} {bmB : List Value} {newId : String} (X : K.In h) (q : PySem.W.excIn K C bmB newId = true) :
    ∃ bm N nm qn bs hdct sn sub ab col dd k0 k1 k2 k3 k5 mN, h.get? C = some (excClassObj nm qn C N bs bm hdct sn sub ab col dd k0 k1 k2 k3 k5 newId) ∧ h.Ns N mN ∧ mN "__init__" = none ∧ OwnTail h bmB bm := by
  unfold PySem.W.excIn at q
  split at q
  · rename_i dd cd sl ho
    split at q
    · rename_i C' bm k0 k1 k2 k3 n k5 hm hs
      simp only [Bool.and_eq_true, beq_iff_eq, Bool.not_eq_true'] at q
      obtain ⟨⟨⟨⟨⟨rfl, rfl⟩, hdel⟩, ht⟩, hok⟩, hni⟩ := q
      obtain ⟨nm, bs, mro, ns, qn, hd, sn, sub, ab, col, del⟩ := cd
      dsimp only at hm hdel hok hni
      subst hm hdel
      have hsl : sl = #[k0, k1, k2, k3, some (.builtin n), k5] := by
        obtain ⟨l⟩ := sl
        simp only at hs
        rw [hs]
      subst hsl
      exact ⟨bm, ns, nm, qn, bs, hd, sn, sub, ab, col, dd, k0, k1, k2, k3, k5, _, X _ _ ho, .of_isNs (PySem.W.isNs_of_in X hok), PySem.W.nsMap_none_of_in X hok hni, PySem.W.tail_of_in X ht⟩
    · cases q
  · cases q
noncomputable def tRaise (E : XK) (C : Addr) : TS := fun _ _ H => E (.ref C) none H
theorem ps_raise {P : Program} {w : World} {K : PySem.W.Frag} {mg : Str → Option Value} {base : Heap} {N : List Str} {qual : Str} {scope : Scope} {f : Addr} {cd : Value} {A : Around} {outer : List Env} {s : Shared} {H : Hp} {E : XK}
    {x msg : Str} {C : Addr} {B newId initId : String} {bmB : List Value} {np cpos pos p3 : Pos} {j : Nat} (FB : ExcBaseFacts B newId initId bmB) (q : PySem.W.excIn K C bmB newId = true)
    (hm : mg x = some (.ref C)) (hg : Gl (cxOf (CXW P w) P w K mg base N qual scope f cd A outer s H E) x) (hd : (x == ("__debug__" : Str)) = false := by decide) :
    PS (cxOf (CXW P w) P w K mg base N qual scope f cd A outer s H E) (.Raise (some (.Call (.Name x np) [.Constant (.str msg) j p3] [] cpos)) none pos) (tRaise E C) := by
  intro pins s1 σ H1 D I h
  obtain ⟨bm, Nn, nm, qn, bs, hdct, sn, sub, ab, col, dd, k0, k1, k2, k3, k5, mN, hC, hN, hni, T⟩ := exc_obj I.ok.mod.kin q
  refine wpAny_Raise_call_subT (C := C) (nm := nm) (q := qn) (N := Nn) (bs := bs) (bm := bm) (hdct := hdct) (sn := sn) (sub := sub) (ab := ab) (col := col) (dd := dd) (k0 := k0) (k1 := k1) (k2 := k2) (k3 := k3) (k5 := k5)
    FB (mN := mN) (T.hasType FB.hasBase) (I.ok.hd rfl) rfl hni (ld_glob I hg hm ⟨rfl, ?_⟩ hd)
  have ha : PA (cxOf (CXW P w) P w K mg base N qual scope f cd A outer s H E) [.Constant (.str msg) j p3] (tCons (tC (.str msg)) tNil) := pa_cons pe_str pa_nil
  have hw := ha cpos pins s1 σ H1 (fun vs H2 => vs.length = 1 ∧ H2 = H1) I ⟨rfl, rfl⟩
  refine Calls.evalArgs_plain (thn hw fun us s2 ⟨vs, H2, I2, r, hl, e2⟩ => ?_)
  subst e2
  refine ⟨rfl, ?_, I2.bk _ _ hC, hN.keeps I2.bk, T.keeps I2.bk, fun h' e hx => madeW I2 hx h⟩
  show us.length ≤ sizeLine
  rw [← r.length, hl]; decide
section
variable {P : Program} {w : World} {K : PySem.W.Frag} {mg : Str → Option Value} {base : Heap}
theorem Fun.okX {x qual : Str} {st : Stmt} {f : Addr} {fd : FuncData} {N ps : List Str} {k : Nat} {sp : Sp} (F : Fun K x qual st f fd) (S : FnScope N ps (defScope st)) (len : ∀ vs H Q E, sp vs H Q E → vs.length = ps.length)
    (hbody : ∀ (cdv : Value) (A : Around) (outer : List Env) (s : Shared) (H : Hp) (vs : List V) (Q : VK) (E : XK), Room k (A.deeper (envOfC qual (defScope st) s.heap.objs.size f cdv)) → sp vs H Q E →
      ∃ t, PSs (cxOf (CXW P w) P w K mg base N qual (defScope st) f cdv A outer s H E) (defBody st) t ∧ t { nx := fun _ H' => Q .non H', rt := Q } (start N vs) H) : FnOk P w K mg base (CXW P w) (k + 1) f fd ps sp := by
  obtain ⟨oc, od, kV, doc, pm, an, cdv, ct, osl, rfl, lk, hcd⟩ := F.ex
  exact fn_of lk hcd S len fun A outer s H vs Q E hr hsp => hbody cdv A outer s H vs Q E hr hsp
theorem Fun.okN {x qual : Str} {st : Stmt} {f : Addr} {fd : FuncData} {N ps : List Str} {k : Nat} {sp : Sp} (F : Fun K x qual st f fd) (S : FnScope N ps (defScope st)) (len : ∀ vs H Q E, sp vs H Q E → vs.length = ps.length)
    (hbody : ∀ (cdv : Value) (A : Around) (outer : List Env) (s : Shared) (H : Hp) (vs : List V) (Q : VK) (E : XK), Room k (A.deeper (envOfC qual (defScope st) s.heap.objs.size f cdv)) → sp vs H Q E →
      ∃ t, PSs (cxOf (CXW P w) P w K mg base N qual (defScope st) f cdv A outer s H E).nox (defBody st) t ∧ t { nx := fun _ H' => Q .non H', rt := Q } (start N vs) H) : FnOk P w K mg base (CXW P w) (k + 1) f fd ps sp :=
  F.okX S len fun cdv A outer s H vs Q E hr hsp => by
    obtain ⟨t, h, q⟩ := hbody cdv A outer s H vs Q E hr hsp
    exact ⟨t, h.nox, q⟩
end
end L2
set_option Elab.async false
set_option linter.all false
set_option maxRecDepth 100000
namespace L2
open PySem PySem.Spec PyProof.Rows PySem.W
structure ExcC (K : Frag) (C : Addr) : Prop where
  ga : findIn K (.ref C) "__getattribute__" = some (some (.builtin "BaseException.__getattribute__"))
  gt : findIn K (.ref C) "__getattr__" = some none
  ca : findIn K (.ref C) "__class__" = some (some (.builtin "object.__class__"))
  ob : mroIn K C (.type "object") = some true
  be : mroIn K C (.type "BaseException") = some true
  ty : typeIn K (.ref C) = some (.type "type")
theorem ExcC.cls {K : Frag} {C : Addr} (T : ExcC K C) : (clsIn K C).isSome = true := by
  have h := T.ob
  unfold mroIn at h
  cases e : clsIn K C with
  | none => rw [e] at h; cases h
  | some cd => rfl
noncomputable def ExcAt (a C : Addr) (h : Heap) : Prop := ∃ o vs, h.get? a = some o ∧ o.cls = .ref C ∧ o.data = .fields vs
section
variable {prog : Program} {w : World} {A : Around} {E : Value → Shared → Prop} {h : Heap} {g : Array GenState} {d : Drawn} {t : Nat} {os : OsState} {a C : Addr} {o : Obj} {K : Frag}
theorem exc_class_get {R : Result → Shared → Prop} (X : K.In h) (T : ExcC K C) (hx : h.get? a = some o) (hc : o.cls = .ref C) (hq : R (.ok (.ret (.ref C))) ⟨h, g, d, t, os⟩) :
    codeAny (model prog w) A (.call (.builtin "getset_descriptor.__get__") ⟨[.builtin "object.__class__", .ref a, .ref C], []⟩) R ⟨h, g, d, t, os⟩ := by
  have hT5 : (⟨h, g, d, t, os⟩ : Shared).TypeIs (.builtin "object.__class__") "getset_descriptor" := F.typeOf_object_class
  have L1 := looks_mroIn (M := model prog w) X T.ob
  refine codeAny_call_builtin F.slot_gs_get.plain F.entry_gs_get (F.slot_gs_get.check _ _ _ _ _ _ _ _ hT5 (F.args_gs_get _ _ _) ?_)
  repeat (any_goals (first | assumption | (with_reducible refine wpAny_loadPart_at hx ?_; rw [hc]) | (rw [F.owner_object_class]; with_reducible refine L1.at ?_) | wp_step))
  refine ⟨Code.quiet_builtin _ (by decide +kernel), codeAny_builtin F.entry_object_class ?_⟩
  repeat (any_goals (first | assumption | (with_reducible refine wpAny_loadPart_at hx ?_; rw [hc]) | wp_step))
theorem exc_class_entry {tk : Tok} {Q : Fin → Shared → Prop} (X : K.In h) (T : ExcC K C) (hx : h.get? a = some o) (hc : o.cls = .ref C) (hq : Q (.done (.ret (.ref C))) ⟨h, g, d, t, os⟩) :
    wpAny (model prog w) A (Builtin.«object.__getattribute__» ⟨[.ref a, .str "__class__" tk], []⟩) Q E ⟨h, g, d, t, os⟩ := by
  have hT5 : (⟨h, g, d, t, os⟩ : Shared).TypeIs (.builtin "object.__class__") "getset_descriptor" := F.typeOf_object_class
  have f5 := F.typeOf_object_class
  have f6 := F.slot_gs_get.lookup
  have f7 := F.slot_gs_set.lookup
  have L1 := looks_findIn (M := model prog w) X T.ca
  repeat (any_goals (first | assumption | (with_reducible refine wpAny_loadPart_at hx ?_; rw [hc]) | with_reducible refine L1.at ?_ | wp_step))
  refine exc_class_get X T hx hc ?_
  repeat (any_goals (first | assumption | wp_step))
theorem exc_check_ga {M : Model} {nameV : Value} {Q : Unit → Shared → Prop} (X : K.In h) (T : ExcC K C) (hx : h.get? a = some o) (hc : o.cls = .ref C) (hq : Q () ⟨h, g, d, t, os⟩) :
    wpAny M A (checkBuiltinCall "BaseException.__getattribute__" ⟨[.ref a, nameV], []⟩) Q E ⟨h, g, d, t, os⟩ := by
  have hk : builtinKind "BaseException.__getattribute__" = some .slot := by decide +kernel
  have hsplit : splitId "BaseException.__getattribute__" = some ("BaseException", "__getattribute__") := by decide +kernel
  have ha := F.args_bexc_ga (.ref a) nameV
  have L1 := looks_mroIn (M := M) X T.be
  simp only [checkBuiltinCall, hk, hsplit]
  refine wpAny_bind ?_
  · unfold isInstance
    repeat (first | (with_reducible refine wpAny_loadPart_at hx ?_; rw [hc]) | with_reducible refine L1.at ?_ | wp_step)
    exact hq
theorem exc_class_by {tk : Tok} {Q : Value → Shared → Prop} (X : K.In h) (T : ExcC K C) (hx : h.get? a = some o) (hc : o.cls = .ref C) (hq : Q (.ref C) ⟨h, g, d, t, os⟩) :
    wpAny (model prog w) A (getAttrBy (.ref a) (.str "__class__" tk) false) Q E ⟨h, g, d, t, os⟩ := by
  have FB := PySem.F.attrBase_ValueError
  have f3 := FB.ga.bind (.ref a)
  have hx0 : (false && onTheHeap (Value.builtin "BaseException.__getattribute__")) = false := rfl
  have hx2 : (Value.builtin "BaseException.__getattribute__" == Value.builtin "object.__getattribute__") = false := by decide +kernel
  have hx1 : (onTheHeap (Value.ref C) && Value.builtin "BaseException.__getattribute__" == Value.builtin "object.__getattribute__") = false := by rw [hx2]; rfl
  have L1 := looks_findIn (M := model prog w) X T.ga
  have L2 := looks_findIn (M := model prog w) X T.gt
  repeat (any_goals (first | assumption | (with_reducible refine wpAny_loadPart_at hx ?_; rw [hc]) | with_reducible refine L1.at ?_ | with_reducible refine L2.at ?_ | wp_step))
  refine codeAny_call_builtin FB.ga.plain F.entry_bexc_ga (exc_check_ga X T hx hc (exc_class_entry X T hx hc ?_))
  repeat (any_goals (first | assumption | wp_step))
theorem exc_class_attr {Q : Option Value → Shared → Prop} (X : K.In h) (T : ExcC K C) (hx : h.get? a = some o) (hc : o.cls = .ref C) (hq : Q (some (.ref C)) ⟨h, g, d, t + 1, os⟩) :
    wpAny (model prog w) A (getAttr? (.ref a) "__class__") Q E ⟨h, g, d, t, os⟩ := by
  unfold getAttr? getAttrBy?
  repeat (any_goals (first | assumption | with_reducible apply exc_class_by X T hx hc | wp_step))
end
theorem kitx_exc {K : Frag} {a C : Addr} (T : ExcC K C) : KitX K (.ref a) (.ref C) (ExcAt a C) where
  ty := fun M h _ p => by
    obtain ⟨o, vs, h1, h2, _⟩ := p
    exact h2 ▸ (Looks.ld h1).andThen .now
  it := fun _ _ X _ => by
    obtain ⟨cdD, hcD⟩ := Option.isSome_iff_exists.mp T.cls
    unfold clsIn at hcD
    split at hcD
    · rename_i c' d' cd' sl' ho
      intro A' Q' E' s' k q
      unfold isType loadHead
      exact wpAny_bind (wpAny_loadPart (k _ _ (X _ _ ho)) (wpAny_pure q))
    · cases hcD
  ne := fun h tp dd its n sl X htp => by
    obtain ⟨cdD, hcD⟩ := Option.isSome_iff_exists.mp T.cls
    refine Bool.eq_false_iff.mpr fun q => ?_
    have e : C = tp := Value.ref.inj (beq_iff_eq.mp q)
    subst e
    unfold clsIn at hcD
    split at hcD
    · rename_i c' d' cd' sl' ho
      have z := (X _ _ ho).symm.trans htp
      cases z
    · cases hcD
  ca := fun {_ _ _ _ _ s} X p k => by
    obtain ⟨o, vs, h1, h2, _⟩ := p
    obtain ⟨hh, g, d, t, os⟩ := s
    exact exc_class_attr X T h1 h2 k
noncomputable def excO (a C : Addr) : HO := .ext (ExcAt a C)
inductive TyX (K : Frag) (H : Hp) : V → Value → Prop where
  | of {x : V} {t : Value} (h : TyOf K H x t) : TyX K H x t
  | exc {a C : Addr} (T : ExcC K C) (e : H a = some (excO a C)) : TyX K H (.ref a) (.ref C)
theorem isinst_x {X : Cx} {pins : List (Addr × Obj)} {σ : St} {H : Hp} {s : Shared} {A : Around} {E : Value → Shared → Prop} {Q : Value → Shared → Prop} {c : Value} {b : Bool} {x : V} {u t : Value} (I : Inv X pins σ H s) (rx : RelV x u) (ty : TyX X.K H x t)
    (e : kitOne X.K t c = some b) (h : ∀ tk, Q (.bool b) { s with toks := tk }) : wpAny (model X.prog X.w) A (call (.builtin "isinstance") [u, c]) Q E s := by
  cases ty with
  | of ty => exact isinst_ok I rx ty e h
  | @exc a C T ea =>
    cases (show u = Value.ref a from rx)
    obtain ⟨p, _, _⟩ := (show ObjOk X.prog X.w H s.heap a (excO a C) from I.hok a _ ea)
    exact kia_one (kitx_exc T) I.kIn p e (fun z => nomatch z) h
noncomputable def clsV : V → Option Value
  | .ref a => some (.ref a)
  | .ty n => some (.type n)
  | _ => none
theorem clsV_rel {x : V} {c u : Value} (h : clsV x = some c) (r : RelV x u) : u = c := by
  cases x with
  | ref a => cases h; exact r
  | ty n => cases h; exact r
  | _ => cases h
noncomputable def rIsi (K : Frag) : List V → Hp → VK → Prop := fun xs H Q => ∃ x t vc c b, xs = [x, vc] ∧ TyX K H x t ∧ clsV vc = some c ∧ kitOne K t c = some b ∧ Q (.bl b) H
theorem call_isi {X : Cx} : CallR X (.builtin "isinstance") (rIsi X.K) := by
  intro pins s σ H xs us Q I rv h
  obtain ⟨x, t, vc, c, b, rfl, ty, rc, e, q⟩ := h
  obtain ⟨u, v, rfl, r1, r2⟩ := rv.two
  rw [clsV_rel rc r2]
  exact isinst_x I r1 ty e fun tk => ⟨.bl b, H, I.tok _, rfl, q⟩
end L2
set_option Elab.async false
set_option linter.all false
set_option maxRecDepth 100000
namespace L2
open PySem PySem.Spec PyProof.Rows PySem.W
section
variable {X : Cx} {CX : CXT} {k : Nat} {f : Addr} {fd : FuncData} {ps : List Str} {sp : Sp} {dvs : List V} {ds : List Value} {E : XK} {x : Str} {p pos : Pos} {e : Expr} {es : List Expr} {te : TE} {t : TA} {pins : List (Addr × Obj)} {σ : St} {ta tb : TS}
end
noncomputable abbrev hdCx (X : Cx) (a : Addr) : Cx := { X with A := X.A.mark (some (.ref a)), calm := false, xe := fun _ _ => False }
theorem Inv.hd {X : Cx} {pins : List (Addr × Obj)} {σ : St} {H : Hp} {s : Shared} {a : Addr} (I : Inv X pins σ H s) : Inv (hdCx X a) pins σ H s :=
  ⟨⟨I.ok.mod, I.ok.kind, I.ok.glob, I.ok.blt, I.ok.above, I.ok.inj, I.ok.has, I.ok.cab, fun z => Bool.noConfusion z, I.ok.frames, I.ok.stk, I.ok.exf, I.ok.bs, I.ok.bsz, I.ok.noex, I.ok.exfs, I.ok.funs, I.ok.frf⟩, I.os, I.bare, I.base, I.loc, I.cell, I.free, I.freeC, I.pin, I.hok, I.len⟩
end L2
set_option Elab.async false
set_option linter.all false
set_option maxRecDepth 100000
namespace L2
open PySem PySem.Spec PyProof.Rows PySem.W
inductive DV where
  | non | bl (b : Bool) | int (i : Int) | str (x : Str) | lst (xs : List DV) | tup (xs : List DV)
mutual
noncomputable def eqD : DV → DV → Bool
  | .non, .non => true
  | .bl a, .bl b => a == b
  | .bl a, .int b => (if a then 1 else 0) == b
  | .int a, .bl b => a == (if b then 1 else 0)
  | .int a, .int b => a == b
  | .str a, .str b => a == b
  | .lst a, .lst b => eqDs a b
  | .tup a, .tup b => eqDs a b
  | _, _ => false
noncomputable def eqDs : List DV → List DV → Bool
  | [], [] => true
  | a :: r, b :: t => eqD a b && eqDs r t
  | _, _ => false
end
mutual
noncomputable def ht : DV → Nat
  | .lst xs => hts xs + 1
  | .tup xs => hts xs + 1
  | _ => 0
noncomputable def hts : List DV → Nat
  | [] => 0
  | a :: r => max (ht a) (hts r)
end
theorem ht_lst (ds : List DV) : ht (.lst ds) = hts ds + 1 := by unfold ht; rfl
theorem ht_tup (ds : List DV) : ht (.tup ds) = hts ds + 1 := by unfold ht; rfl
mutual
inductive Deep (K : Frag) (H : Hp) : V → DV → Prop where
  | non : Deep K H .non .non
  | bl (b : Bool) : Deep K H (.bl b) (.bl b)
  | int (i : Int) : Deep K H (.int i) (.int i)
  | str (x : Str) : Deep K H (.str x) (.str x)
  | lst {a : Addr} {xs : List V} {ds : List DV} (h : SqL K H a xs) (t : Deeps K H xs ds) : Deep K H (.ref a) (.lst ds)
  | tup {a : Addr} {xs : List V} {ds : List DV} (h : SqT K H a xs) (t : Deeps K H xs ds) : Deep K H (.ref a) (.tup ds)
inductive Deeps (K : Frag) (H : Hp) : List V → List DV → Prop where
  | nil : Deeps K H [] []
  | cons {x : V} {d : DV} {xs : List V} {ds : List DV} (h : Deep K H x d) (t : Deeps K H xs ds) : Deeps K H (x :: xs) (d :: ds)
end
theorem Deeps.length {K : Frag} {H : Hp} : ∀ {xs : List V} {ds : List DV}, Deeps K H xs ds → xs.length = ds.length
  | _, _, .nil => rfl
  | _, _, .cons _ t => by rw [List.length_cons, List.length_cons, Deeps.length t]
theorem Deeps.get {K : Frag} {H : Hp} : ∀ {xs : List V} {ds : List DV} {i : Nat} {d : DV}, Deeps K H xs ds → ds[i]? = some d → ∃ x, xs[i]? = some x ∧ Deep K H x d
  | _, _, _, _, .nil, e => by simp at e
  | _, _, 0, _, .cons h _, e => by simp at e; subst e; exact ⟨_, rfl, h⟩
  | _, _, i + 1, d, .cons _ t, e => by
    obtain ⟨x, h1, h2⟩ := Deeps.get (i := i) (d := d) t (by simpa using e)
    exact ⟨x, by simpa using h1, h2⟩
theorem Deeps.ints {K : Frag} {H : Hp} : ∀ ns : List Int, Deeps K H (ns.map V.int) (ns.map DV.int)
  | [] => .nil
  | n :: r => .cons (.int n) (Deeps.ints r)
theorem eqDs_len : ∀ {a b : List DV}, eqDs a b = true → a.length = b.length
  | [], [], _ => rfl
  | a :: r, b :: t, h => by
    unfold eqDs at h
    rw [Bool.and_eq_true] at h
    rw [List.length_cons, List.length_cons, eqDs_len h.2]
  | [], _ :: _, h => by unfold eqDs at h; cases h
  | _ :: _, [], h => by unfold eqDs at h; cases h
noncomputable def eAt (ds es : List DV) (j : Nat) : Bool := match ds[j]?, es[j]? with
  | some d, some e => eqD d e
  | _, _ => true
theorem all_eAt : ∀ (ds es : List DV), ds.length = es.length → (List.range ds.length).all (eAt ds es) = eqDs ds es
  | [], [], _ => by unfold eqDs; rfl
  | d :: r, e :: t, h => by
    have ih := all_eAt r t (by simpa using h)
    rw [List.length_cons, List.range_succ_eq_map, List.all_cons, List.all_map]
    unfold eqDs
    rw [← ih]
    congr 1
  | [], _ :: _, h => by cases h
  | _ :: _, [], h => by cases h
theorem all_eAt_min : ∀ (ds es : List DV), ((List.range (min ds.length es.length)).all (eAt ds es) && ds.length == es.length) = eqDs ds es := fun ds es => by
  by_cases h : ds.length = es.length
  · rw [h, Nat.min_self, ← h, all_eAt ds es h]; simp
  · have h1 : (ds.length == es.length) = false := by simpa using h
    rw [h1, Bool.and_false]
    cases q : eqDs ds es with
    | false => rfl
    | true => exact absurd (eqDs_len q) h
theorem hts_get : ∀ {ds : List DV} {i : Nat} {d : DV}, ds[i]? = some d → ht d ≤ hts ds
  | [], _, _, e => by simp at e
  | a :: r, 0, d, e => by simp at e; subst e; unfold hts; exact Nat.le_max_left _ _
  | a :: r, i + 1, d, e => by
    have := hts_get (ds := r) (i := i) (d := d) (by simpa using e)
    unfold hts; exact Nat.le_trans this (Nat.le_max_right _ _)
section
variable {X : Cx} {pins : List (Addr × Obj)} {σ : St} {H : Hp} {s : Shared}
theorem lt_ne {a : Addr} {xs ys : List V} (I : Inv X pins σ H s) (h1 : SqL X.K H a xs) (h2 : SqT X.K H a ys) : False := by
  obtain ⟨its, _, p, _⟩ := I.list h1
  obtain ⟨its2, _, q, _⟩ := I.tuple h2
  exact SeqAt.ne_of_list_tuple p.isList (show s.heap.IsTuple a its2.toArray from q) rfl
mutual
theorem Deep.inj (I : Inv X pins σ H s) : ∀ {d : DV} {x : V} {e : DV}, Deep X.K H x d → Deep X.K H x e → d = e
  | .non, _, _, .non, h => by cases h; rfl
  | .bl b, _, _, .bl _, h => by cases h; rfl
  | .int b, _, _, .int _, h => by cases h; rfl
  | .str b, _, _, .str _, h => by cases h; rfl
  | .lst ds, _, _, .lst h t, h' => by
    cases h' with
    | lst h2 t2 =>
      have e := I.list_inj h h2
      subst e
      rw [Deeps.inj I t t2]
    | tup h2 t2 => exact (lt_ne I h h2).elim
  | .tup ds, _, _, .tup h t, h' => by
    cases h' with
    | tup h2 t2 =>
      have e := I.tuple_inj h h2
      subst e
      rw [Deeps.inj I t t2]
    | lst h2 t2 => exact (lt_ne I h2 h).elim
theorem Deeps.inj (I : Inv X pins σ H s) : ∀ {ds : List DV} {xs : List V} {es : List DV}, Deeps X.K H xs ds → Deeps X.K H xs es → ds = es
  | [], _, _, .nil, h => by cases h; rfl
  | d :: ds, _, _, .cons h t, h' => by
    cases h' with
    | cons h2 t2 => rw [Deep.inj I h h2, Deeps.inj I t t2]
end
mutual
theorem eqD_refl : ∀ d : DV, eqD d d = true
  | .non => by unfold eqD; rfl
  | .bl b => by unfold eqD; simp
  | .int b => by unfold eqD; simp
  | .str b => by unfold eqD; simp
  | .lst ds => by unfold eqD; exact eqDs_refl ds
  | .tup ds => by unfold eqD; exact eqDs_refl ds
theorem eqDs_refl : ∀ ds : List DV, eqDs ds ds = true
  | [] => by unfold eqDs; rfl
  | d :: r => by unfold eqDs; rw [eqD_refl d, eqDs_refl r]; rfl
end
theorem items_eq {A : Around} {xs ys : List V} {us vs : List Value} {ds es : List DV} (rx : Vals xs us) (ry : Vals ys vs) (t1 : Deeps X.K H xs ds) (t2 : Deeps X.K H ys es)
    (ih : ∀ d ∈ ds, ∀ (e : DV) (x y : V) (u v : Value), Deep X.K H x d → Deep X.K H y e → RelV x u → RelV y v → SeqAt.EqAt A s u v (eqD d e)) (j : Nat) (h1 : j < us.toArray.size) (h2 : j < vs.toArray.size) :
    SeqAt.EqAt A s us.toArray[j] vs.toArray[j] (eAt ds es j) := by
  have l1 := rx.length
  have l2 := ry.length
  have m1 := t1.length
  have m2 := t2.length
  simp only [List.size_toArray] at h1 h2
  have g1 : ds[j]? = some ds[j] := List.getElem?_eq_getElem (by trivial)
  have g2 : es[j]? = some es[j] := List.getElem?_eq_getElem (by trivial)
  obtain ⟨x, ex, dx⟩ := t1.get g1
  obtain ⟨y, ey, dy⟩ := t2.get g2
  obtain ⟨u, eu, ru⟩ := rx.get ex
  obtain ⟨v, ev, rv⟩ := ry.get ey
  have e1 : us.toArray[j] = u := by
    rw [List.getElem_toArray]
    exact Option.some.inj ((List.getElem?_eq_getElem h1).symm.trans eu)
  have e2 : vs.toArray[j] = v := by
    rw [List.getElem_toArray]
    exact Option.some.inj ((List.getElem?_eq_getElem h2).symm.trans ev)
  have e3 : eAt ds es j = eqD ds[j] es[j] := by unfold eAt; rw [g1, g2]
  rw [e1, e2, e3]
  exact ih _ (List.getElem_mem _) _ x y u v dx dy ru rv
theorem rc_deep (I : Inv X pins σ H s) {A : Around} (d e : DV) (x y : V) (u v : Value) (hx : Deep X.K H x d) (hy : Deep X.K H y e) (rx : RelV x u) (ry : RelV y v) (hu : A.units < cLine)
    (ih : ∀ (d' : DV), ht d' < ht d → ∀ (e : DV) (x y : V) (u v : Value), Deep X.K H x d' → Deep X.K H y e → RelV x u → RelV y v → SeqAt.EqAt A.in1 s u v (eqD d' e)) : SeqAt.RcAt A s u v (eqD d e) := by
  have hlt : ∀ {ds : List DV} {d' : DV}, d' ∈ ds → ht d' < hts ds + 1 := fun {ds d'} hm => by
    obtain ⟨i, hi, e⟩ := List.getElem_of_mem hm
    exact Nat.lt_succ_of_le (hts_get (i := i) (by rw [List.getElem?_eq_getElem hi, e]))
  cases hx with
  | non =>
    cases (show u = Value.none from rx)
    cases hy with
    | non => cases (show v = Value.none from ry); unfold eqD; exact SeqAt.RcAt.none_none
    | bl b => cases (show v = Value.bool b from ry); unfold eqD; exact SeqAt.RcAt.none_bool b
    | int b => obtain ⟨t, rfl⟩ := ry; unfold eqD; exact SeqAt.RcAt.none_int b t
    | str b => obtain ⟨t, rfl⟩ := ry; unfold eqD; exact SeqAt.RcAt.none_str b t
    | lst h t => cases ry; obtain ⟨its, r, p, _⟩ := I.list h; unfold eqD; exact SeqAt.RcAt.none_list p.isList hu
    | tup h t => cases ry; obtain ⟨its, r, p, _⟩ := I.tuple h; unfold eqD; exact SeqAt.RcAt.none_tuple (show s.heap.IsTuple _ its.toArray from p) hu
  | bl a =>
    cases (show u = Value.bool a from rx)
    cases hy with
    | non => cases (show v = Value.none from ry); unfold eqD; exact SeqAt.RcAt.bool_none a
    | bl b => cases (show v = Value.bool b from ry); unfold eqD; exact SeqAt.RcAt.bool_bool a b
    | int b => obtain ⟨t, rfl⟩ := ry; unfold eqD; exact SeqAt.RcAt.bool_int a b t
    | str b => obtain ⟨t, rfl⟩ := ry; unfold eqD; exact SeqAt.RcAt.bool_str a b t
    | lst h t => cases ry; obtain ⟨its, r, p, _⟩ := I.list h; unfold eqD; exact SeqAt.RcAt.bool_list a p.isList hu
    | tup h t => cases ry; obtain ⟨its, r, p, _⟩ := I.tuple h; unfold eqD; exact SeqAt.RcAt.bool_tuple a (show s.heap.IsTuple _ its.toArray from p) hu
  | int a =>
    obtain ⟨t', rfl⟩ := rx
    cases hy with
    | non => cases (show v = Value.none from ry); unfold eqD; exact SeqAt.RcAt.int_none a t'
    | bl b => cases (show v = Value.bool b from ry); unfold eqD; exact SeqAt.RcAt.int_bool a t' b
    | int b => obtain ⟨t, rfl⟩ := ry; unfold eqD; exact SeqAt.RcAt.int_int a t' b t
    | str b => obtain ⟨t, rfl⟩ := ry; unfold eqD; exact SeqAt.RcAt.int_str a t' b t
    | lst h t => cases ry; obtain ⟨its, r, p, _⟩ := I.list h; unfold eqD; exact SeqAt.RcAt.int_list a t' p.isList hu
    | tup h t => cases ry; obtain ⟨its, r, p, _⟩ := I.tuple h; unfold eqD; exact SeqAt.RcAt.int_tuple a t' (show s.heap.IsTuple _ its.toArray from p) hu
  | str a =>
    obtain ⟨t', rfl⟩ := rx
    cases hy with
    | non => cases (show v = Value.none from ry); unfold eqD; exact SeqAt.RcAt.str_none a t'
    | bl b => cases (show v = Value.bool b from ry); unfold eqD; exact SeqAt.RcAt.str_bool a t' b
    | int b => obtain ⟨t, rfl⟩ := ry; unfold eqD; exact SeqAt.RcAt.str_int a t' b t
    | str b => obtain ⟨t, rfl⟩ := ry; unfold eqD; exact SeqAt.RcAt.str_str a t' b t
    | lst h t => cases ry; obtain ⟨its, r, p, _⟩ := I.list h; unfold eqD; exact SeqAt.RcAt.str_list a t' p.isList hu
    | tup h t => cases ry; obtain ⟨its, r, p, _⟩ := I.tuple h; unfold eqD; exact SeqAt.RcAt.str_tuple a t' (show s.heap.IsTuple _ its.toArray from p) hu
  | @lst a xs ds h t1 =>
    cases rx
    obtain ⟨its, r, p, _⟩ := I.list h
    cases hy with
    | non => cases (show v = Value.none from ry); unfold eqD; exact SeqAt.RcAt.list_none p.isList hu
    | bl b => cases (show v = Value.bool b from ry); unfold eqD; exact SeqAt.RcAt.list_bool b p.isList hu
    | int b => obtain ⟨t, rfl⟩ := ry; unfold eqD; exact SeqAt.RcAt.list_int b t p.isList hu
    | str b => obtain ⟨t, rfl⟩ := ry; unfold eqD; exact SeqAt.RcAt.list_str b t p.isList hu
    | @lst b ys es h2 t2 =>
      cases ry
      obtain ⟨its2, r2, p2, _⟩ := I.list h2
      have l1 := r.length
      have l2 := r2.length
      have m1 := t1.length
      have m2 := t2.length
      have it := items_eq (A := A.in1) r r2 t1 t2 fun d' hd' e x y u v a b c d => ih d' (by rw [ht_lst]; exact hlt hd') e x y u v a b c d
      unfold eqD
      by_cases hl : ds.length = es.length
      · have q := SeqAt.RcAt.lists (e := eAt ds es) p.isList p2.isList (by simp only [List.size_toArray]; trivial) hu it
        rw [← all_eAt ds es hl]
        have e1 : its.toArray.size = ds.length := by simp only [List.size_toArray]; trivial
        rw [e1] at q
        exact q
      · have q := SeqAt.RcAt.lists_lengths (A := A) p.isList p2.isList (by simp only [List.size_toArray, bne_iff_ne]; trivial) hu
        cases z : eqDs ds es with
        | false => exact q
        | true => exact absurd (eqDs_len z) hl
    | @tup b ys es h2 t2 =>
      cases ry
      obtain ⟨its2, r2, p2, _⟩ := I.tuple h2
      unfold eqD
      exact SeqAt.RcAt.list_tuple p.isList (show s.heap.IsTuple b its2.toArray from p2) hu
  | @tup a xs ds h t1 =>
    cases rx
    obtain ⟨its, r, p, _⟩ := I.tuple h
    have p' : s.heap.IsTuple a its.toArray := p
    cases hy with
    | non => cases (show v = Value.none from ry); unfold eqD; exact SeqAt.RcAt.tuple_none p' hu
    | bl b => cases (show v = Value.bool b from ry); unfold eqD; exact SeqAt.RcAt.tuple_bool b p' hu
    | int b => obtain ⟨t, rfl⟩ := ry; unfold eqD; exact SeqAt.RcAt.tuple_int b t p' hu
    | str b => obtain ⟨t, rfl⟩ := ry; unfold eqD; exact SeqAt.RcAt.tuple_str b t p' hu
    | @lst b ys es h2 t2 =>
      cases ry
      obtain ⟨its2, r2, p2, _⟩ := I.list h2
      unfold eqD
      exact SeqAt.RcAt.tuple_list p' p2.isList hu
    | @tup b ys es h2 t2 =>
      cases ry
      obtain ⟨its2, r2, p2, _⟩ := I.tuple h2
      have p2' : s.heap.IsTuple b its2.toArray := p2
      have l1 := r.length
      have l2 := r2.length
      have m1 := t1.length
      have m2 := t2.length
      have it := items_eq (A := A.in1) r r2 t1 t2 fun d' hd' e x y u v a b c d => ih d' (by rw [ht_tup]; exact hlt hd') e x y u v a b c d
      unfold eqD
      have q := SeqAt.RcAt.tuples (e := eAt ds es) p' p2' hu it
      have e1 : its.toArray.size = ds.length := by simp only [List.size_toArray]; trivial
      have e2 : its2.toArray.size = es.length := by simp only [List.size_toArray]; trivial
      rw [e1, e2, all_eAt_min] at q
      exact q
theorem eq_deep (I : Inv X pins σ H s) : ∀ (n : Nat) {A : Around} (d : DV), ht d ≤ n → A.units + n < cLine → ∀ (e : DV) (x y : V) (u v : Value), Deep X.K H x d → Deep X.K H y e → RelV x u → RelV y v → SeqAt.EqAt A s u v (eqD d e) := by
  intro n
  induction n with
  | zero =>
    intro A d hd hu e x y u v hx hy rx ry
    have rc := rc_deep I (A := A) d e x y u v hx hy rx ry (by trivial) (fun d' h => absurd h (by trivial))
    exact eq_of_rc I hx hy rx ry rc
  | succ n ihn =>
    intro A d hd hu e x y u v hx hy rx ry
    have rc := rc_deep I (A := A) d e x y u v hx hy rx ry (by trivial) (fun d' h => ihn (A := A.in1) d' (by trivial) (by rw [Around.in1_units]; trivial))
    exact eq_of_rc I hx hy rx ry rc
where
  eq_of_rc (I : Inv X pins σ H s) {A : Around} {d e : DV} {x y : V} {u v : Value} (hx : Deep X.K H x d) (hy : Deep X.K H y e) (rx : RelV x u) (ry : RelV y v) (rc : SeqAt.RcAt A s u v (eqD d e)) : SeqAt.EqAt A s u v (eqD d e) := by
    intro prog w E Q hq
    unfold eqBool
    refine wpAny_holding ?_
    refine wpAny_ite_split (fun hab => ?_) (fun hab => ?_)
    · have e1 : x = y := by
        have e0 := eq_of_beq hab
        rw [e0] at rx
        exact rx.inj ry
      subst e1
      have e2 := Deep.inj I hx hy
      subst e2
      rw [eqD_refl] at hq
      exact wpAny_bind (wpAny_rule (wpAny_pure hq))
    · cases hx <;> cases hy <;> first
        | (cases rx; cases ry; exact wpAny_bind (rc prog w E _ (wpAny_truthy_bool hq)))
        | (obtain ⟨t, rfl⟩ := rx; cases ry; exact wpAny_bind (rc prog w E _ (wpAny_truthy_bool hq)))
        | (cases rx; obtain ⟨t, rfl⟩ := ry; exact wpAny_bind (rc prog w E _ (wpAny_truthy_bool hq)))
        | (obtain ⟨t, rfl⟩ := rx; obtain ⟨t', rfl⟩ := ry; exact wpAny_bind (rc prog w E _ (wpAny_truthy_bool hq)))
theorem rcne_deep (I : Inv X pins σ H s) {A : Around} (d e : DV) (x y : V) (u v : Value) (hx : Deep X.K H x d) (hy : Deep X.K H y e) (rx : RelV x u) (ry : RelV y v) (hu : A.units < cLine)
    (ih : ∀ (d' : DV), ht d' < ht d → ∀ (e : DV) (x y : V) (u v : Value), Deep X.K H x d' → Deep X.K H y e → RelV x u → RelV y v → SeqAt.EqAt A.in1 s u v (eqD d' e)) : SeqAt.RcNeAt A s u v (!eqD d e) := by
  have hlt : ∀ {ds : List DV} {d' : DV}, d' ∈ ds → ht d' < hts ds + 1 := fun {ds d'} hm => by
    obtain ⟨i, hi, e⟩ := List.getElem_of_mem hm
    exact Nat.lt_succ_of_le (hts_get (i := i) (by rw [List.getElem?_eq_getElem hi, e]))
  cases hx with
  | non =>
    cases (show u = Value.none from rx)
    cases hy with
    | non => cases (show v = Value.none from ry); unfold eqD; exact SeqAt.RcNeAt.none_none
    | bl b => cases (show v = Value.bool b from ry); unfold eqD; exact SeqAt.RcNeAt.none_bool b
    | int b => obtain ⟨t, rfl⟩ := ry; unfold eqD; exact SeqAt.RcNeAt.none_int b t
    | str b => obtain ⟨t, rfl⟩ := ry; unfold eqD; exact SeqAt.RcNeAt.none_str b t
    | lst h t => cases ry; obtain ⟨its, r, p, _⟩ := I.list h; unfold eqD; exact SeqAt.RcNeAt.none_list p.isList hu
    | tup h t => cases ry; obtain ⟨its, r, p, _⟩ := I.tuple h; unfold eqD; exact SeqAt.RcNeAt.none_tuple (show s.heap.IsTuple _ its.toArray from p) hu
  | bl a =>
    cases (show u = Value.bool a from rx)
    cases hy with
    | non => cases (show v = Value.none from ry); unfold eqD; exact SeqAt.RcNeAt.bool_none a
    | bl b => cases (show v = Value.bool b from ry); unfold eqD; exact SeqAt.RcNeAt.bool_bool a b
    | int b => obtain ⟨t, rfl⟩ := ry; unfold eqD; exact SeqAt.RcNeAt.bool_int a b t
    | str b => obtain ⟨t, rfl⟩ := ry; unfold eqD; exact SeqAt.RcNeAt.bool_str a b t
    | lst h t => cases ry; obtain ⟨its, r, p, _⟩ := I.list h; unfold eqD; exact SeqAt.RcNeAt.bool_list a p.isList hu
    | tup h t => cases ry; obtain ⟨its, r, p, _⟩ := I.tuple h; unfold eqD; exact SeqAt.RcNeAt.bool_tuple a (show s.heap.IsTuple _ its.toArray from p) hu
  | int a =>
    obtain ⟨t', rfl⟩ := rx
    cases hy with
    | non => cases (show v = Value.none from ry); unfold eqD; exact SeqAt.RcNeAt.int_none a t'
    | bl b => cases (show v = Value.bool b from ry); unfold eqD; exact SeqAt.RcNeAt.int_bool a t' b
    | int b => obtain ⟨t, rfl⟩ := ry; unfold eqD; exact SeqAt.RcNeAt.int_int a t' b t
    | str b => obtain ⟨t, rfl⟩ := ry; unfold eqD; exact SeqAt.RcNeAt.int_str a t' b t
    | lst h t => cases ry; obtain ⟨its, r, p, _⟩ := I.list h; unfold eqD; exact SeqAt.RcNeAt.int_list a t' p.isList hu
    | tup h t => cases ry; obtain ⟨its, r, p, _⟩ := I.tuple h; unfold eqD; exact SeqAt.RcNeAt.int_tuple a t' (show s.heap.IsTuple _ its.toArray from p) hu
  | str a =>
    obtain ⟨t', rfl⟩ := rx
    cases hy with
    | non => cases (show v = Value.none from ry); unfold eqD; exact SeqAt.RcNeAt.str_none a t'
    | bl b => cases (show v = Value.bool b from ry); unfold eqD; exact SeqAt.RcNeAt.str_bool a t' b
    | int b => obtain ⟨t, rfl⟩ := ry; unfold eqD; exact SeqAt.RcNeAt.str_int a t' b t
    | str b => obtain ⟨t, rfl⟩ := ry; unfold eqD; exact SeqAt.RcNeAt.str_str a t' b t
    | lst h t => cases ry; obtain ⟨its, r, p, _⟩ := I.list h; unfold eqD; exact SeqAt.RcNeAt.str_list a t' p.isList hu
    | tup h t => cases ry; obtain ⟨its, r, p, _⟩ := I.tuple h; unfold eqD; exact SeqAt.RcNeAt.str_tuple a t' (show s.heap.IsTuple _ its.toArray from p) hu
  | @lst a xs ds h t1 =>
    cases rx
    obtain ⟨its, r, p, _⟩ := I.list h
    cases hy with
    | non => cases (show v = Value.none from ry); unfold eqD; exact SeqAt.RcNeAt.list_none p.isList hu
    | bl b => cases (show v = Value.bool b from ry); unfold eqD; exact SeqAt.RcNeAt.list_bool b p.isList hu
    | int b => obtain ⟨t, rfl⟩ := ry; unfold eqD; exact SeqAt.RcNeAt.list_int b t p.isList hu
    | str b => obtain ⟨t, rfl⟩ := ry; unfold eqD; exact SeqAt.RcNeAt.list_str b t p.isList hu
    | @lst b ys es h2 t2 =>
      cases ry
      obtain ⟨its2, r2, p2, _⟩ := I.list h2
      have l1 := r.length
      have l2 := r2.length
      have m1 := t1.length
      have m2 := t2.length
      have it := items_eq (A := A.in1) r r2 t1 t2 fun d' hd' e x y u v a b c d => ih d' (by rw [ht_lst]; exact hlt hd') e x y u v a b c d
      unfold eqD
      by_cases hl : ds.length = es.length
      · have q := SeqAt.RcNeAt.lists (e := eAt ds es) p.isList p2.isList (by simp only [List.size_toArray]; trivial) hu it
        rw [← all_eAt ds es hl]
        have e1 : its.toArray.size = ds.length := by simp only [List.size_toArray]; trivial
        rw [e1] at q
        exact q
      · have q := SeqAt.RcNeAt.lists_lengths (A := A) p.isList p2.isList (by simp only [List.size_toArray, bne_iff_ne]; trivial) hu
        cases z : eqDs ds es with
        | false => exact q
        | true => exact absurd (eqDs_len z) hl
    | @tup b ys es h2 t2 =>
      cases ry
      obtain ⟨its2, r2, p2, _⟩ := I.tuple h2
      unfold eqD
      exact SeqAt.RcNeAt.list_tuple p.isList (show s.heap.IsTuple b its2.toArray from p2) hu
  | @tup a xs ds h t1 =>
    cases rx
    obtain ⟨its, r, p, _⟩ := I.tuple h
    have p' : s.heap.IsTuple a its.toArray := p
    cases hy with
    | non => cases (show v = Value.none from ry); unfold eqD; exact SeqAt.RcNeAt.tuple_none p' hu
    | bl b => cases (show v = Value.bool b from ry); unfold eqD; exact SeqAt.RcNeAt.tuple_bool b p' hu
    | int b => obtain ⟨t, rfl⟩ := ry; unfold eqD; exact SeqAt.RcNeAt.tuple_int b t p' hu
    | str b => obtain ⟨t, rfl⟩ := ry; unfold eqD; exact SeqAt.RcNeAt.tuple_str b t p' hu
    | @lst b ys es h2 t2 =>
      cases ry
      obtain ⟨its2, r2, p2, _⟩ := I.list h2
      unfold eqD
      exact SeqAt.RcNeAt.tuple_list p' p2.isList hu
    | @tup b ys es h2 t2 =>
      cases ry
      obtain ⟨its2, r2, p2, _⟩ := I.tuple h2
      have p2' : s.heap.IsTuple b its2.toArray := p2
      have l1 := r.length
      have l2 := r2.length
      have m1 := t1.length
      have m2 := t2.length
      have it := items_eq (A := A.in1) r r2 t1 t2 fun d' hd' e x y u v a b c d => ih d' (by rw [ht_tup]; exact hlt hd') e x y u v a b c d
      unfold eqD
      have q := SeqAt.RcNeAt.tuples (e := eAt ds es) p' p2' hu it
      have e1 : its.toArray.size = ds.length := by simp only [List.size_toArray]; trivial
      have e2 : its2.toArray.size = es.length := by simp only [List.size_toArray]; trivial
      rw [e1, e2, all_eAt_min] at q
      exact q
end
noncomputable def rEqD (K : Frag) : R2 := fun x y H Q => ∃ d e, Deep K H x d ∧ Deep K H y e ∧ ht d ≤ 60 ∧ Q (.bl (eqD d e)) H
theorem op_eqD {X : Cx} (hu : X.A.units + 64 < cLine) : OpR X (compareOp .Eq) (rEqD X.K) := by
  intro pins s σ H x y v u Q I rx ry h
  obtain ⟨d, e, hx, hy, hh, q⟩ := h
  have rc := rc_deep I (A := X.A) d e x y v u hx hy rx ry (by trivial) (fun d' h => eq_deep I 60 d' (by trivial) (by rw [Around.in1_units]; trivial))
  exact rc X.prog X.w X.xe _ ⟨.bl _, H, I, rfl, q⟩
noncomputable def rNeD (K : Frag) : R2 := fun x y H Q => ∃ d e, Deep K H x d ∧ Deep K H y e ∧ ht d ≤ 60 ∧ Q (.bl (!eqD d e)) H
theorem op_neD {X : Cx} (hu : X.A.units + 64 < cLine) : OpR X (compareOp .NotEq) (rNeD X.K) := by
  intro pins s σ H x y v u Q I rx ry h
  obtain ⟨d, e, hx, hy, hh, q⟩ := h
  have rc := rcne_deep I (A := X.A) d e x y v u hx hy rx ry (by trivial) (fun d' h => eq_deep I 60 d' (by trivial) (by rw [Around.in1_units]; trivial))
  exact rc X.prog X.w X.xe _ ⟨.bl _, H, I, rfl, q⟩
end L2
set_option Elab.async false
set_option linter.all false
set_option maxRecDepth 100000
namespace L2
open PySem PySem.Spec PyProof.Rows PySem.W
noncomputable def compOk (osc : Scope) (XN N : List Str) (js : List (Option Nat)) (scope : Scope) : Bool :=
  scope.names.all (fun y => !(y.2 == NameKind.cell)) && scope.names.all (fun y => !(y.2 == NameKind.local) || scope.names.lookup y.1 == some .local) &&
  scope.names.all (fun y => !(y.2 == NameKind.free) || osc.names.lookup y.1 == some .cell || osc.names.lookup y.1 == some .free) && js.length == N.length &&
  (js.zip N).all (fun p => match p.1 with | none => true | some j => XN[j]? == some p.2 && scope.names.lookup p.2 == some .free)
theorem comp_scope {X : Cx} {N : List Str} {js : List (Option Nat)} {scope : Scope} {osc : Scope} {XN : List Str} (hk : scope.kind = .function) (e1 : X.env.scope = osc) (e2 : X.N = XN) (h : compOk osc XN N js scope = true) : CompScope X N js scope := by
  unfold compOk at h
  simp only [Bool.and_eq_true, List.all_eq_true, Bool.or_eq_true, Bool.not_eq_true', beq_iff_eq] at h
  obtain ⟨⟨⟨⟨h1, h2⟩, h3⟩, h4⟩, h5⟩ := h
  refine ⟨hk, fun y hy z => ?_, fun y hy z => ?_, fun y hy z => ?_, h4, fun i j x ej ex => ?_⟩
  · have := h1 y hy
    rw [z] at this; cases this
  · rcases h2 y hy with q | q
    · rw [z] at q; cases q
    · exact q
  · show X.env.scope.names.lookup y.1 = _ ∨ X.env.scope.names.lookup y.1 = _
    rw [e1]
    rcases h3 y hy with (q | q) | q
    · rw [z] at q; cases q
    · exact .inl q
    · exact .inr q
  · have hm : (some j, x) ∈ js.zip N := by
      refine List.mem_iff_getElem?.mpr ⟨i, ?_⟩
      rw [List.getElem?_zip_eq_some]
      exact ⟨ej, ex⟩
    have q := h5 _ hm
    simp only [Bool.and_eq_true, beq_iff_eq] at q
    rw [e2]
    exact q
noncomputable def CW (n : Nat) (Pv : Nat → St → Hp → Prop) (i m : Nat) (σ : St) (H : Hp) : Prop := m = n - i ∧ i ≤ n ∧ Pv i σ H
theorem CW.next {n : Nat} {Pv : Nat → St → Hp → Prop} {i : Nat} {σ : St} {H : Hp} (hi : i < n) (h : Pv (i + 1) σ H) : ∃ m', m' < n - i ∧ CW n Pv (i + 1) m' σ H := ⟨n - (i + 1), by trivial, rfl, hi, h⟩
theorem comp_rng {lo : Int} {n : Nat} {D : Addr} {σ0 : St} {H1 : Hp} {Q : VK} {g : TG} {tc : TT} {te : TE} (Pv : Nat → St → Hp → Prop) (h0 : Pv 0 σ0 (upd H1 D (.lst [])))
    (hs : ∀ i σ' H', i < n → Pv i σ' H' → g (.int (lo + i)) σ' H' fun σ2 H3 => tc σ2 H3 fun b H4 => if b = true then te σ2 H4 fun v H5 => rAppend (.ref D) [v] H5 fun _ H6 => ∃ m', m' < n - i ∧ CW n Pv (i + 1) m' σ2 H6 else ∃ m', m' < n - i ∧ CW n Pv (i + 1) m' σ2 H4)
    (hd : ∀ σ' H', Pv n σ' H' → Q (.ref D) H') :
    ∃ W : Nat → Nat → St → Hp → Prop, (∃ m, W 0 m σ0 (upd H1 D (.lst []))) ∧ ∀ i m σ' H', W i m σ' H' → ((Itr lo n).stop i H' ∧ Q (.ref D) H') ∨ ((Itr lo n).go i H' ∧ ∀ x H2, (Itr lo n).yld i H' x H2 → g x σ' H2 fun σ2 H3 => tc σ2 H3 fun b H4 =>
      if b = true then te σ2 H4 fun v H5 => rAppend (.ref D) [v] H5 fun _ H6 => ∃ m', m' < m ∧ W (i + 1) m' σ2 H6 else ∃ m', m' < m ∧ W (i + 1) m' σ2 H4) := by
  refine ⟨CW n Pv, ⟨n, rfl, Nat.zero_le _, h0⟩, ?_⟩
  rintro i m σ' H' ⟨rfl, hi, p⟩
  by_cases hlt : i < n
  · refine .inr ⟨hlt, fun x H2 y => ?_⟩
    obtain ⟨e, y⟩ := y
    subst e y
    exact hs i σ' _ hlt p
  · have e : i = n := by trivial
    subst e
    exact .inl ⟨Nat.le_refl _, hd σ' H' p⟩
theorem comp_lst {K : Frag} {a : Addr} {xs : List V} {D : Addr} {σ0 : St} {H1 : Hp} {Q : VK} {g : TG} {tc : TT} {te : TE} (Pv : Nat → St → Hp → Prop) (h0 : Pv 0 σ0 (upd H1 D (.lst []))) (hl : ∀ i σ H, i ≤ xs.length → Pv i σ H → SqL K H a xs)
    (hs : ∀ i x σ' H', xs[i]? = some x → Pv i σ' H' → g x σ' H' fun σ2 H3 => tc σ2 H3 fun b H4 => if b = true then te σ2 H4 fun v H5 => rAppend (.ref D) [v] H5 fun _ H6 => ∃ m', m' < xs.length - i ∧ CW xs.length Pv (i + 1) m' σ2 H6 else ∃ m', m' < xs.length - i ∧ CW xs.length Pv (i + 1) m' σ2 H4)
    (hd : ∀ σ' H', Pv xs.length σ' H' → Q (.ref D) H') :
    ∃ W : Nat → Nat → St → Hp → Prop, (∃ m, W 0 m σ0 (upd H1 D (.lst []))) ∧ ∀ i m σ' H', W i m σ' H' → ((Itl K a).stop i H' ∧ Q (.ref D) H') ∨ ((Itl K a).go i H' ∧ ∀ x H2, (Itl K a).yld i H' x H2 → g x σ' H2 fun σ2 H3 => tc σ2 H3 fun b H4 =>
      if b = true then te σ2 H4 fun v H5 => rAppend (.ref D) [v] H5 fun _ H6 => ∃ m', m' < m ∧ W (i + 1) m' σ2 H6 else ∃ m', m' < m ∧ W (i + 1) m' σ2 H4) := by
  refine ⟨CW xs.length Pv, ⟨xs.length, rfl, Nat.zero_le _, h0⟩, ?_⟩
  rintro i m σ' H' ⟨rfl, hi, p⟩
  have q := hl i σ' H' hi p
  by_cases hlt : i < xs.length
  · refine .inr ⟨⟨xs, xs[i], q, by simp [hlt]⟩, fun x H2 y => ?_⟩
    obtain ⟨e, y⟩ := y
    subst e
    exact hs i x σ' _ (y xs q) p
  · have e : i = xs.length := by trivial
    subst e
    exact .inl ⟨⟨xs, q, Nat.le_refl _⟩, hd σ' H' p⟩
theorem eqDs_ints : ∀ (a b : List Int), eqDs (a.map DV.int) (b.map DV.int) = decide (a = b)
  | [], [] => by unfold eqDs; rfl
  | [], _ :: _ => by simp [eqDs]
  | _ :: _, [] => by simp [eqDs]
  | x :: r, y :: t => by
    rw [List.map_cons, List.map_cons]
    unfold eqDs eqD
    rw [eqDs_ints r t]
    by_cases h : x = y <;> by_cases h2 : r = t <;> simp [h, h2]
theorem hts_ints : ∀ a : List Int, hts (a.map DV.int) = 0
  | [] => by unfold hts; rfl
  | x :: r => by rw [List.map_cons]; unfold hts ht; rw [hts_ints r]; rfl
noncomputable def rEqI (K : Frag) : R2 := fun x y H Q => ∃ (a b : Addr) (ns ms : List Int), x = .ref a ∧ y = .ref b ∧ SqL K H a (ns.map V.int) ∧ SqL K H b (ms.map V.int) ∧ Q (.bl (decide (ns = ms))) H
noncomputable def rNeI (K : Frag) : R2 := fun x y H Q => ∃ (a b : Addr) (ns ms : List Int), x = .ref a ∧ y = .ref b ∧ SqL K H a (ns.map V.int) ∧ SqL K H b (ms.map V.int) ∧ Q (.bl (!decide (ns = ms))) H
theorem op_eqL {X : Cx} (hu : X.A.units + 64 < cLine) : OpR X (compareOp .Eq) (rEqI X.K) := by
  intro pins s σ H x y v u Q I rx ry h
  obtain ⟨a, b, ns, ms, rfl, rfl, h1, h2, q⟩ := h
  refine op_eqD hu pins s σ H _ _ v u Q I rx ry ⟨_, _, .lst h1 (Deeps.ints ns), .lst h2 (Deeps.ints ms), ?_, ?_⟩
  · unfold ht; rw [hts_ints]; decide
  · unfold eqD; rw [eqDs_ints]; exact q
theorem op_neL {X : Cx} (hu : X.A.units + 64 < cLine) : OpR X (compareOp .NotEq) (rNeI X.K) := by
  intro pins s σ H x y v u Q I rx ry h
  obtain ⟨a, b, ns, ms, rfl, rfl, h1, h2, q⟩ := h
  refine op_neD hu pins s σ H _ _ v u Q I rx ry ⟨_, _, .lst h1 (Deeps.ints ns), .lst h2 (Deeps.ints ms), ?_, ?_⟩
  · unfold ht; rw [hts_ints]; decide
  · unfold eqD; rw [eqDs_ints]; exact q
theorem units_of {A : Around} {k : Nat} (hr : Room k A) : A.units + 64 < cLine := by have := hr.un; trivial
noncomputable def rIndex (K : Frag) : V → List V → Hp → VK → Prop := fun x vs H Q => ∃ (p : Addr) (pre : List Int) (k : Int) (post : List Int), x = .ref p ∧ vs = [.int k] ∧ SqL K H p ((pre ++ k :: post).map V.int) ∧ k ∉ pre ∧ Q (.int (pre.length : Nat)) H
theorem mt_index {X : Cx} : MtR X "list.index" (rIndex X.K) := by
  intro pins s σ H x vs v us Q I rx rv h
  obtain ⟨p, pre, k, post, rfl, rfl, hs, hn, q⟩ := h
  cases rx
  obtain ⟨u, rfl, ru⟩ := rv.one
  obtain ⟨t, rfl⟩ := ru
  obtain ⟨its, r, pl, hz⟩ := I.list hs
  obtain ⟨⟨oc, od, dt, sl⟩, n, e, hc, hdn, hdt⟩ := id pl
  dsimp only at hc hdn hdt
  subst hc hdn hdt
  have hl := r.length
  rw [List.length_map, List.length_append, List.length_cons] at hl hz
  have fl : ((pre ++ k :: post).map V.int).all flatV = true := by
    rw [List.all_eq_true]
    intro y hy
    obtain ⟨z, _, rfl⟩ := List.mem_map.mp hy
    rfl
  have at' : ∀ (j : Nat) (z : Int), (pre ++ k :: post)[j]? = some z → ∀ (h : j < its.toArray.size), eqU (.int k) its.toArray[j] = (z == k) := fun j z ez h => by
    obtain ⟨u, eu, ru⟩ := r.get (i := j) (x := .int z) (by rw [List.getElem?_map, ez]; rfl)
    have e1 : its.toArray[j] = u := by
      rw [List.getElem_toArray]
      exact Option.some.inj ((List.getElem?_eq_getElem (by simpa using h)).symm.trans eu)
    rw [e1, eqU_of ru rfl]; rfl
  refine call_meets F.slot_list_index ⟨_, e, rfl⟩ F.entry_list_index (F.args_list_index_2 _ _) (SeqAt.list_indexAt p its.toArray n none sl (.int k t) (eqU (.int k)) pre.length (by rw [List.size_toArray]; trivial) ?_ ?_ ?_) ⟨e, fun y hy => mem_eqAt (x := .int k) ⟨t, rfl⟩ rfl r fl y (by simpa using hy), ?_⟩
  · have h24 : sizeLine = 16777216 := by decide
    trivial
  · rw [at' pre.length k (by rw [List.getElem?_append_right (Nat.le_refl _)]; simp)]
    simp
  · intro m hm hlt
    have hp : m < pre.length := hlt
    rw [at' m pre[m] (by rw [List.getElem?_append_left hp, List.getElem?_eq_getElem hp])]
    have : pre[m] ≠ k := fun z => hn (z ▸ List.getElem_mem hp)
    simpa using this
  · exact ⟨.int _, H, I.tok _, ⟨_, rfl⟩, q⟩
theorem nameT {j : Nat} {v : V} {σ : St} {H : Hp} {A B : St → Hp → Prop} (h : A (σ.set j (some v)) H) : gName j v σ H (fun σ2 H3 => tTrue σ2 H3 (fun b H4 => if b = true then A σ2 H4 else B σ2 H4)) := by
  show if true = true then A (σ.set j (some v)) H else B (σ.set j (some v)) H
  exact iteT h
end L2
namespace PH
end PH
set_option Elab.async false
set_option linter.all false
set_option maxRecDepth 100000
set_option maxHeartbeats 4000000
namespace PH
open PySem L2 PySem.W
theorem same_new {H : Hp} {p : Addr} (h : H p = none) (o : HO) : Same H (upd H p o) := fun b u q => by rw [upd_ne (ne_of_none q h)]; exact q
noncomputable def deckO (a b c : Int) : HO := .lst [.int a, .int b, .int c]
noncomputable def lsI (ns : List Int) : HO := .lst (ns.map V.int)
theorem int_at {ns : List Int} {i : Nat} {y : V} (h : (ns.map V.int)[i]? = some y) : ∃ z, y = V.int z ∧ ns[i]? = some z := by
  rw [List.getElem?_map] at h
  cases e : ns[i]? with
  | none => rw [e] at h; cases h
  | some z => rw [e] at h; exact ⟨z, (Option.some.inj h).symm, rfl⟩
theorem take_at {α : Type} {ns : List α} {i : Nat} {z : α} (h : ns[i]? = some z) : ns.take (i + 1) = ns.take i ++ [z] := by rw [List.take_add_one, h]; rfl
theorem cut_to {α : Type} {f : Int → V} (ns : List Int) (k : Nat) : cutV (ns.map f) none (some (k : Int)) = (ns.take k).map f := by
  unfold cutV
  rw [HT.sIx_none, HT.sIx_nat, List.drop_zero, Nat.sub_zero, List.length_map, ← List.map_take]
  congr 1
  rcases Nat.le_total k ns.length with h | h
  · rw [Nat.min_eq_left h]
  · rw [Nat.min_eq_right h, List.take_of_length_le (Nat.le_refl _), List.take_of_length_le h]
abbrev bmV : List Value := [.type "ValueError", .type "Exception", .type "BaseException", .type "object"]
structure Ex (K : Frag) (mg : Str → Option Value) (x : Str) (C : Addr) : Prop where
  mg : mg x = some (.ref C)
  ex : excIn K C bmV "ValueError.__new__" = true
  cl : ExcC K C
theorem kit_refl (K : Frag) (t : Value) : kitOne K t t = some true := by unfold kitOne; rw [if_pos (beq_self_eq_true t)]
theorem kit_ib (K : Frag) : kitOne K (.type "int") (.type "bool") = some false := by rfl
theorem boot_isi : bootBuiltins "isinstance" = some (.builtin "isinstance") := by decide +kernel
theorem boot_list' : bootBuiltins "list" = some (.type "list") := by decide +kernel
theorem boot_int' : bootBuiltins "int" = some (.type "int") := by decide +kernel
theorem boot_bool' : bootBuiltins "bool" = some (.type "bool") := by decide +kernel
theorem boot_max' : bootBuiltins "max" = some (.builtin "max") := by decide +kernel
structure Bl (mg : Str → Option Value) : Prop where
  isi : mg "isinstance" = none
  list : mg "list" = none
  int : mg "int" = none
  bool : mg "bool" = none
  len : mg "len" = none
  range : mg "range" = none
  max : mg "max" = none
  ve : mg "ValueError" = none
theorem cut_from (ns : List Int) (k : Nat) : cutV (ns.map V.int) (some (k : Int)) none = (ns.drop k).map V.int := by
  unfold cutV
  rw [HT.sIx_none, HT.sIx_nat, List.length_map]
  rcases Nat.le_total k ns.length with h | h
  · rw [Nat.min_eq_left h, ← List.map_drop, List.take_of_length_le (by rw [List.length_map, List.length_drop]; exact Nat.le_refl _)]
  · rw [Nat.min_eq_right h, Nat.sub_self, List.take_zero, List.drop_of_length_le h]; rfl
theorem rep_ints (m : Nat) (x : Int) : (List.replicate m [V.int x]).flatten = (List.replicate m x).map V.int := by
  induction m with
  | zero => rfl
  | succ m ih => rw [List.replicate_succ, List.replicate_succ, List.flatten_cons, List.map_cons, ih]; rfl
noncomputable def spLaw (K : PySem.W.Frag) : Sp := fun vs H Q _ => ∃ (a : Addr) (ns : List Int), vs = [.ref a] ∧ SqL K H a (ns.map V.int) ∧ ns.length ≤ 63 ∧ ∀ H', Q (.bl true) H'
theorem fits {n : Nat} (h : n ≤ 1000000) : n ≤ sizeLine := by
  have : sizeLine = 16777216 := by decide
  trivial
theorem fits_lt {n : Nat} (h : n ≤ 1000000) : n < sizeLine := by
  have : sizeLine = 16777216 := by decide
  trivial
end PH
namespace PH
end PH
set_option Elab.async false
set_option linter.all false
set_option maxRecDepth 100000
namespace L2
open PySem PySem.Spec PyProof.Rows PySem.W
noncomputable def Itrs (lo c : Int) (n : Nat) : It := ⟨fun i _ => i < n, fun i H x H' => H' = H ∧ x = .int (lo + i * c), fun i _ => n ≤ i⟩
theorem turn_rangeS {P : Program} {w : World} {K : PySem.W.Frag} {tg : Expr} (it : Addr) (lo c : Int) (n : Nat) : Turn P w K tg (Itrs lo c n) [it] it (fun i h => IsRangeIter h it (lo + (i : Nat) * c) ((n : Int) - (i : Nat)) c) where
  mem := by simp
  obj := fun i h st b hb => by
    have e : b = it := by simpa using hb
    subst e
    exact ⟨_, st, fun v z => by
      have z' : Data.fields _ = Data.cell v := z
      cases z'⟩
  keep := fun i h h' st k => k it (by simp) _ st
  item := by
    intro X hP hw hK hc i pins s σ H E I hf st hg
    subst hP hw hK
    obtain ⟨f0, f1, f2, f3, f4, f5⟩ := hf it (by simp)
    have W := Walks.range (prog := X.prog) (w := X.w) (I.ok.hd hc) it lo c n
    refine W.item i s _ _ hg st fun v h' tk hv st' kk => ?_
    obtain ⟨t, rfl⟩ := hv
    have I1 : Inv X pins σ H { s with heap := h', toks := tk } := I.turned (fun b o hb e => kk b o (by simpa using hb) e) f0 f1 f3 f4 f5
    exact ⟨_, rfl, go_of (s := { s with heap := h', toks := tk }) (n := "range_iterator") st' rfl rfl (by decide) ⟨.int (lo + i * c), H, I1, ⟨t, rfl⟩, ⟨rfl, rfl⟩, st', fun b hb => (hf b hb).1⟩⟩
  done := by
    intro X hP hw hK hc i pins s σ H E I hf st hg
    subst hP hw hK
    obtain ⟨f0, f1, f2, f3, f4, f5⟩ := hf it (by simp)
    exact wpAny_pyNext_range_end (I.ok.hd hc) st (by have : n ≤ i := hg; trivial) fun h' eb => ⟨rfl, I.turned (t' := s.toks) (fun b o hb e => eb b o hb e) f0 f1 f3 f4 f5⟩
  self := fun _ _ _ _ _ st h => wpAny_pyIter_rangeiter st h
theorem rangeSize_nn (a b c : Int) : 0 ≤ Builtin.Range.rangeSize a b c := by
  unfold Builtin.Range.rangeSize
  split
  · split
    · have := Int.ediv_nonneg (a := b - a - 1) (b := c) (by trivial) (by trivial)
      trivial
    · trivial
  · split
    · by_cases hc : c = 0
      · subst hc; simp
      · have := Int.ediv_nonneg (a := a - b - 1) (b := -c) (by trivial) (by trivial)
        trivial
    · trivial
section
variable {X : Cx} {tg : Expr}
theorem range_itS {pins : List (Addr × Obj)} {σ : St} {H : Hp} {s : Shared} {R : It → Hp → Prop} {E : Value → Shared → Prop} {lo hi c : Int} {t u v : Tok} {tk : Nat} (I : Inv X pins σ H s) (h1 : Builtin.Range.small lo hi c = true)
    (q : R (Itrs lo c (Builtin.Range.rangeSize lo hi c).toNat) H) : wpAny (model X.prog X.w) X.A (pyIter (.ref s.heap.objs.size)) (PIE X pins σ tg R) E { s with heap := s.heap.push { cls := .type "range", data := .fields #[.int lo t, .int hi u, .int c v] }, toks := tk } := by
  refine wpAny_pyIter_range (IsRange.new ..) h1 ?_
  have I1 : Inv X pins σ H { s with heap := s.heap.push { cls := .type "range", data := .fields #[.int lo t, .int hi u, .int c v] }, toks := tk } := I.kept fun b o e => Heap.get?_push_of_some _ e
  refine ⟨(s.heap.push { cls := .type "range", data := .fields #[.int lo t, .int hi u, .int c v] }).objs.size, [(s.heap.push { cls := .type "range", data := .fields #[.int lo t, .int hi u, .int c v] }).objs.size], _, _, H, rfl,
    I1.kept (t' := tk) fun b o e => Heap.get?_push_of_some _ e, turn_rangeS _ lo c (Builtin.Range.rangeSize lo hi c).toNat, ?_, fun b hb => ?_, q⟩
  · have e1 : lo + ((0 : Nat) : Int) * c = lo := by simp
    have e2 : (((Builtin.Range.rangeSize lo hi c).toNat : Nat) : Int) - ((0 : Nat) : Int) = Builtin.Range.rangeSize lo hi c := by have := rangeSize_nn lo hi c; trivial
    show IsRangeIter _ _ (lo + ((0 : Nat) : Int) * c) ((((Builtin.Range.rangeSize lo hi c).toNat : Nat) : Int) - ((0 : Nat) : Int)) c
    rw [e1, e2]
    exact Heap.get?_push_size _ rfl
  · have e : b = (s.heap.push { cls := .type "range", data := .fields #[.int lo t, .int hi u, .int c v] }).objs.size := by simpa using hb
    subst e
    exact I1.fpOk (Nat.le_refl _) (I1.hok.fresh (Nat.le_refl _))
noncomputable def iRng3 (ta : TA) : TI := fun σ H R => ta σ H fun vs H1 => ∃ i j c : Int, vs = [.int i, .int j, .int c] ∧ (c ≠ 0 ∧ c.natAbs < 1073741824) ∧ Builtin.Range.small i j c = true ∧ R (Itrs i c (Builtin.Range.rangeSize i j c).toNat) H1
theorem pi_range3 {a b d : Expr} {ta : TA} {p pos : Pos} (hg : Gl X "range") (hm : X.mg "range" = none) (ha : PA X [a, b, d] ta) (hs : starEach [a, b, d] X.env = (false, eval a X.env) :: starEach [b, d] X.env := by rfl) (hpl : (backTo pos (starEach [b, d] X.env)).any (·.1) = false := by rfl) :
    PI X tg (.Call (.Name "range" p) [a, b, d] [] pos) (iRng3 ta) := by
  intro pins s σ H R I h
  refine Call_ (ld_blt I hg hm boot_range (PyProof.Rows.callWith_type1 (thn (ha pos pins s σ H _ I h) fun us s1 ⟨vs, H1, I1, r1, q1⟩ => ?_) hs hpl))
  obtain ⟨i, j, c, e, ⟨c0, c1⟩, sm, q⟩ := q1
  subst e
  cases r1 with
  | cons r rr =>
    cases rr with
    | cons r' rr =>
      cases rr with
      | cons r'' rr =>
        cases rr
        obtain ⟨t, rfl⟩ := r
        obtain ⟨t', rfl⟩ := r'
        obtain ⟨t'', rfl⟩ := r''
        exact call_range_3 c0 (range_itS (tk := s1.toks) I1 sm q) (.inl (PyProof.noPylong_small c1))
end
theorem for_rangeS {lo c : Int} {n : Nat} {g : TG} {tb : TS} {D : Ends} {σ : St} {H : Hp} (Pv : Nat → St → Hp → Prop) (h0 : Pv 0 σ H)
    (hs : ∀ i σ H, i < n → Pv i σ H → g (.int (lo + i * c)) σ H fun σ2 H2 => tb { D with nx := Pv (i + 1), ct := Pv (i + 1), bk := D.nx } σ2 H2) (hd : ∀ σ H, Pv n σ H → D.nx σ H) :
    ∃ W : Nat → Nat → St → Hp → Prop, (∃ m, W 0 m σ H) ∧ ∀ i m σ H, W i m σ H →
      ((Itrs lo c n).stop i H ∧ D.nx σ H) ∨ ((Itrs lo c n).go i H ∧ ∃ N : St → Hp → Prop, (∀ σ' H', N σ' H' → ∃ m', m' < m ∧ W (i + 1) m' σ' H') ∧ ∀ x H', (Itrs lo c n).yld i H x H' → g x σ H' fun σ2 H2 => tb { D with nx := N, ct := N, bk := D.nx } σ2 H2) := by
  refine ⟨fun i m σ H => m = n - i ∧ i ≤ n ∧ Pv i σ H, ⟨n, by simp, Nat.zero_le _, h0⟩, ?_⟩
  rintro i m σ H ⟨rfl, hi, p⟩
  by_cases hlt : i < n
  · refine .inr ⟨hlt, Pv (i + 1), fun σ' H' p' => ⟨n - (i + 1), by trivial, rfl, hlt, p'⟩, fun x H' y => ?_⟩
    obtain ⟨e, y⟩ := y
    subst e y
    exact hs i σ _ hlt p
  · have e : i = n := by trivial
    subst e
    exact .inl ⟨Nat.le_refl _, hd σ H p⟩
theorem small_step {a b : Int} {c : Int} (ha : -(2 ^ 61) ≤ a) (ha' : a < 2 ^ 61) (hb : -(2 ^ 61) ≤ b) (hb' : b < 2 ^ 61) (hc : 1 ≤ c) (hc' : c < 2 ^ 60) : Builtin.Range.small a b c = true := by
  have h0 := rangeSize_nn a b c
  have h1 : Builtin.Range.rangeSize a b c ≤ 2 ^ 62 := by
    unfold Builtin.Range.rangeSize
    rw [if_pos (by trivial)]
    split
    · have : (b - a - 1) / c ≤ b - a - 1 := Int.ediv_le_self _ (by trivial)
      trivial
    · decide
  unfold Builtin.Range.small
  simp only [Builtin.Range.rangeFitsLong, Bool.and_eq_true, Bool.or_eq_true, decide_eq_true_eq, beq_iff_eq]
  rw [if_pos (show c > 0 by trivial)]
  simp only [Bool.and_eq_true, decide_eq_true_eq]
  trivial
theorem comp_rngQ {lo : Int} {n : Nat} {D : Addr} {σ0 : St} {H1 : Hp} {Qd : Hp → Prop} {g : TG} {tc : TT} {te : TE} (Pv : Nat → St → Hp → Prop) (h0 : Pv 0 σ0 (upd H1 D (.lst [])))
    (hs : ∀ i σ' H', i < n → Pv i σ' H' → g (.int (lo + i)) σ' H' fun σ2 H3 => tc σ2 H3 fun b H4 => if b = true then te σ2 H4 fun v H5 => rAppend (.ref D) [v] H5 fun _ H6 => ∃ m', m' < n - i ∧ CW n Pv (i + 1) m' σ2 H6 else ∃ m', m' < n - i ∧ CW n Pv (i + 1) m' σ2 H4)
    (hd : ∀ σ' H', Pv n σ' H' → Qd H') :
    ∃ W : Nat → Nat → St → Hp → Prop, (∃ m, W 0 m σ0 (upd H1 D (.lst []))) ∧ ∀ i m σ' H', W i m σ' H' → ((Itr lo n).stop i H' ∧ Qd H') ∨ ((Itr lo n).go i H' ∧ ∀ x H2, (Itr lo n).yld i H' x H2 → g x σ' H2 fun σ2 H3 => tc σ2 H3 fun b H4 =>
      if b = true then te σ2 H4 fun v H5 => rAppend (.ref D) [v] H5 fun _ H6 => ∃ m', m' < m ∧ W (i + 1) m' σ2 H6 else ∃ m', m' < m ∧ W (i + 1) m' σ2 H4) :=
  comp_rng (Q := fun _ H => Qd H) Pv h0 hs hd
theorem comp_lstQ {K : Frag} {a : Addr} {xs : List V} {D : Addr} {σ0 : St} {H1 : Hp} {Qd : Hp → Prop} {g : TG} {tc : TT} {te : TE} (Pv : Nat → St → Hp → Prop) (h0 : Pv 0 σ0 (upd H1 D (.lst []))) (hl : ∀ i σ H, i ≤ xs.length → Pv i σ H → SqL K H a xs)
    (hs : ∀ i x σ' H', xs[i]? = some x → Pv i σ' H' → g x σ' H' fun σ2 H3 => tc σ2 H3 fun b H4 => if b = true then te σ2 H4 fun v H5 => rAppend (.ref D) [v] H5 fun _ H6 => ∃ m', m' < xs.length - i ∧ CW xs.length Pv (i + 1) m' σ2 H6 else ∃ m', m' < xs.length - i ∧ CW xs.length Pv (i + 1) m' σ2 H4)
    (hd : ∀ σ' H', Pv xs.length σ' H' → Qd H') :
    ∃ W : Nat → Nat → St → Hp → Prop, (∃ m, W 0 m σ0 (upd H1 D (.lst []))) ∧ ∀ i m σ' H', W i m σ' H' → ((Itl K a).stop i H' ∧ Qd H') ∨ ((Itl K a).go i H' ∧ ∀ x H2, (Itl K a).yld i H' x H2 → g x σ' H2 fun σ2 H3 => tc σ2 H3 fun b H4 =>
      if b = true then te σ2 H4 fun v H5 => rAppend (.ref D) [v] H5 fun _ H6 => ∃ m', m' < m ∧ W (i + 1) m' σ2 H6 else ∃ m', m' < m ∧ W (i + 1) m' σ2 H4) :=
  comp_lst (Q := fun _ H => Qd H) Pv h0 hl hs hd
end L2
set_option Elab.async false
set_option linter.all false
set_option maxRecDepth 100000
set_option maxHeartbeats 4000000
namespace PH
open PySem L2 PySem.W
theorem boot_tuple' : bootBuiltins "tuple" = some (.type "tuple") := by decide +kernel
structure ExR (K : Frag) (cP cN c1 c2 c3 c4 c5 c6 : Addr) : Prop where
  m : mroIn K cN (.ref cP) = some true
  v : kitOne K (.ref cN) (.type "ValueError") = some true
  o : kitAny K (.ref cN) [.ref c1, .ref c2, .ref c3, .ref c4, .ref c5, .ref c6] = some false
end PH
namespace PH
end PH
set_option Elab.async false
set_option linter.all false
namespace L2
open PySem PySem.Spec PyProof.Rows
section
variable {X : Cx}
end
end L2
set_option Elab.async false
set_option linter.all false
set_option maxRecDepth 100000
set_option maxHeartbeats 4000000
namespace PH
open PySem L2 PySem.W
theorem boot_min' : bootBuiltins "min" = some (.builtin "min") := by decide +kernel
structure Bls (mg : Str → Option Value) : Prop where
  isi : mg "isinstance" = none
  list : mg "list" = none
  int : mg "int" = none
  bool : mg "bool" = none
  len : mg "len" = none
  range : mg "range" = none
  max : mg "max" = none
  ve : mg "ValueError" = none
  tuple : mg "tuple" = none
  min : mg "min" = none
  sorted : mg "sorted" = none
  all : mg "all" = none
  dict : mg "dict" = none
theorem same_upd {H H' : Hp} (s : Same H H') {q : Addr} (u : HO) (hq : H q = none) : Same H (upd H' q u) := fun b w e => by
  rw [upd_ne (ne_of_none e hq)]; exact s b w e
theorem lsI_app (a b : List Int) : (.lst (a.map V.int ++ b.map V.int) : HO) = lsI (a ++ b) := by unfold lsI; rw [List.map_append]
theorem lsI_app1 (a : List Int) (z : Int) : (.lst (a.map V.int ++ [V.int z]) : HO) = lsI (a ++ [z]) := by unfold lsI; rw [List.map_append]; rfl
theorem len_lsI (a : List Int) : (a.map V.int).length = a.length := List.length_map _
end PH
set_option Elab.async false
set_option linter.all false
set_option maxRecDepth 100000
set_option maxHeartbeats 4000000
namespace PH
open PySem L2 PySem.W
structure Dks (ps : List Addr) (D : Addr) (H : Hp) : Prop where
  at_ : H D = some (.lst (ps.map V.ref))
  each : ∀ p ∈ ps, p ≠ D ∧ ∃ a b c, H p = some (deckO a b c)
theorem Dks.bits {ps : List Addr} {D p : Addr} {H H' : Hp} {a b c : Int} (h : Dks ps D H) (hp : p ∈ ps) (h1 : H' p = some (deckO a b c)) (kp : ∀ q o, q ≠ p → H q = some o → H' q = some o) : Dks ps D H' := ⟨kp _ _ (h.each p hp).1.symm h.at_, fun q hq => by
  obtain ⟨e, a', b', c', z⟩ := h.each q hq
  by_cases hqp : q = p
  · subst hqp; exact ⟨e, a, b, c, h1⟩
  · exact ⟨e, a', b', c', kp _ _ hqp z⟩⟩
end PH
set_option Elab.async false
set_option linter.all false
set_option maxRecDepth 100000
namespace L2
open PySem PySem.Spec PyProof.Rows PySem.W
end L2
set_option Elab.async false
set_option linter.all false
set_option maxRecDepth 100000
namespace L2
open PySem PySem.Spec PyProof.Rows
section
variable {κ : Type} [DecidableEq κ]
noncomputable def valV (kvs : List (κ × V)) (k : κ) : Option V := (kvs.find? fun kv => decide (kv.1 = k)).map (·.2)
noncomputable def putK (kvs : List (κ × V)) (k : κ) (v : V) : List (κ × V) :=
  if (kvs.any fun kv => decide (kv.1 = k)) = true then kvs.map (fun kv => if kv.1 = k then (kv.1, v) else kv) else kvs ++ [(k, v)]
theorem valV_pos {p : κ × V} {r : List (κ × V)} {k : κ} (e : p.1 = k) : valV (p :: r) k = some p.2 := by simp [valV, List.find?_cons, e]
theorem valV_neg {p : κ × V} {r : List (κ × V)} {k : κ} (e : ¬ p.1 = k) : valV (p :: r) k = valV r k := by simp [valV, List.find?_cons, e]
theorem valV_any (k : κ) : ∀ kvs : List (κ × V), (kvs.any fun kv => decide (kv.1 = k)) = (valV kvs k).isSome
  | [] => rfl
  | p :: r => by
    rw [List.any_cons]
    by_cases e : p.1 = k
    · simp only [valV_pos e, decide_eq_true e, Bool.true_or, Option.isSome_some]
    · rw [valV_neg e, decide_eq_false e, Bool.false_or]; exact valV_any k r
theorem length_putK (kvs : List (κ × V)) (k : κ) (v : V) : (putK kvs k v).length ≤ kvs.length + 1 := by
  unfold putK
  split
  · rw [List.length_map]; trivial
  · rw [List.length_append, List.length_cons, List.length_nil]; trivial
theorem RelO.isSome_eq {o : Option V} {u : Option Value} (r : RelO o u) : o.isSome = u.isSome := by
  cases o with
  | none => cases u with
    | none => rfl
    | some _ => exact (show False from r).elim
  | some _ => cases u with
    | none => exact (show False from r).elim
    | some _ => rfl
theorem RelO.getD {o : Option V} {u : Option Value} {d : V} {d' : Value} (r : RelO o u) (rd : RelV d d') : RelV (o.getD d) (u.getD d') := by
  cases o with
  | none => cases u with
    | none => exact rd
    | some _ => exact (show False from r).elim
  | some _ => cases u with
    | none => exact (show False from r).elim
    | some _ => exact r
theorem KV.val {kvs : List (κ × V)} {vs : List (κ × Value)} (r : KV kvs vs) (k : κ) : RelO (valV kvs k) (valueAt vs k) := by
  unfold KV at r
  induction r with
  | nil => exact True.intro
  | @cons p q ps qs h t ih =>
    obtain ⟨h1, h2⟩ := h
    by_cases e : p.1 = k
    · have e' : q.1 = k := h1.symm.trans e
      have b : valueAt (q :: qs) k = some q.2 := by simp [valueAt, List.find?_cons, e']
      rw [valV_pos e, b]; exact h2
    · have e' : ¬ q.1 = k := fun z => e (h1.trans z)
      have b : valueAt (q :: qs) k = valueAt qs k := by simp [valueAt, List.find?_cons, e']
      rw [valV_neg e, b]; exact ih
theorem KV.any {kvs : List (κ × V)} {vs : List (κ × Value)} (r : KV kvs vs) (k : κ) : (kvs.any fun kv => decide (kv.1 = k)) = vs.any fun kv => decide (kv.1 = k) := by
  unfold KV at r
  induction r with
  | nil => rfl
  | cons h t ih => rw [List.any_cons, List.any_cons, ih, h.1]
theorem KV.repl {kvs : List (κ × V)} {vs : List (κ × Value)} (r : KV kvs vs) (k : κ) {y : V} {u : Value} (ry : RelV y u) :
    KV (kvs.map fun kv => if kv.1 = k then (kv.1, y) else kv) (vs.map fun kv => if kv.1 = k then (kv.1, u) else kv) := by
  unfold KV at r ⊢
  induction r with
  | nil => exact .nil
  | @cons p q ps qs h t ih =>
    rw [List.map_cons, List.map_cons]
    refine .cons ?_ ih
    obtain ⟨h1, h2⟩ := h
    by_cases e : p.1 = k
    · rw [if_pos e, if_pos (h1.symm.trans e)]; exact ⟨h1, ry⟩
    · rw [if_neg e, if_neg (fun z => e (h1.trans z))]; exact ⟨h1, h2⟩
theorem KV.put {kvs : List (κ × V)} {vs : List (κ × Value)} (r : KV kvs vs) (k : κ) {y : V} {u : Value} (ry : RelV y u) : KV (putK kvs k y) (stored vs k u) := by
  unfold putK stored
  rw [r.any k]
  by_cases e : (vs.any fun kv => decide (kv.1 = k)) = true
  · rw [if_pos e, if_pos e]; exact r.repl k ry
  · rw [if_neg e, if_neg e]; exact Paired.snoc r ⟨rfl, ry⟩
theorem KV.keys {kvs : List (κ × V)} {vs : List (κ × Value)} (r : KV kvs vs) : kvs.map (·.1) = vs.map (·.1) := by
  unfold KV at r
  induction r with
  | nil => rfl
  | cons h t ih => rw [List.map_cons, List.map_cons, ih, h.1]
theorem KV.length {kvs : List (κ × V)} {vs : List (κ × Value)} (r : KV kvs vs) : kvs.length = vs.length := Paired.length r
end
theorem kV_is {P : Program} {w : World} {k : Key} {u : Value} (r : RelV (kV k) u) : (mixKind P w).is k u = true := by
  cases k with
  | inl i => obtain ⟨t, e⟩ := (show ∃ t, u = Value.int i t from r); subst e; exact mixKind_int P w i t
  | inr x => obtain ⟨t, e⟩ := (show ∃ t, u = Value.str x t from r); subst e; exact mixKind_str P w x t
theorem items_are {P : Program} {w : World} : ∀ {ks : List Key} {us : List Value}, Vals (ks.map kV) us → ItemsAre (mixKind P w) ks us
  | [], _, r => by rw [List.map_nil] at r; cases r; exact .nil
  | k :: ks, _, r => by
    rw [List.map_cons] at r
    cases r with
    | cons h t => exact .cons (kV_is h) (items_are t)
noncomputable abbrev KT (H : Hp) : List (List Key × V) → List (List Key × Addr × Value) → Prop := Paired fun p q => p.1 = q.1 ∧ H q.2.1 = some (.tup (p.1.map kV)) ∧ RelV p.2 q.2.2
theorem KT.val {H : Hp} {kvs : List (List Key × V)} {xs : List (List Key × Addr × Value)} (r : KT H kvs xs) (k : List Key) : RelO (valV kvs k) ((atKey xs k).map (·.2)) := by
  induction r with
  | nil => exact True.intro
  | @cons p q ps qs h t ih =>
    obtain ⟨h1, _, h2⟩ := h
    by_cases e : p.1 = k
    · have e' : q.1 = k := h1.symm.trans e
      have b : atKey (q :: qs) k = some q.2 := by simp [atKey, List.find?_cons, e']
      rw [valV_pos e, b]; exact h2
    · have e' : ¬ q.1 = k := fun z => e (h1.trans z)
      have b : atKey (q :: qs) k = atKey qs k := by simp [atKey, List.find?_cons, e']
      rw [valV_neg e, b]; exact ih
theorem KT.repl {H : Hp} {kvs : List (List Key × V)} {xs : List (List Key × Addr × Value)} (r : KT H kvs xs) (k : List Key) {y : V} {u : Value} (ry : RelV y u) :
    KT H (kvs.map fun kv => if kv.1 = k then (kv.1, y) else kv) (xs.map (putAt k u)) := by
  induction r with
  | nil => exact .nil
  | @cons p q ps qs h t ih =>
    rw [List.map_cons, List.map_cons]
    refine .cons ?_ ih
    obtain ⟨h1, h2, h3⟩ := h
    unfold putAt
    by_cases e : p.1 = k
    · rw [if_pos e, if_pos (h1.symm.trans e)]; exact ⟨h1, h2, ry⟩
    · rw [if_neg e, if_neg (fun z => e (h1.trans z))]; exact ⟨h1, h2, h3⟩
theorem KT.put {H : Hp} {kvs : List (List Key × V)} {xs : List (List Key × Addr × Value)} (r : KT H kvs xs) (k : List Key) {b : Addr} {y : V} {u : Value} (hb : H b = some (.tup (k.map kV))) (ry : RelV y u) :
    KT H (putK kvs k y) (storedH xs k b u) := by
  have e : (kvs.any fun kv => decide (kv.1 = k)) = (atKey xs k).isSome := by
    rw [valV_any, (r.val k).isSome_eq, Option.isSome_map]
  unfold putK storedH
  rw [e]
  by_cases q : (atKey xs k).isSome = true
  · rw [if_pos q, if_pos q]; exact r.repl k ry
  · rw [if_neg q, if_neg q]; exact Paired.snoc r ⟨rfl, hb, ry⟩
theorem KT.keeps {H H' : Hp} {kvs : List (List Key × V)} {xs : List (List Key × Addr × Value)} (r : KT H kvs xs) (ht : ∀ b ys, H b = some (.tup ys) → H' b = some (.tup ys)) : KT H' kvs xs :=
  Paired.mapP r fun _ _ z => ⟨z.1, ht _ _ z.2.1, z.2.2⟩
section
variable {P : Program} {w : World} {H : Hp} {h : Heap} {a : Addr}
theorem rd_of {u : HO} (ok : HOk P w H h) (e : Rd H a u) : ObjOk P w H h a u := e.ok ok
theorem dk_rd {kvs : List (Key × V)} (ok : HOk P w H h) (e : Rd H a (.dK kvs)) : kvs.length ≤ sizeLine ∧ (a == sysModules) = false ∧ ∃ vs, KV kvs vs ∧ h.DictOf (mixKind P w) a vs :=
  show ObjOk P w H h a (.dK kvs) from rd_of ok e
theorem dk_of {kvs : List (Key × V)} (ok : HOk P w H h) (e : H a = some (.dK kvs)) : kvs.length ≤ sizeLine ∧ (a == sysModules) = false ∧ ∃ vs, KV kvs vs ∧ h.DictOf (mixKind P w) a vs := dk_rd ok (.inl e)
theorem key_of {ks : List Key} (ok : HOk P w H h) (e : H a = some (.tup (ks.map kV))) : (tupleKind (mixKind P w)).is h ks a := by
  obtain ⟨_, its, r, o, h1, h2, n, h3⟩ := (show ObjOk P w H h a (.tup (ks.map kV)) from ok a _ e)
  exact ⟨o, its.toArray, n, h1, h2, h3, by simpa using items_are r⟩
theorem dt_rd {kvs : List (List Key × V)} (ok : HOk P w H h) (e : Rd H a (.dT kvs)) : kvs.length ≤ sizeLine ∧ (a == sysModules) = false ∧
    ∃ xs, KT H kvs xs ∧ h.DictOfH (tupleKind (mixKind P w)) a xs := by
  obtain ⟨z, y, xs, r, o, es, ep, h1, h2, h3, h4, h5⟩ := (show ObjOk P w H h a (.dT kvs) from rd_of ok e)
  refine ⟨z, y, xs, r, o, es, ep, h1, h2, h3, h4, fun x hx => ?_, h5⟩
  have all : ∀ {l : List (List Key × V)} {m : List (List Key × Addr × Value)}, KT H l m → ∀ x ∈ m, (tupleKind (mixKind P w)).is h x.1 x.2.1 := by
    intro l m q
    induction q with
    | nil => intro x hx; exact nomatch hx
    | @cons p q ps qs hq t ih =>
      intro x hx
      rcases List.mem_cons.mp hx with e | hx
      · subst e
        exact key_of ok (by rw [← hq.1]; exact hq.2.1)
      · exact ih x hx
  exact all r x hx
theorem dt_of {kvs : List (List Key × V)} (ok : HOk P w H h) (e : H a = some (.dT kvs)) : kvs.length ≤ sizeLine ∧ (a == sysModules) = false ∧
    ∃ xs, KT H kvs xs ∧ h.DictOfH (tupleKind (mixKind P w)) a xs := dt_rd ok (.inl e)
end
noncomputable def DGet (H : Hp) (a : Addr) (y : V) (r : Option V) : Prop :=
  (∃ kvs k, Rd H a (.dK kvs) ∧ y = kV k ∧ r = valV kvs k) ∨ ∃ kvs k b, Rd H a (.dT kvs) ∧ y = .ref b ∧ H b = some (.tup (k.map kV)) ∧ r = valV kvs k
noncomputable def DPut (H : Hp) (a : Addr) (y v : V) (H' : Hp) : Prop :=
  (∃ kvs k, H a = some (.dK kvs) ∧ y = kV k ∧ kvs.length < sizeLine ∧ H' = upd H a (.dK (putK kvs k v))) ∨
  ∃ kvs k b, H a = some (.dT kvs) ∧ y = .ref b ∧ H b = some (.tup (k.map kV)) ∧ kvs.length < sizeLine ∧ H' = upd H a (.dT (putK kvs k v))
theorem DGet.k {H : Hp} {a : Addr} {kvs : List (Key × V)} {k : Key} (e : H a = some (.dK kvs)) : DGet H a (kV k) (valV kvs k) := .inl ⟨kvs, k, .inl e, rfl, rfl⟩
theorem DGet.t {H : Hp} {a b : Addr} {kvs : List (List Key × V)} {k : List Key} (e : H a = some (.dT kvs)) (eb : H b = some (.tup (k.map kV))) : DGet H a (.ref b) (valV kvs k) := .inr ⟨kvs, k, b, .inl e, rfl, eb, rfl⟩
theorem DPut.k {H : Hp} {a : Addr} {kvs : List (Key × V)} {k : Key} {v : V} (e : H a = some (.dK kvs)) (hl : kvs.length < sizeLine) : DPut H a (kV k) v (upd H a (.dK (putK kvs k v))) := .inl ⟨kvs, k, e, rfl, hl, rfl⟩
theorem DPut.t {H : Hp} {a b : Addr} {kvs : List (List Key × V)} {k : List Key} {v : V} (e : H a = some (.dT kvs)) (eb : H b = some (.tup (k.map kV))) (hl : kvs.length < sizeLine) :
    DPut H a (.ref b) v (upd H a (.dT (putK kvs k v))) := .inr ⟨kvs, k, b, e, rfl, eb, hl, rfl⟩
section
variable {X : Cx} {pins : List (Addr × Obj)} {σ : St} {H : Hp} {s : Shared} {a : Addr} {y v : V} {u r : Value} {o : Option V} {A : Around} {E : Value → Shared → Prop}
theorem Inv.big (I : Inv X pins σ H s) : sysModules < s.heap.objs.size := by
  have h : mainGlobals < s.heap.objs.size := (I.mod.glob.keeps I.bk).lt
  exact Nat.lt_trans (by decide) h
theorem d_getItem {Q : Value → Shared → Prop} (hu : A.units + 1 < cLine) (I : Inv X pins σ H s) (g : DGet H a y (some v)) (ry : RelV y u) (h : ∀ w' s', Inv X pins σ H s' → RelV v w' → Q w' s') :
    wpAny (model X.prog X.w) A (getItem (.ref a) u) Q E s := by
  rcases g with ⟨kvs, k, e, ey, l⟩ | ⟨kvs, k, b, e, ey, eb, l⟩
  · subst ey
    obtain ⟨z, hd, vs, rel, dd⟩ := dk_rd I.hok e
    obtain ⟨w', hw, rw'⟩ := RelO.some_of (v := v) (o := valueAt vs k) (by rw [l]; exact rel.val k)
    exact wpAny_getItem_of (kV_is ry) dd.mapOf hw (h w' _ (I.tok _) rw')
  · subst ey
    cases (show u = Value.ref b from ry)
    obtain ⟨z, hd, xs, rel, dd⟩ := dt_rd I.hok e
    obtain ⟨w', hw, rw'⟩ := RelO.some_of (v := v) (o := (atKey xs k).map (·.2)) (by rw [l]; exact rel.val k)
    obtain ⟨p, hp, hp2⟩ := Option.map_eq_some_iff.mp hw
    refine wpAny_getItem_heap (tupleKind_room_in1 hu) (key_of I.hok eb) dd hp ?_
    rw [hp2]
    exact h w' _ (I.tok _) rw'
theorem d_write {h' : Heap} {t' : Nat} {ob : HO} (I : Inv X pins σ H s) (mu : Mut (H a)) (hs : Heap.SameBut a s.heap h') (he : ∃ q, h'.get? a = some q) (new : ObjOk X.prog X.w (upd H a ob) h' a ob) :
    Inv X pins σ (upd H a ob) { s with heap := h', toks := t' } :=
  I.write (x := a) (e := a) mu (.inl rfl) (fun b q hb z => (hs.2 b hb).trans z) he new
theorem dk_new {P : Program} {w : World} {H' : Hp} {h' : Heap} {kvs : List (Key × V)} {vs : List (Key × Value)} (z : kvs.length ≤ sizeLine) (hd : (a == sysModules) = false) (rel : KV kvs vs) (dd : h'.DictOf (mixKind P w) a vs) :
    ObjOk P w H' h' a (.dK kvs) := ⟨z, hd, vs, rel, dd⟩
theorem d_setItem {H' : Hp} {Q : Unit → Shared → Prop} (hu : A.units + 1 < cLine) (I : Inv X pins σ H s) (g : DPut H a y v H') (ry : RelV y u) (rv : RelV v r) (h : ∀ s', Inv X pins σ H' s' → Q () s') :
    wpAny (model X.prog X.w) A (setItem (.ref a) u r) Q E s := by
  rcases g with ⟨kvs, k, e, ey, l, eH⟩ | ⟨kvs, k, b, e, ey, eb, l, eH⟩
  · subst ey eH
    obtain ⟨z, hd, vs, rel, dd⟩ := dk_of I.hok e
    have hz : vs.length ≤ sizeLine := by rw [← rel.length]; exact z
    have hl : (putK kvs k v).length ≤ sizeLine := by have := length_putK kvs k v; trivial
    refine wpAny_setItem_pairs (hsz := hz) (kV_is ry) dd fun h' dd' hs => h _ ?_
    have he : ∃ q, h'.get? a = some q := let ⟨q, _, _, hq, _⟩ := dd'; ⟨q, hq⟩
    exact d_write I (by rw [e]; exact True.intro) hs he (dk_new hl hd (rel.put k rv) dd')
  · subst ey eH
    cases (show u = Value.ref b from ry)
    obtain ⟨z, hd, xs, rel, dd⟩ := dt_of I.hok e
    have hz : xs.length ≤ sizeLine := by rw [← Paired.length rel]; exact z
    have hl : (putK kvs k v).length ≤ sizeLine := by have := length_putK kvs k v; trivial
    refine wpAny_setItem_heap (hsz := hz) (tupleKind_room_in1 hu) (key_of I.hok eb) dd fun h' dd' hs => h _ ?_
    obtain ⟨q, es, ep, hq, h2, h3, h4, _, h5⟩ := dd'
    refine d_write I (by rw [e]; exact True.intro) hs ⟨q, hq⟩ ⟨hl, hd, _, (rel.put k eb rv).keeps fun c ys ec => ?_, q, es, ep, hq, h2, h3, h4, h5⟩
    rw [upd_ne (ne_of ec e (fun z => nomatch z))]
    exact ec
end
section
variable {X : Cx} {pins : List (Addr × Obj)} {σ : St} {H : Hp} {s : Shared} {a : Addr} {kvs : List (Key × V)} {k : Key} {u : Value} {A : Around} {E : Value → Shared → Prop}
end
noncomputable def NoSl (i : Expr) : Prop := ∀ ov iv, subscripted i false ov iv = operate [ov, iv] (getItem ov iv)
theorem subD_of {prog : Program} {w : World} {A : Around} {E : Value → Shared → Prop} {s : Shared} {env : Env} {value slice : Expr} {pos : Pos} {T id : String} {Q : Value → Shared → Prop}
    (hl : typeLookup (.type T) "__getitem__" = pure (some (.builtin id))) (hs : NoSl slice)
    (h : wpAny (model prog w) A (eval value env) (fun o s₁ => wpAny (model prog w) A (eval slice env) (fun i s₂ => s₂.TypeIs o T ∧ wpAny (model prog w) A (getItem o i) Q E s₂) E s₁) E s) :
    wpAny (model prog w) A (eval (.Subscript value slice pos) env) Q E s := by
  refine Subscript_ (wpAny_mono h (fun o s₁ h₁ => wpAny_mono h₁ (fun i s₂ h₂ => ?_) fun _ _ x => x) fun _ _ x => x)
  obtain ⟨hT, h₂⟩ := h₂
  unfold subscriptTail
  refine wpAny_bind ?_
  rw [getitemInPython_of_ne hT.not_modules]
  refine wpAny_bind (wpAny_specialOf hT hl ?_)
  have fin : wpAny (model prog w) A (subscripted slice false o i) (fun r s₃ => wpAny (model prog w) A (letTemporaryGo value o r >>= fun _ => pure r) Q E s₃) E s₂ := by
    rw [hs o i]
    exact wpAny_operating (wpAny_mono h₂ (fun r s₃ h₃ => wpAny_bind (wpAny_letTemporaryGo (wpAny_pure h₃))) fun _ _ x => x)
  first
    | exact wpAny_pure (wpAny_bind fin)
    | exact wpAny_bind (wpAny_pure (wpAny_bind fin))
    | exact wpAny_bind fin
theorem dict_typeIs {X : Cx} {pins : List (Addr × Obj)} {σ : St} {H : Hp} {s : Shared} {a : Addr} {y : V} {o : Option V} (I : Inv X pins σ H s) (g : DGet H a y o) : s.TypeIs (.ref a) "dict" := by
  rcases g with ⟨kvs, k, e, _, _⟩ | ⟨kvs, k, b, e, _, _, _⟩
  · obtain ⟨_, _, vs, _, dd⟩ := dk_rd I.hok e
    exact dd.typeIs
  · obtain ⟨_, _, xs, _, dd⟩ := dt_rd I.hok e
    exact dd.typeIs
noncomputable def tDGet (td ty : TE) : TE := fun σ H Q => td σ H fun x H1 => ty σ H1 fun y H2 => ∃ a v, x = .ref a ∧ DGet H2 a y (some v) ∧ Q v H2
noncomputable def sDPut (td ty tv : TE) : TS := fun D σ H => tv σ H fun v H1 => td σ H1 fun x H2 => ty σ H2 fun y H3 => ∃ a H4, x = .ref a ∧ DPut H3 a y v H4 ∧ D.nx σ H4
section
variable {X : Cx} {o i e value : Expr} {pos pos' tpos : Pos} {td ty tv : TE}
theorem pe_dget (hu : X.A.units + 1 < cLine) (ho : PE X o td) (hi : PE X i ty) (hs : NoSl i) : PE X (.Subscript o i pos) (tDGet td ty) := by
  intro pins s σ H Q I h
  refine subD_of PySem.F.slot_dict_getitem.lookup hs (thn (ho pins s σ H _ I h) fun u s1 ⟨x, H1, I1, rx, q1⟩ => thn (hi pins s1 σ H1 _ I1 q1) fun iv s2 ⟨y, H2, I2, ry, a, v, ex, g, q2⟩ => ?_)
  subst ex
  obtain rfl : u = Value.ref a := rx
  exact ⟨dict_typeIs I2 g, d_getItem hu I2 g ry fun w' s3 I3 rw' => ⟨v, H2, I3, rw', q2⟩⟩
theorem ps_dput (hu : X.A.units + 1 < cLine) (ho : PE X o td) (hi : PE X i ty) (hv : PE X value tv) (hs : swapsWith value (some (.Subscript o i pos')) pos.line X.env = pure false) :
    PS X (.Assign [.Subscript o i pos'] value pos) (sDPut td ty tv) := by
  intro pins s σ H D I h
  refine wpAny_Assign_Subscript (thn (hv pins s σ H _ I h) fun r s1 ⟨v, H1, I1, rv, q1⟩ => thn (ho pins s1 σ H1 _ I1 q1) fun u s2 ⟨x, H2, I2, rx, q2⟩ => thn (hi pins s2 σ H2 _ I2 q2) fun iv s3 ⟨y, H3, I3, ry, a, H4, ex, g, q3⟩ => ?_) hs
  subst ex
  obtain rfl : u = Value.ref a := rx
  exact d_setItem hu I3 g ry rv fun s4 I4 => ⟨σ, H4, I4, q3⟩
end
theorem dk_empty {P : Program} {w : World} {H : Hp} (h : Heap) (hb : sysModules < h.objs.size) : ObjOk P w H (h.push { cls := .type "dict", data := .dict #[] }) h.objs.size (.dK []) :=
  ⟨Nat.zero_le _, beq_eq_false_iff_ne.mpr (Ne.symm (Nat.ne_of_lt hb)), [], .nil, Heap.DictOf.new h⟩
theorem dt_empty {P : Program} {w : World} {H : Hp} (h : Heap) (hb : sysModules < h.objs.size) : ObjOk P w H (h.push { cls := .type "dict", data := .dict #[] }) h.objs.size (.dT []) :=
  ⟨Nat.zero_le _, beq_eq_false_iff_ne.mpr (Ne.symm (Nat.ne_of_lt hb)), [], .nil, _, #[], 0, Heap.get?_push_size _ rfl, ⟨rfl, rfl, rfl⟩, rfl, rfl, List.nodup_nil⟩
noncomputable def tDNewK : TE := fun _ H Q => ∀ p, H p = none → Q (.ref p) (upd H p (.dK []))
noncomputable def tDNewT : TE := fun _ H Q => ∀ p, H p = none → Q (.ref p) (upd H p (.dT []))
section
variable {X : Cx} {pos : Pos}
theorem pe_dnewK : PE X (.Dict [] [] pos) tDNewK := fun pins s σ H Q I h =>
  wpAny_Dict_empty ⟨.ref s.heap.objs.size, _, I.laid (a := s.heap.objs.size) (o := .dK []) (t' := s.toks) (fun _ _ q => Heap.get?_push_of_some _ q) (Nat.le_refl _) (dk_empty s.heap I.big), rfl, h _ (I.hok.fresh (Nat.le_refl _))⟩
theorem pe_dnewT : PE X (.Dict [] [] pos) tDNewT := fun pins s σ H Q I h =>
  wpAny_Dict_empty ⟨.ref s.heap.objs.size, _, I.laid (a := s.heap.objs.size) (o := .dT []) (t' := s.toks) (fun _ _ q => Heap.get?_push_of_some _ q) (Nat.le_refl _) (dt_empty s.heap I.big), rfl, h _ (I.hok.fresh (Nat.le_refl _))⟩
end
noncomputable def tPairs : List (TE × TE) → St → Hp → (List (V × V) → Hp → Prop) → Prop
  | [], _, H, Q => Q [] H
  | (tk, tv) :: r, σ, H, Q => tk σ H fun x H1 => tv σ H1 fun y H2 => tPairs r σ H2 fun ps H3 => Q ((x, y) :: ps) H3
noncomputable abbrev VV : List (V × V) → List (Value × Value) → Prop := Paired fun p q => RelV p.1 q.1 ∧ RelV p.2 q.2
noncomputable def PPs (X : Cx) (pos : Pos) (keys : List (Option Expr)) (values : List Expr) (trs : List (TE × TE)) : Prop :=
  ∀ (pins : List (Addr × Obj)) (s : Shared) (σ : St) (H : Hp) (Q : List (V × V) → Hp → Prop), Inv X pins σ H s → tPairs trs σ H Q →
    wpAny (model X.prog X.w) X.A (evalPairs (pairTrees keys values X.env pos)) (fun vs s' => ∃ ps H', Inv X pins σ H' s' ∧ VV ps vs ∧ Q ps H') X.xe s
theorem pps_nil {X : Cx} {pos : Pos} : PPs X pos [] [] [] := fun pins s σ H Q I h => pairTrees_nil_walk ⟨[], H, I, .nil, h⟩
theorem pps_cons {X : Cx} {pos : Pos} {k v : Expr} {ks : List (Option Expr)} {vs : List Expr} {tk tv : TE} {trs : List (TE × TE)} (hk : PE X k tk) (hv : PE X v tv) (hr : PPs X pos ks vs trs) :
    PPs X pos (some k :: ks) (v :: vs) ((tk, tv) :: trs) := fun pins s σ H Q I h =>
  pairTrees_cons_walk (thn (hk pins s σ H _ I h) fun u s1 ⟨x, H1, I1, rx, q1⟩ => thn (hv pins s1 σ H1 _ I1 q1) fun w2 s2 ⟨y, H2, I2, ry, q2⟩ =>
    thn (hr pins s2 σ H2 _ I2 q2) fun ws s3 ⟨ps, H3, I3, rel, q3⟩ => ⟨(x, y) :: ps, H3, I3, .cons ⟨rx, ry⟩ rel, q3⟩)
structure M1 (X : Cx) (o : Expr) (m : Str) (apos : Pos) (e : Expr) (cpos : Pos) : Prop where
  base : attributeBase o m X.env (eval o X.env) = eval o X.env
  few : ((backTo cpos (starEach [e] X.env)).all (fun x => !x.1) && (backToKw cpos (keywordEach [] X.env)).all (fun x => x.1.isSome)
    && decide (([e] : List Expr).length + ([] : List Keyword).length + (if ([] : List Keyword).isEmpty then 0 else 1) < 30)) = true
  line : (apos.endLine == cpos.line) = true
  trees : backTo cpos (starEach [e] X.env) = [(false, eval e X.env)]
structure M2 (X : Cx) (o : Expr) (m : Str) (apos : Pos) (e f : Expr) (cpos : Pos) : Prop where
  base : attributeBase o m X.env (eval o X.env) = eval o X.env
  few : ((backTo cpos (starEach [e, f] X.env)).all (fun x => !x.1) && (backToKw cpos (keywordEach [] X.env)).all (fun x => x.1.isSome)
    && decide (([e, f] : List Expr).length + ([] : List Keyword).length + (if ([] : List Keyword).isEmpty then 0 else 1) < 30)) = true
  line : (apos.endLine == cpos.line) = true
  trees : backTo cpos (starEach [e, f] X.env) = [(false, eval e X.env), (false, eval f X.env)]
noncomputable def IsD (H : Hp) (a : Addr) : Prop := (∃ kvs, Rd H a (.dK kvs)) ∨ ∃ kvs, Rd H a (.dT kvs)
theorem isD_at {X : Cx} {pins : List (Addr × Obj)} {σ : St} {H : Hp} {s : Shared} {a : Addr} (I : Inv X pins σ H s) (d : IsD H a) :
    s.TypeIs (.ref a) "dict" ∧ (∀ b, Value.ref a = .ref b → ∃ ob, s.heap.get? b = some ob ∧ ob.dict = none) ∧ (a == sysModules) = false := by
  rcases d with ⟨kvs, e⟩ | ⟨kvs, e⟩
  · obtain ⟨_, hd, vs, _, dd⟩ := dk_rd I.hok e
    refine ⟨dd.typeIs, fun b q => ?_, hd⟩
    cases q
    obtain ⟨ob, _, _, h1, h2, _⟩ := dd
    exact ⟨ob, h1, h2.2.1⟩
  · obtain ⟨_, hd, xs, _, dd⟩ := dt_rd I.hok e
    refine ⟨dd.typeIs, fun b q => ?_, hd⟩
    cases q
    obtain ⟨ob, _, _, h1, h2, _⟩ := dd
    exact ⟨ob, h1, h2.2.1⟩
section
variable {X : Cx} {pins : List (Addr × Obj)} {σ : St} {H : Hp} {s : Shared} {a : Addr} {y d : V} {u r : Value} {o : Option V} {A : Around} {E : Value → Shared → Prop}
theorem d_get2 {Q : Value → Shared → Prop} (hu : A.units + 1 < cLine) (I : Inv X pins σ H s) (g : DGet H a y o) (ry : RelV y u) (rd : RelV d r) (h : ∀ w' s', Inv X pins σ H s' → RelV (o.getD d) w' → Q w' s') :
    wpAny (model X.prog X.w) A (call (.builtin "dict.get") [.ref a, u, r]) Q E s := by
  rcases g with ⟨kvs, k, e, ey, l⟩ | ⟨kvs, k, b, e, ey, eb, l⟩
  · subst ey
    obtain ⟨z, hd, vs, rel, dd⟩ := dk_rd I.hok e
    refine call_meetsIn PySem.F.slot_dict_get dd.typeIs PySem.F.entry_dict_get (PySem.F.args_dict_get_3 _ _ _) (meets_dict_get_default (mixKind X.prog X.w) a (kV_is ry) hd r) ⟨_, dd.mapOf, h _ _ (I.tok _) ?_⟩
    rw [l]
    exact (rel.val k).getD rd
  · subst ey
    cases (show u = Value.ref b from ry)
    obtain ⟨z, hd, xs, rel, dd⟩ := dt_rd I.hok e
    refine call_meetsIn PySem.F.slot_dict_get dd.typeIs PySem.F.entry_dict_get (PySem.F.args_dict_get_3 _ _ _) (meetsH_dict_get_default (tupleKind (mixKind X.prog X.w)) a b hd r) ⟨tupleKind_room_in1 hu, k, xs, key_of I.hok eb, dd, h _ _ (I.tok _) ?_⟩
    rw [l]
    exact (rel.val k).getD rd
end
noncomputable def tDGet2 (td ty tx : TE) : TE := fun σ H Q => td σ H fun x H1 => ∃ a, x = .ref a ∧ IsD H1 a ∧ ty σ H1 fun y H2 => tx σ H2 fun z H3 => ∃ o, DGet H3 a y o ∧ Q (o.getD z) H3
section
variable {X : Cx} {o e f : Expr} {apos cpos : Pos} {td ty tx : TE}
theorem pe_dget2 (hu : X.A.units + 1 < cLine) (ho : PE X o td) (he : PE X e ty) (hf : PE X f tx) (m : M2 X o "get" apos e f cpos) : PE X (.Call (.Attribute o "get" apos) [e, f] [] cpos) (tDGet2 td ty tx) := by
  intro pins s σ H Q I h
  refine wpAny_Call_method m.base m.few m.line PySem.F.plainAttrs_dict PySem.F.slot_dict_get PySem.F.type_dict_get (thn (ho pins s σ H _ I h) fun u s1 ⟨x, H1, I1, rx, a, ex, d, q1⟩ => ?_)
  subst ex
  obtain rfl : u = Value.ref a := rx
  obtain ⟨t1, t2, _⟩ := isD_at I1 d
  refine ⟨t1, t2, ?_⟩
  rw [m.trees]
  refine Calls.callWith_builtin rfl (Calls.evalArgs_plain (Calls.spliced_cons (thn (he pins s1 σ H1 _ I1 q1) fun iv s2 ⟨y, H2, I2, ry, q2⟩ =>
    Calls.spliced_cons (thn (hf pins s2 σ H2 _ I2 q2) fun fv s3 ⟨z, H3, I3, rz, ov, g, q3⟩ => Calls.spliced_nil ?_))))
  exact d_get2 hu I3 g ry rz fun w' s4 I4 rw' => ⟨_, H3, I4, rw', q3⟩
end
section
variable {X : Cx} {pins : List (Addr × Obj)} {σ : St} {H : Hp} {s : Shared} {a : Addr} {kvs : List (Key × V)} {A : Around} {E : Value → Shared → Prop}
end
section
variable {X : Cx} {pins : List (Addr × Obj)} {σ : St} {H : Hp} {s : Shared} {a : Addr} {y : V} {u : Value} {A : Around} {E : Value → Shared → Prop}
end
end L2
namespace L2
open PySem PySem.Spec PyProof.Rows
section
variable {X : Cx}
end
section
variable {κ : Type} [DecidableEq κ]
theorem nd_snoc : ∀ {l : List κ} {k : κ}, l.Nodup → ¬ k ∈ l → (l ++ [k]).Nodup
  | [], k, _, _ => by simp
  | a :: r, k, h, hk => by
    obtain ⟨h1, h2⟩ := List.nodup_cons.mp h
    show (a :: (r ++ [k])).Nodup
    refine List.nodup_cons.mpr ⟨fun m => ?_, nd_snoc h2 fun m => hk (List.mem_cons.mpr (Or.inr m))⟩
    rcases List.mem_append.mp m with q | q
    · exact h1 q
    · exact hk (List.mem_cons.mpr (Or.inl (List.mem_singleton.mp q).symm))
end
end L2
set_option linter.all false
namespace TS
open PySem PyProof.Rows
noncomputable def gallop' : Bool → Keyed → Array Keyed → Nat → Nat → Nat → StateT SortSt Sem (Option Nat) := sortPriv% PySem.Builtin.gallop
noncomputable def mergeLo' : Array Keyed → Array Keyed → StateT SortSt Sem (Array Keyed) := sortPriv% PySem.Builtin.mergeLo
noncomputable def mergeHi' : Array Keyed → Array Keyed → StateT SortSt Sem (Array Keyed) := sortPriv% PySem.Builtin.mergeHi
noncomputable def mergeAt' : Nat → StateT SortSt Sem Bool := sortPriv% PySem.Builtin.mergeAt
section
variable {prog : Program} {w : World} {A : Around} {E : Value → Shared → Prop} {s : Shared}
structure Cmp (prog : Program) (w : World) (A : Around) (s : Shared) (kd : SortKind) (O : KeyOrd) (ky : Keyed → O.α) (S : Keyed → Prop) : Prop where
  lt : ∀ p q, S p → S q → ∀ {E : Value → Shared → Prop} {Q : Bool → Shared → Prop}, Q (O.blt (ky p) (ky q)) s → wpAny (model prog w) A (keyLt' kd p.1 q.1) Q E s
variable {kd : SortKind} {O : KeyOrd} {ky : Keyed → O.α} {S : Keyed → Prop}
theorem wpS_lt (C : Cmp prog w A s kd O ky S) {st : SortSt} {p q : Keyed} {Q : Option Bool → SortSt → Prop} (hk : kindOf st = kd) (hp : S p) (hq : S q) (h : Q (some (O.blt (ky p) (ky q))) st) : wpS (model prog w) A E s (lt' p q) Q st := by
  rw [lt'_eq]
  refine wpS_bind (wpS_get ?_)
  rw [hk]
  refine wpS_bind (wpS_lift (wpAny_attempt (C.lt p q hp hq ⟨rfl, ?_⟩)))
  exact wpS_pure h
theorem wpS_elem {arr : Array Keyed} {i : Nat} {p : Keyed} {Q : Keyed → SortSt → Prop} {st : SortSt} (h : arr[i]? = some p) (hq : Q p st) : wpS (model prog w) A E s (elem' arr i) Q st := by
  rw [elem'_eq, h]
  exact wpS_pure hq
noncomputable def bey (O : KeyOrd) (ky : Keyed → O.α) (left : Bool) (key p : Keyed) : Bool := if left then O.blt (ky p) (ky key) else !O.blt (ky key) (ky p)
theorem wpS_bey (C : Cmp prog w A s kd O ky S) {st : SortSt} {left : Bool} {key p : Keyed} {arr : Array Keyed} {i : Nat} {Q : Option Bool → SortSt → Prop} (hk : kindOf st = kd) (hs : S key) (hp : arr[i]? = some p) (hsp : S p) (h : Q (some (bey O ky left key p)) st) :
    wpS (model prog w) A E s (do
      let x ← elem' arr i
      if left = true then lt' x key else do
        let r ← lt' key x
        pure (Option.map (fun x => !x) r)) Q st := by
  refine wpS_bind (wpS_elem hp ?_)
  unfold bey at h
  cases left with
  | true =>
    rw [if_pos rfl] at h ⊢
    exact wpS_lt C hk hsp hs h
  | false =>
    rw [if_neg Bool.false_ne_true] at h ⊢
    exact wpS_bind (wpS_lt C hk hs hsp (wpS_pure h))
theorem wpS_gallop (C : Cmp prog w A s kd O ky S) {st : SortSt} {left : Bool} {key : Keyed} {arr : Array Keyed} {base n hint : Nat} {Q : Option Nat → SortSt → Prop} (hk : kindOf st = kd) (hs : S key) {el : Nat → Keyed} (hel : ∀ i, i < n → arr[base + i]? = some (el i) ∧ S (el i))
    (anti : ∀ i j, i ≤ j → j < n → bey O ky left key (el j) = true → bey O ky left key (el i) = true) (hh : hint < n)
    (h : ∀ k, k ≤ n → (∀ i, i < k → bey O ky left key (el i) = true) → (∀ i, k ≤ i → i < n → bey O ky left key (el i) = false) → Q (some k) st) :
    wpS (model prog w) A E s (gallop' left key arr base n hint) Q st := by
  have anti' : ∀ i j, i ≤ j → j < n → bey O ky left key (el i) = false → bey O ky left key (el j) = false := fun i j h1 h2 h3 => by
    cases e : bey O ky left key (el j) with
    | false => rfl
    | true => rw [anti i j h1 h2 e] at h3; cases h3
  have ask : ∀ (i : Nat) {Q : Option Bool → SortSt → Prop}, i < n → Q (some (bey O ky left key (el i))) st → wpS (model prog w) A E s (do
      let x ← elem' arr (base + i)
      if left = true then lt' x key else do
        let r ← lt' key x
        pure (Option.map (fun x => !x) r)) Q st := fun i Q hi hq => wpS_bey C hk hs (hel i hi).1 (hel i hi).2 hq
  unfold gallop'
  refine wpS_bind (ask hint hh ?_)
  -- the last search
  have fin : ∀ lo hi, lo ≤ hi → hi ≤ n → (∀ i, i < lo → bey O ky left key (el i) = true) → (∀ i, hi ≤ i → i < n → bey O ky left key (el i) = false) → ∀ {f : Nat → Option (Option Nat) × Nat × Nat → StateT SortSt Sem (ForInStep (Option (Option Nat) × Nat × Nat))},
      (∀ (x : Nat) lo hi, lo ≤ hi → hi ≤ n → ∀ {R : ForInStep (Option (Option Nat) × Nat × Nat) → SortSt → Prop}, (lo ≥ hi → R (.done (none, lo, hi)) st) → (∀ m, lo ≤ m → m < hi → bey O ky left key (el m) = true → R (.yield (none, m + 1, hi)) st) → (∀ m, lo ≤ m → m < hi → bey O ky left key (el m) = false → R (.yield (none, lo, m)) st) → wpS (model prog w) A E s (f x (none, lo, hi)) R st) →
      ∀ {g : Option (Option Nat) × Nat × Nat → StateT SortSt Sem (Option Nat)}, (∀ lo hi, g (none, lo, hi) = pure (some hi)) → wpS (model prog w) A E s (forIn [:n] (none, lo, hi) f >>= g) Q st := by
    intro lo hi h1 h2 h3 h4 f hf g hg
    refine wpS_bind (wpS_mono (wpS_forRange (I := fun x c st' => st' = st ∧ ∃ lo hi, c = (none, lo, hi) ∧ lo ≤ hi ∧ hi ≤ n ∧ hi - lo ≤ n - x ∧ (∀ i, i < lo → bey O ky left key (el i) = true) ∧ (∀ i, hi ≤ i → i < n → bey O ky left key (el i) = false))
      (Q := fun c st' => st' = st ∧ ∃ hi, c = (none, hi, hi) ∧ hi ≤ n ∧ (∀ i, i < hi → bey O ky left key (el i) = true) ∧ (∀ i, hi ≤ i → i < n → bey O ky left key (el i) = false)) ?step ?fin ⟨rfl, lo, hi, rfl, h1, h2, by trivial, h3, h4⟩) ?post)
    case fin =>
      rintro c st' ⟨rfl, lo, hi, rfl, a1, a2, a3, a4, a5⟩
      have : lo = hi := by trivial
      subst this
      exact ⟨rfl, lo, rfl, a2, a4, a5⟩
    case post =>
      rintro c st' ⟨rfl, hi, rfl, a2, a4, a5⟩
      rw [hg]
      exact wpS_pure (h hi a2 a4 a5)
    case step =>
      rintro x c st' _ hx ⟨rfl, lo, hi, rfl, a1, a2, a3, a4, a5⟩
      refine hf x lo hi a1 a2 (fun q => ?_) (fun m m1 m2 mb => ?_) (fun m m1 m2 mb => ?_)
      · have : lo = hi := by trivial
        subst this
        exact ⟨rfl, lo, rfl, a2, a4, a5⟩
      · exact ⟨rfl, m + 1, hi, rfl, by trivial, a2, by trivial, fun i hi' => anti i m (by trivial) (by trivial) mb, a5⟩
      · exact ⟨rfl, lo, m, rfl, m1, by trivial, by trivial, a4, fun i i1 i2 => anti' m i i1 i2 mb⟩
  have body : ∀ (x : Nat) lo hi, lo ≤ hi → hi ≤ n → ∀ {R : ForInStep (Option (Option Nat) × Nat × Nat) → SortSt → Prop}, (lo ≥ hi → R (.done (none, lo, hi)) st) → (∀ m, lo ≤ m → m < hi → bey O ky left key (el m) = true → R (.yield (none, m + 1, hi)) st) → (∀ m, lo ≤ m → m < hi → bey O ky left key (el m) = false → R (.yield (none, lo, m)) st) →
      wpS (model prog w) A E s (if lo ≥ hi then pure (ForInStep.done ((none : Option (Option Nat)), lo, hi)) else do
        let r ← (do
          let x ← elem' arr (base + (lo + (hi - lo) / 2))
          if left = true then lt' x key else do
            let r ← lt' key x
            pure (Option.map (fun x => !x) r))
        match r with
          | some more => if more = true then pure (ForInStep.yield (none, lo + (hi - lo) / 2 + 1, hi)) else pure (ForInStep.yield (none, lo, lo + (hi - lo) / 2))
          | x => pure (ForInStep.done (some none, lo, hi))) R st := by
    intro x lo hi h1 h2 R r1 r2 r3
    by_cases hge : lo ≥ hi
    · rw [if_pos hge]; exact wpS_pure (r1 hge)
    · rw [if_neg hge]
      refine wpS_bind (ask _ (by trivial) ?_)
      dsimp only
      cases e : bey O ky left key (el (lo + (hi - lo) / 2)) with
      | true => rw [if_pos rfl]; exact wpS_pure (r2 _ (by trivial) (by trivial) e)
      | false => rw [if_neg Bool.false_ne_true]; exact wpS_pure (r3 _ (by trivial) (by trivial) e)
  dsimp only
  cases e0 : bey O ky left key (el hint) with
  | true =>
    rw [if_pos rfl]
    refine wpS_bind (wpS_mono (wpS_forRange (I := fun x c st' => st' = st ∧ ∃ la of_, c = (none, la, of_) ∧ la < of_ ∧ hint + la < n ∧ x + 1 ≤ of_ ∧ bey O ky left key (el (hint + la)) = true)
      (Q := fun c st' => st' = st ∧ ∃ la of_, c = (none, la, of_) ∧ la < of_ ∧ hint + la < n ∧ bey O ky left key (el (hint + la)) = true ∧ (n - hint ≤ of_ ∨ (hint + of_ < n ∧ bey O ky left key (el (hint + of_)) = false))) ?step ?fin ⟨rfl, 0, 1, rfl, by trivial, by trivial, by trivial, e0⟩) ?post)
    case fin =>
      rintro c st' ⟨rfl, la, of_, rfl, a1, a2, a3, a4⟩
      exact ⟨rfl, la, of_, rfl, a1, a2, a4, .inl (by trivial)⟩
    case step =>
      rintro x c st' _ hx ⟨rfl, la, of_, rfl, a1, a2, a3, a4⟩
      dsimp only
      by_cases hge : of_ ≥ n - hint
      · rw [if_pos hge]; exact wpS_pure ⟨rfl, la, of_, rfl, a1, a2, a4, .inl hge⟩
      · rw [if_neg hge]
        refine wpS_bind (ask (hint + of_) (by trivial) ?_)
        dsimp only
        cases e : bey O ky left key (el (hint + of_)) with
        | true =>
          rw [if_neg (by decide)]
          exact wpS_pure ⟨rfl, of_, 2 * of_ + 1, rfl, by trivial, by trivial, by trivial, e⟩
        | false =>
          rw [if_pos (by decide)]
          exact wpS_pure ⟨rfl, la, of_, rfl, a1, a2, a4, .inr ⟨by trivial, e⟩⟩
    case post =>
      rintro c st' ⟨rfl, la, of_, rfl, a1, a2, a4, a5⟩
      dsimp only
      refine fin (hint + la + 1) (hint + min of_ (n - hint)) (by trivial) (by trivial) (fun i hi => anti i (hint + la) (by trivial) a2 a4) (fun i i1 i2 => ?_) (body) (fun lo hi => rfl)
      rcases a5 with a5 | ⟨a5, a6⟩
      · trivial
      · exact anti' (hint + of_) i (by trivial) i2 a6
  | false =>
    rw [if_neg Bool.false_ne_true]
    refine wpS_bind (wpS_mono (wpS_forRange (I := fun x c st' => st' = st ∧ ∃ la of_, c = (none, la, of_) ∧ la < of_ ∧ la ≤ hint ∧ x + 1 ≤ of_ ∧ bey O ky left key (el (hint - la)) = false)
      (Q := fun c st' => st' = st ∧ ∃ la of_, c = (none, la, of_) ∧ la < of_ ∧ la ≤ hint ∧ bey O ky left key (el (hint - la)) = false ∧ (hint + 1 ≤ of_ ∨ (of_ ≤ hint ∧ bey O ky left key (el (hint - of_)) = true))) ?step ?fin ⟨rfl, 0, 1, rfl, by trivial, by trivial, by trivial, e0⟩) ?post)
    case fin =>
      rintro c st' ⟨rfl, la, of_, rfl, a1, a2, a3, a4⟩
      exact ⟨rfl, la, of_, rfl, a1, a2, a4, .inl (by trivial)⟩
    case step =>
      rintro x c st' _ hx ⟨rfl, la, of_, rfl, a1, a2, a3, a4⟩
      dsimp only
      by_cases hge : of_ ≥ hint + 1
      · rw [if_pos hge]; exact wpS_pure ⟨rfl, la, of_, rfl, a1, a2, a4, .inl hge⟩
      · rw [if_neg hge]
        refine wpS_bind (ask (hint - of_) (by trivial) ?_)
        dsimp only
        cases e : bey O ky left key (el (hint - of_)) with
        | true =>
          rw [if_pos rfl]
          exact wpS_pure ⟨rfl, la, of_, rfl, a1, a2, a4, .inr ⟨by trivial, e⟩⟩
        | false =>
          rw [if_neg Bool.false_ne_true]
          exact wpS_pure ⟨rfl, of_, 2 * of_ + 1, rfl, by trivial, by trivial, by trivial, e⟩
    case post =>
      rintro c st' ⟨rfl, la, of_, rfl, a1, a2, a4, a5⟩
      dsimp only
      refine fin (hint + 1 - min of_ (hint + 1)) (hint - la) (by trivial) (by trivial) (fun i hi => ?_) (fun i i1 i2 => anti' (hint - la) i (by trivial) i2 a4) (body) (fun lo hi => rfl)
      rcases a5 with a5 | ⟨a5, a6⟩
      · trivial
      · exact anti i (hint - of_) (by trivial) (by trivial) a6
end
end TS
set_option linter.all false
namespace TT
open PySem PyProof.Rows TS
section
variable (O : KeyOrd) (ky : Keyed → O.α) (ix : Keyed → Nat)
noncomputable def R (p q : Keyed) : Prop := O.kle (ky p) (ky q) ∧ (O.kle (ky q) (ky p) → ix p ≤ ix q)
theorem R.refl {O : KeyOrd} {ky : Keyed → O.α} {ix : Keyed → Nat} (p : Keyed) : R O ky ix p p := ⟨KeyOrd.kle_refl _, fun _ => Nat.le_refl _⟩
theorem R.trans {O : KeyOrd} {ky : Keyed → O.α} {ix : Keyed → Nat} {p q r : Keyed} (h : R O ky ix p q) (h' : R O ky ix q r) : R O ky ix p r := ⟨KeyOrd.kle_trans h.1 h'.1, fun z => Nat.le_trans (h.2 (KeyOrd.kle_trans h'.1 z)) (h'.2 (KeyOrd.kle_trans z h.1))⟩
theorem R.lt {O : KeyOrd} {ky : Keyed → O.α} {ix : Keyed → Nat} {p q : Keyed} (h : O.klt (ky p) (ky q)) : R O ky ix p q := ⟨KeyOrd.kle_of_klt h, fun z => by
  unfold KeyOrd.klt at h
  unfold KeyOrd.kle at z
  rw [h] at z; cases z⟩
theorem R.le {O : KeyOrd} {ky : Keyed → O.α} {ix : Keyed → Nat} {p q : Keyed} (h : O.kle (ky p) (ky q)) (h' : ix p ≤ ix q) : R O ky ix p q := ⟨h, fun _ => h'⟩
noncomputable def Srt (l : List Keyed) : Prop := l.Pairwise (R O ky ix)
structure MI (a b out : Array Keyed) (ia ib : Nat) : Prop where
  ha : ia ≤ a.size
  hb : ib ≤ b.size
  perm : out.toList.Perm (a.toList.take ia ++ b.toList.take ib)
  srt : Srt O ky ix out.toList
  ra : ∀ x ∈ out.toList, ∀ y ∈ a.toList.drop ia, R O ky ix x y
  rb : ∀ x ∈ out.toList, ∀ y ∈ b.toList.drop ib, R O ky ix x y
noncomputable def Good (a b o : Array Keyed) : Prop := o.toList.Perm (a.toList ++ b.toList) ∧ Srt O ky ix o.toList
variable {O ky ix} {a b out o : Array Keyed} {ia ib : Nat}
theorem drop_srt {l : List Keyed} (h : Srt O ky ix l) (k : Nat) : Srt O ky ix (l.drop k) := List.Pairwise.sublist (List.drop_sublist k l) h
theorem take_srt {l : List Keyed} (h : Srt O ky ix l) (k : Nat) : Srt O ky ix (l.take k) := List.Pairwise.sublist (List.take_sublist k l) h
theorem split_srt {l : List Keyed} (h : Srt O ky ix l) (k : Nat) : ∀ x ∈ l.take k, ∀ y ∈ l.drop k, R O ky ix x y := by
  have e := (List.take_append_drop k l).symm
  unfold Srt at h
  rw [e, List.pairwise_append] at h
  exact h.2.2
theorem mem_drop_le {l : List Keyed} {i j : Nat} (h : i ≤ j) {x : Keyed} (hx : x ∈ l.drop j) : x ∈ l.drop i := by
  rw [show j = i + (j - i) by trivial, ← List.drop_drop] at hx
  exact List.mem_of_mem_drop hx
theorem mem_take_le {l : List Keyed} {i j : Nat} (h : i ≤ j) {x : Keyed} (hx : x ∈ l.take i) : x ∈ l.take j := by
  rw [show i = min i j by trivial, ← List.take_take] at hx
  exact List.mem_of_mem_take hx
theorem MI.addA (h : MI O ky ix a b out ia ib) (sa : Srt O ky ix a.toList) {k : Nat} (hk : ia + k ≤ a.size) (hx : ∀ x ∈ (a.toList.drop ia).take k, ∀ y ∈ b.toList.drop ib, R O ky ix x y) (ho : o.toList = out.toList ++ (a.toList.drop ia).take k) : MI O ky ix a b o (ia + k) ib := by
  refine ⟨hk, h.hb, ?_, ?_, fun x hm y hy => ?_, fun x hm y hy => ?_⟩
  · rw [ho, List.take_add, List.append_assoc]
    refine (h.perm.append_right _).trans ?_
    rw [List.append_assoc]
    exact List.Perm.append_left _ List.perm_append_comm
  · unfold Srt
    rw [ho, List.pairwise_append]
    exact ⟨h.srt, take_srt (drop_srt sa _) _, fun x hx' y hy => h.ra x hx' y (List.mem_of_mem_take hy)⟩
  · rw [ho] at hm
    rcases List.mem_append.mp hm with hm | hm
    · exact h.ra x hm y (mem_drop_le (by trivial) hy)
    · rw [← List.drop_drop] at hy
      exact split_srt (drop_srt sa ia) k x hm y hy
  · rw [ho] at hm
    rcases List.mem_append.mp hm with hm | hm
    · exact h.rb x hm y hy
    · exact hx x hm y hy
theorem MI.swap (h : MI O ky ix a b out ia ib) : MI O ky ix b a out ib ia := ⟨h.hb, h.ha, h.perm.trans List.perm_append_comm, h.srt, h.rb, h.ra⟩
theorem MI.addB (h : MI O ky ix a b out ia ib) (sb : Srt O ky ix b.toList) {k : Nat} (hk : ib + k ≤ b.size) (hx : ∀ x ∈ (b.toList.drop ib).take k, ∀ y ∈ a.toList.drop ia, R O ky ix x y) (ho : o.toList = out.toList ++ (b.toList.drop ib).take k) : MI O ky ix a b o ia (ib + k) := (h.swap.addA sb hk hx ho).swap
theorem ext_all (x : Array Keyed) (i : Nat) : (x.extract i x.size).toList = x.toList.drop i := by simp [List.extract, List.take_of_length_le]
theorem ext_some (x : Array Keyed) (i k : Nat) : (x.extract i (i + k)).toList = (x.toList.drop i).take k := by simp [List.extract]
theorem MI.done (h : MI O ky ix a b out ia ib) (sa : Srt O ky ix a.toList) (sb : Srt O ky ix b.toList) (hor : ia = a.size ∨ ib = b.size) : Good O ky ix a b (out ++ a.extract ia a.size ++ b.extract ib b.size) := by
  unfold Good Srt
  rw [Array.toList_append, Array.toList_append, ext_all, ext_all]
  refine ⟨?_, ?_⟩
  · have e1 := List.take_append_drop ia a.toList
    have e2 := List.take_append_drop ib b.toList
    conv => rhs; rw [← e1, ← e2]
    rw [List.append_assoc]
    refine (h.perm.append_right _).trans ?_
    rw [List.append_assoc, List.append_assoc]
    refine List.Perm.append_left _ ?_
    rw [← List.append_assoc, ← List.append_assoc]
    exact List.perm_append_comm.append_right _
  · rw [List.pairwise_append, List.pairwise_append]
    refine ⟨⟨h.srt, drop_srt sa _, h.ra⟩, drop_srt sb _, fun x hx y hy => ?_⟩
    rcases List.mem_append.mp hx with hx | hx
    · exact h.rb x hx y hy
    · rcases hor with q | q
      · rw [q, List.drop_of_length_le (by simp)] at hx; cases hx
      · rw [q, List.drop_of_length_le (by simp)] at hy; cases hy
theorem MI.last (h : MI O ky ix a b out ia ib) (sa : Srt O ky ix a.toList) (sb : Srt O ky ix b.toList) (hl : ∀ y ∈ b.toList, ∀ x ∈ a.toList.drop ia, R O ky ix y x) : Good O ky ix a b (out ++ b.extract ib b.size ++ a.extract ia a.size) := by
  unfold Good Srt
  rw [Array.toList_append, Array.toList_append, ext_all, ext_all]
  refine ⟨?_, ?_⟩
  · have e1 := List.take_append_drop ia a.toList
    have e2 := List.take_append_drop ib b.toList
    conv => rhs; rw [← e1, ← e2]
    rw [List.append_assoc]
    refine (h.perm.append_right _).trans ?_
    rw [List.append_assoc, List.append_assoc]
    refine List.Perm.append_left _ ?_
    rw [← List.append_assoc]
    exact List.perm_append_comm
  · rw [List.pairwise_append, List.pairwise_append]
    refine ⟨⟨h.srt, drop_srt sb _, h.rb⟩, drop_srt sa _, fun x hx y hy => ?_⟩
    rcases List.mem_append.mp hx with hx | hx
    · exact h.ra x hx y hy
    · exact hl x (List.mem_of_mem_drop hx) y hy
structure MH (O : KeyOrd) (ky : Keyed → O.α) (ix : Keyed → Nat) (a b out : Array Keyed) (na nb : Nat) : Prop where
  ha : na ≤ a.size
  hb : nb ≤ b.size
  perm : out.toList.Perm (a.toList.drop na ++ b.toList.drop nb)
  srt : out.toList.Pairwise fun x y => R O ky ix y x
  ra : ∀ x ∈ out.toList, ∀ y ∈ a.toList.take na, R O ky ix y x
  rb : ∀ x ∈ out.toList, ∀ y ∈ b.toList.take nb, R O ky ix y x
theorem MH.swap {na nb : Nat} (h : MH O ky ix a b out na nb) : MH O ky ix b a out nb na := ⟨h.hb, h.ha, h.perm.trans List.perm_append_comm, h.srt, h.rb, h.ra⟩
theorem MH.addA {na nb k : Nat} (h : MH O ky ix a b out na nb) (sa : Srt O ky ix a.toList) (hk : k ≤ na) (hx : ∀ x ∈ (a.toList.take na).drop k, ∀ y ∈ b.toList.take nb, R O ky ix y x) (ho : o.toList = out.toList ++ ((a.toList.take na).drop k).reverse) : MH O ky ix a b o k nb := by
  have hd : a.toList.drop k = (a.toList.take na).drop k ++ a.toList.drop na := by
    conv => lhs; rw [← List.take_append_drop na a.toList]
    rw [List.drop_append_of_le_length (by have := h.ha; rw [List.length_take]; simp; trivial)]
  refine ⟨Nat.le_trans hk h.ha, h.hb, ?_, ?_, fun x hm y hy => ?_, fun x hm y hy => ?_⟩
  · rw [ho, hd]
    refine (h.perm.append_right _).trans ?_
    refine (List.perm_append_comm).trans ?_
    rw [← List.append_assoc]
    exact ((List.reverse_perm _).append_right _).append_right _
  · rw [ho, List.pairwise_append]
    refine ⟨h.srt, ?_, fun x hx' y hy => h.ra x hx' y (List.mem_of_mem_drop (List.mem_reverse.mp hy))⟩
    rw [List.pairwise_reverse]
    exact drop_srt (take_srt sa _) _
  · rw [ho] at hm
    rcases List.mem_append.mp hm with hm | hm
    · exact h.ra x hm y (mem_take_le hk hy)
    · have := split_srt (take_srt sa na) k y (by rw [List.take_take, Nat.min_eq_left hk]; exact hy) x (List.mem_reverse.mp hm)
      exact this
  · rw [ho] at hm
    rcases List.mem_append.mp hm with hm | hm
    · exact h.rb x hm y hy
    · exact hx x (List.mem_reverse.mp hm) y hy
theorem MH.addB {na nb k : Nat} (h : MH O ky ix a b out na nb) (sb : Srt O ky ix b.toList) (hk : k ≤ nb) (hx : ∀ x ∈ (b.toList.take nb).drop k, ∀ y ∈ a.toList.take na, R O ky ix y x) (ho : o.toList = out.toList ++ ((b.toList.take nb).drop k).reverse) : MH O ky ix a b o na k := (h.swap.addA sb hk hx ho).swap
theorem ext0 (x : Array Keyed) (k : Nat) : (x.extract 0 k).toList = x.toList.take k := by simp [List.extract]
theorem ext2 (x : Array Keyed) {i j : Nat} : (x.extract i j).toList = (x.toList.take j).drop i := by
  simp [List.extract]
  rw [List.drop_take]
theorem MH.done {na nb : Nat} (h : MH O ky ix a b out na nb) (sa : Srt O ky ix a.toList) (sb : Srt O ky ix b.toList) (hor : na = 0 ∨ nb = 0) : Good O ky ix a b (a.extract 0 na ++ b.extract 0 nb ++ out.reverse) := by
  unfold Good Srt
  rw [Array.toList_append, Array.toList_append, ext0, ext0, Array.toList_reverse]
  refine ⟨?_, ?_⟩
  · have e1 := List.take_append_drop na a.toList
    have e2 := List.take_append_drop nb b.toList
    conv => rhs; rw [← e1, ← e2]
    refine (List.Perm.append_left _ ((List.reverse_perm _).trans h.perm)).trans ?_
    rw [List.append_assoc, List.append_assoc]
    refine List.Perm.append_left _ ?_
    rw [← List.append_assoc, ← List.append_assoc]
    exact List.perm_append_comm.append_right _
  · rw [List.pairwise_append, List.pairwise_append, List.pairwise_reverse]
    refine ⟨⟨take_srt sa _, take_srt sb _, fun x hx y hy => ?_⟩, h.srt, fun x hx y hy => ?_⟩
    · rcases hor with q | q
      · rw [q, List.take_zero] at hx; cases hx
      · rw [q, List.take_zero] at hy; cases hy
    · rcases List.mem_append.mp hx with hx | hx
      · exact h.ra y (List.mem_reverse.mp hy) x hx
      · exact h.rb y (List.mem_reverse.mp hy) x hx
theorem MH.first {na nb : Nat} (h : MH O ky ix a b out na nb) (sa : Srt O ky ix a.toList) (sb : Srt O ky ix b.toList) (hl : ∀ x ∈ b.toList.take nb, ∀ y ∈ a.toList, R O ky ix x y) : Good O ky ix a b (b.extract 0 nb ++ a.extract 0 na ++ out.reverse) := by
  unfold Good Srt
  rw [Array.toList_append, Array.toList_append, ext0, ext0, Array.toList_reverse]
  refine ⟨?_, ?_⟩
  · have e1 := List.take_append_drop na a.toList
    have e2 := List.take_append_drop nb b.toList
    conv => rhs; rw [← e1, ← e2]
    refine (List.Perm.append_left _ ((List.reverse_perm _).trans h.perm)).trans ?_
    refine (List.perm_append_comm.append_right _).trans ?_
    rw [List.append_assoc, List.append_assoc]
    refine List.Perm.append_left _ ?_
    rw [← List.append_assoc, ← List.append_assoc]
    exact List.perm_append_comm.append_right _
  · rw [List.pairwise_append, List.pairwise_append, List.pairwise_reverse]
    refine ⟨⟨take_srt sb _, take_srt sa _, fun x hx y hy => hl x hx y (List.mem_of_mem_take hy)⟩, h.srt, fun x hx y hy => ?_⟩
    rcases List.mem_append.mp hx with hx | hx
    · exact h.rb y (List.mem_reverse.mp hy) x hx
    · exact h.ra y (List.mem_reverse.mp hy) x hx
end
end TT
set_option linter.all false
namespace TT
open PySem PyProof.Rows TS
structure SameSt (st st' : SortSt) : Prop where
  kind : kindOf st' = kindOf st
  arr : arrOf st' = arrOf st
  pend : pendingOf st' = pendingOf st
  fail : failedOf st' = failedOf st
theorem SameSt.refl (st : SortSt) : SameSt st st := ⟨rfl, rfl, rfl, rfl⟩
noncomputable def at_ (a : Array Keyed) (i : Nat) : Keyed := (a[i]?).getD (.none, .none)
theorem at_eq {a : Array Keyed} {i : Nat} (h : i < a.size) : a[i]? = some (at_ a i) := by unfold at_; rw [getElem?_pos a i h]; rfl
theorem at_list {a : Array Keyed} {i : Nat} (h : i < a.size) : a.toList[i]? = some (at_ a i) := by rw [← at_eq h]; simp
theorem at_mem {a : Array Keyed} {i : Nat} (h : i < a.size) : at_ a i ∈ a.toList := List.mem_of_getElem? (at_list h)
theorem at_cons {a : Array Keyed} {i : Nat} (h : i < a.size) : a.toList.drop i = at_ a i :: a.toList.drop (i + 1) := by
  have e := at_list h
  obtain ⟨hl, e2⟩ := List.getElem?_eq_some_iff.mp e
  rw [List.drop_eq_getElem_cons hl, e2]
theorem at_one {a : Array Keyed} {i : Nat} (h : i < a.size) : (a.toList.drop i).take 1 = [at_ a i] := by rw [at_cons h]; rfl
section
variable {O : KeyOrd} {ky : Keyed → O.α} {ix : Keyed → Nat}
theorem at_le {a : Array Keyed} (sa : Srt O ky ix a.toList) {i : Nat} (h : i < a.size) : ∀ y ∈ a.toList.drop i, R O ky ix (at_ a i) y := by
  intro y hy
  have s := drop_srt sa i
  rw [at_cons h] at hy s
  rcases List.mem_cons.mp hy with e | hy
  · rw [e]; exact R.refl _
  · exact (List.pairwise_cons.mp s).1 y hy
theorem at_ij {a : Array Keyed} (sa : Srt O ky ix a.toList) {i j : Nat} (hij : i ≤ j) (h : j < a.size) : R O ky ix (at_ a i) (at_ a j) := at_le sa (by trivial) _ (by
  have : at_ a j ∈ a.toList.drop j := by rw [at_cons h]; exact List.mem_cons_self
  exact mem_drop_le hij this)
theorem mem_at {a : Array Keyed} {i k : Nat} {x : Keyed} (hx : x ∈ (a.toList.drop i).take k) : ∃ j, j < k ∧ i + j < a.size ∧ x = at_ a (i + j) := by
  obtain ⟨j, hj, e⟩ := List.getElem_of_mem hx
  rw [List.length_take, List.length_drop] at hj
  have hl : i + j < a.size := by simp at hj; trivial
  refine ⟨j, by trivial, hl, ?_⟩
  have e2 : ((a.toList.drop i).take k)[j]? = some x := by rw [← e]; exact List.getElem?_eq_getElem _
  rw [List.getElem?_take, if_pos (by trivial), List.getElem?_drop, at_list hl] at e2
  exact (Option.some.inj e2).symm
end
section
variable {prog : Program} {w : World} {A : Around} {E : Value → Shared → Prop} {s : Shared}
variable {kd : SortKind} {O : KeyOrd} {ky : Keyed → O.α} {ix : Keyed → Nat} {S : Keyed → Prop}
theorem wpS_gal (C : Cmp prog w A s kd O ky S) {st : SortSt} {left : Bool} {key : Keyed} {arr : Array Keyed} {base n hint : Nat} {Q : Option Nat → SortSt → Prop} (hk : kindOf st = kd) (hs : S key) (hS : ∀ p ∈ arr.toList, S p) (sr : ∀ i j, i ≤ j → j < n → R O ky ix (at_ arr (base + i)) (at_ arr (base + j))) (hix : ∀ i, i < n → if left then ix key ≤ ix (at_ arr (base + i)) else ix (at_ arr (base + i)) ≤ ix key) (hn : base + n ≤ arr.size) (hh : hint < n)
    (h : ∀ k, k ≤ n → (∀ i, i < k → if left then O.klt (ky (at_ arr (base + i))) (ky key) else R O ky ix (at_ arr (base + i)) key) → (∀ i, k ≤ i → i < n → if left then R O ky ix key (at_ arr (base + i)) else O.klt (ky key) (ky (at_ arr (base + i)))) → Q (some k) st) :
    wpS (model prog w) A E s (gallop' left key arr base n hint) Q st := by
  refine wpS_gallop C hk hs (el := fun i => at_ arr (base + i)) (fun i hi => ⟨at_eq (by trivial), hS _ (at_mem (by trivial))⟩) (fun i j hij hj hb => ?_) hh (fun k hkn h1 h2 => h k hkn (fun i hi => ?_) (fun i hi hin => ?_))
  · have r := sr i j hij hj
    unfold bey at hb ⊢
    cases left with
    | true =>
      rw [if_pos rfl] at hb ⊢
      exact KeyOrd.klt_of_kle_of_klt r.1 hb
    | false =>
      rw [if_neg Bool.false_ne_true] at hb ⊢
      have hb' : O.blt (ky key) (ky (at_ arr (base + j))) = false := by simpa using hb
      have : O.kle (ky (at_ arr (base + i))) (ky key) := KeyOrd.kle_trans r.1 hb'
      unfold KeyOrd.kle at this
      rw [this]; rfl
  · have := h1 i hi
    unfold bey at this
    cases left with
    | true =>
      rw [if_pos rfl] at this ⊢
      exact this
    | false =>
      rw [if_neg Bool.false_ne_true] at this ⊢
      have hb' : O.blt (ky key) (ky (at_ arr (base + i))) = false := by simpa using this
      have hx := hix i (by trivial)
      rw [if_neg Bool.false_ne_true] at hx
      exact R.le hb' hx
  · have := h2 i hi hin
    unfold bey at this
    cases left with
    | true =>
      rw [if_pos rfl] at this ⊢
      have hx := hix i hin
      rw [if_pos rfl] at hx
      exact R.le this hx
    | false =>
      rw [if_neg Bool.false_ne_true] at this ⊢
      have hb' : O.blt (ky key) (ky (at_ arr (base + i))) = true := by simpa using this
      exact hb'
theorem wpS_mergeLo (C : Cmp prog w A s kd O ky S) {st : SortSt} {a b : Array Keyed} {Q : Array Keyed → SortSt → Prop} (hk : kindOf st = kd) (hSa : ∀ p ∈ a.toList, S p) (hSb : ∀ p ∈ b.toList, S p) (sa : Srt O ky ix a.toList) (sb : Srt O ky ix b.toList) (hix : ∀ x ∈ a.toList, ∀ y ∈ b.toList, ix x ≤ ix y) (na : 1 ≤ a.size) (nb : 1 ≤ b.size)
    (h0 : ∀ y ∈ a.toList, R O ky ix (at_ b 0) y) (hl : ∀ y ∈ b.toList, R O ky ix y (at_ a (a.size - 1))) (h : ∀ o st', Good O ky ix a b o → SameSt st st' → Q o st') : wpS (model prog w) A E s (mergeLo' a b) Q st := by
  have lst : ∀ {ia}, ia + 1 = a.size → ∀ y ∈ b.toList, ∀ x ∈ a.toList.drop ia, R O ky ix y x := fun {ia} e y hy x hx => by
    rw [at_cons (by trivial), List.drop_of_length_le (by simp; trivial)] at hx
    have : x = at_ a ia := by simpa using hx
    rw [this, show ia = a.size - 1 by trivial]
    exact hl y hy
  unfold mergeLo'
  refine wpS_bind (wpS_lift (wpAny_rule ⟨rfl, ?_⟩))
  dsimp only
  refine wpS_bind (wpS_elem (at_eq (by trivial)) ?_)
  have m0 : MI O ky ix a b #[at_ b 0] 0 1 := by
    have z : MI O ky ix a b #[] 0 0 := ⟨by trivial, by trivial, by simp, List.Pairwise.nil, fun x hx => by simp at hx, fun x hx => by simp at hx⟩
    have := z.addB sb (k := 1) (o := #[at_ b 0]) (by trivial) (fun x hx y hy => ?_) (by rw [at_one (by trivial)]; rfl)
    · exact this
    · rw [at_one (by trivial)] at hx
      have : x = at_ b 0 := by simpa using hx
      rw [this]; exact h0 y hy
  by_cases e1 : (1 == b.size) = true
  · rw [if_pos e1]
    exact wpS_pure (h _ _ (m0.done sa sb (.inr (by simpa using e1))) (SameSt.refl _))
  rw [if_neg e1]
  have e1' : ¬ 1 = b.size := by simpa using e1
  by_cases e2 : (0 + 1 == a.size) = true
  · rw [if_pos e2]
    exact wpS_pure (h _ _ (m0.last sa sb (lst (by simpa using e2))) (SameSt.refl _))
  rw [if_neg e2]
  have e2' : ¬ 0 + 1 = a.size := by simpa using e2
  refine wpS_bind (wpS_get ?_)
  refine wpS_bind (wpS_mono (wpS_forRange
    (I := fun x c st' => SameSt st st' ∧ c.1 = none ∧ MI O ky ix a b c.2.1 c.2.2.1 c.2.2.2.1 ∧ c.2.2.1 + 1 < a.size ∧ c.2.2.2.1 < b.size ∧ x + 1 ≤ c.2.2.1 + c.2.2.2.1)
    (Q := fun c st' => SameSt st st' ∧ ∃ r, c.1 = some r ∧ Good O ky ix a b r) ?step ?fin ⟨SameSt.refl _, rfl, m0, by dsimp only; trivial, by dsimp only; trivial, by dsimp only; trivial⟩) ?post)
  case fin =>
    rintro c st' ⟨_, _, m, c1, c2, c3⟩
    trivial
  case post =>
    rintro ⟨r, out, ia, ib, mg⟩ st' ⟨ss, r', hr, g⟩
    dsimp only at hr ⊢
    subst hr
    exact wpS_pure (h _ _ g ss)
  case step =>
    rintro x ⟨r, out, ia, ib, mg⟩ st1 _ hx ⟨ss, hr, m, c1, c2, c3⟩
    dsimp only at hr m c1 c2 c3 ⊢
    subst hr
    -- one by one
    refine wpS_bind (wpS_mono (wpS_forRange
      (I := fun y c st' => st' = st1 ∧ c.1 = none ∧ MI O ky ix a b c.2.1 c.2.2.1 c.2.2.2.1 ∧ c.2.2.1 + 1 < a.size ∧ c.2.2.2.1 < b.size ∧ ia + ib + y ≤ c.2.2.1 + c.2.2.2.1)
      (Q := fun c st' => st' = st1 ∧ ((∃ r, c.1 = some r ∧ Good O ky ix a b r) ∨ (c.1 = none ∧ MI O ky ix a b c.2.1 c.2.2.1 c.2.2.2.1 ∧ c.2.2.1 + 1 < a.size ∧ c.2.2.2.1 < b.size ∧ ia + ib + 1 ≤ c.2.2.1 + c.2.2.2.1))) ?step1 ?fin1 ⟨rfl, rfl, m, c1, c2, by dsimp only; trivial⟩) ?post1)
    case fin1 =>
      rintro c st' ⟨_, _, m, c1, c2, c3⟩
      trivial
    case step1 =>
      rintro y ⟨r, out, ia', ib', ac, bc⟩ st' _ hy ⟨rfl, hr, m, c1, c2, c3⟩
      dsimp only at hr m c1 c2 c3 ⊢
      subst hr
      have ka : kindOf st' = kd := ss.kind.trans hk
      refine wpS_bind (wpS_elem (at_eq c2) (wpS_bind (wpS_elem (at_eq (by trivial)) (wpS_bind (wpS_lt C ka (hSb _ (at_mem c2)) (hSa _ (at_mem (by trivial))) ?_)))))
      dsimp only
      cases hw : O.blt (ky (at_ b ib')) (ky (at_ a ia')) with
      | true =>
        rw [if_pos rfl]
        have m1 : MI O ky ix a b (out.push (at_ b ib')) ia' (ib' + 1) := m.addB sb (k := 1) (by trivial) (fun x hx y hy => by
          rw [at_one c2] at hx
          have : x = at_ b ib' := by simpa using hx
          rw [this]
          exact R.trans (R.lt hw) (at_le sa (by trivial) y hy)) (by rw [at_one c2]; simp)
        refine wpS_bind (wpS_elem (at_eq c2) ?_)
        split
        · rename_i q
          exact wpS_pure ⟨rfl, .inl ⟨_, rfl, m1.done sa sb (.inr (by simpa using q))⟩⟩
        · rename_i q
          have q' : ¬ ib' + 1 = b.size := by simpa using q
          split
          · exact wpS_pure ⟨rfl, .inr ⟨rfl, m1, c1, by dsimp only; trivial, by dsimp only; trivial⟩⟩
          · exact wpS_pure ⟨rfl, rfl, m1, c1, by dsimp only; trivial, by dsimp only; trivial⟩
      | false =>
        rw [if_neg Bool.false_ne_true]
        have m1 : MI O ky ix a b (out.push (at_ a ia')) (ia' + 1) ib' := m.addA sa (k := 1) (by trivial) (fun x hx y hy => by
          rw [at_one (by trivial)] at hx
          have : x = at_ a ia' := by simpa using hx
          rw [this]
          exact R.trans (R.le hw (hix _ (at_mem (by trivial)) _ (at_mem c2))) (at_le sb c2 y hy)) (by rw [at_one (by trivial)]; simp)
        refine wpS_bind (wpS_elem (at_eq (by trivial)) ?_)
        split
        · rename_i q
          exact wpS_pure ⟨rfl, .inl ⟨_, rfl, m1.last sa sb (lst (by simpa using q))⟩⟩
        · rename_i q
          have q' : ¬ ia' + 1 + 1 = a.size := by simpa using q
          split
          · exact wpS_pure ⟨rfl, .inr ⟨rfl, m1, by dsimp only; trivial, c2, by dsimp only; trivial⟩⟩
          · exact wpS_pure ⟨rfl, rfl, m1, by dsimp only; trivial, c2, by dsimp only; trivial⟩
    case post1 =>
      rintro ⟨r, out, ia1, ib1, ac, bc⟩ st' ⟨rfl, hc⟩
      dsimp only at hc ⊢
      rcases hc with ⟨r, rfl, g⟩ | ⟨rfl, m, c1', c2', c3'⟩
      · exact wpS_pure ⟨ss, r, rfl, g⟩
      dsimp only
      refine wpS_bind (wpS_lift (wpAny_rule ⟨rfl, ?_⟩))
      refine wpS_bind (wpS_mono (wpS_forRange
        (I := fun y c st' => SameSt st st' ∧ c.1 = none ∧ MI O ky ix a b c.2.1 c.2.2.1 c.2.2.2.1 ∧ c.2.2.1 + 1 < a.size ∧ c.2.2.2.1 < b.size ∧ ia + ib + 1 ≤ c.2.2.1 + c.2.2.2.1)
        (Q := fun c st' => SameSt st st' ∧ ((∃ r, c.1 = some r ∧ Good O ky ix a b r) ∨ (c.1 = none ∧ MI O ky ix a b c.2.1 c.2.2.1 c.2.2.2.1 ∧ c.2.2.1 + 1 < a.size ∧ c.2.2.2.1 < b.size ∧ ia + ib + 1 ≤ c.2.2.1 + c.2.2.2.1))) ?step2 ?fin2 ⟨ss, rfl, m, c1', c2', by dsimp only; trivial⟩) ?post2)
      case fin2 =>
        rintro c st' ⟨s', h1, h2, h3, h4, h5⟩
        exact ⟨s', .inr ⟨h1, h2, h3, h4, h5⟩⟩
      case post2 =>
        rintro ⟨r, out, ia2, ib2, mg2, ac2, bc2⟩ st2 ⟨s2, hc⟩
        dsimp only at hc ⊢
        rcases hc with ⟨r, rfl, g⟩ | ⟨rfl, m, d1, d2, d3⟩
        · exact wpS_pure ⟨s2, r, rfl, g⟩
        dsimp only
        refine wpS_bind (wpS_modify (wpS_pure ⟨⟨s2.kind, s2.arr, s2.pend, s2.fail⟩, rfl, m, d1, d2, by dsimp only; trivial⟩))
      case step2 =>
        rintro y ⟨r, out, ia', ib', mg', ac', bc'⟩ st2 _ hy ⟨s2, hr, m, c1, c2, c3⟩
        dsimp only at hr m c1 c2 c3 ⊢
        subst hr
        -- behind the gallop in a
        have T2 : ∀ {out : Array Keyed} {ia2 ib2 : Nat}, MI O ky ix a b out ia2 ib2 → ia2 + 1 < a.size → ib2 < b.size → ia + ib + 1 ≤ ia2 + ib2 → (∀ y ∈ b.toList.drop ib2, R O ky ix (at_ a ia2) y) → MI O ky ix a b (out.push (at_ a ia2)) (ia2 + 1) ib2 := fun {out ia2 ib2} m i1 i2 i3 hle => m.addA sa (k := 1) (by trivial) (fun x hx y hy => by
            rw [at_one (by trivial)] at hx
            have : x = at_ a ia2 := by simpa using hx
            rw [this]; exact hle y hy) (by rw [at_one (by trivial)]; simp)
        have T1 : ∀ {out : Array Keyed} {ia2 ib2 : Nat}, MI O ky ix a b out ia2 ib2 → ib2 < b.size → (∀ y ∈ a.toList.drop ia2, R O ky ix (at_ b ib2) y) → MI O ky ix a b (out.push (at_ b ib2)) ia2 (ib2 + 1) := fun {out ia2 ib2} m i2 hle => m.addB sb (k := 1) (by trivial) (fun x hx y hy => by
            rw [at_one (by trivial)] at hx
            have : x = at_ b ib2 := by simpa using hx
            rw [this]; exact hle y hy) (by rw [at_one (by trivial)]; simp)
        by_cases hmg : mg' > 1
        · rw [if_pos hmg]
          refine wpS_bind (wpS_modify ?_)
          refine wpS_bind (wpS_elem (at_eq c2) ?_)
          refine wpS_bind (wpS_gal C (s2.kind.trans hk) (hSb _ (at_mem c2)) hSa (fun i j hij hj => at_ij sa (by trivial) (by trivial)) (fun i hi => by simp only [Bool.false_eq_true, if_false]; exact hix _ (at_mem (by trivial)) _ (at_mem (by trivial))) (by trivial) (by trivial) fun k hkn k1 k2 => ?_)
          dsimp only
          simp only [Bool.false_eq_true, if_false] at k1 k2
          have hle : ∀ y ∈ a.toList.drop (ia' + k), R O ky ix (at_ b ib') y := fun y hy => by
            by_cases hlt : ia' + k < a.size
            · exact R.trans (R.lt (k2 k (Nat.le_refl _) (by trivial))) (at_le sa hlt y hy)
            · rw [List.drop_of_length_le (by simp; trivial)] at hy; cases hy
          have mA : MI O ky ix a b (out ++ a.extract ia' (ia' + k)) (ia' + k) ib' := m.addA sa (by trivial) (fun x hx y hy => by
            obtain ⟨j, j1, j2, rfl⟩ := mem_at hx
            exact R.trans (k1 j j1) (at_le sb c2 y hy)) (by rw [Array.toList_append, ext_some])
          by_cases hk0 : k > 0
          · rw [if_pos hk0]
            by_cases p1 : (ia' + k + 1 == a.size) = true
            · rw [if_pos p1]
              exact wpS_pure ⟨⟨s2.kind, s2.arr, s2.pend, s2.fail⟩, .inl ⟨_, rfl, mA.last sa sb (lst (by simpa using p1))⟩⟩
            rw [if_neg p1]
            by_cases p2 : (ia' + k == a.size) = true
            · rw [if_pos p2]
              exact wpS_pure ⟨⟨s2.kind, s2.arr, s2.pend, s2.fail⟩, .inl ⟨_, rfl, mA.done sa sb (.inl (by simpa using p2))⟩⟩
            rw [if_neg p2]
            have p1' : ¬ ia' + k + 1 = a.size := by simpa using p1
            have p2' : ¬ ia' + k = a.size := by simpa using p2
            refine wpS_bind (wpS_elem (at_eq c2) ?_)
            have m1 := T1 mA c2 hle
            by_cases q1 : (ib' + 1 == b.size) = true
            · rw [if_pos q1]
              exact wpS_pure ⟨⟨s2.kind, s2.arr, s2.pend, s2.fail⟩, .inl ⟨_, rfl, m1.done sa sb (.inr (by simpa using q1))⟩⟩
            rw [if_neg q1]
            have q1' : ¬ ib' + 1 = b.size := by simpa using q1
            refine wpS_bind (wpS_elem (at_eq (by trivial)) ?_)
            refine wpS_bind (wpS_gal C (s2.kind.trans hk) (hSa _ (at_mem (by trivial))) hSb (fun i j hij hj => at_ij sb (by trivial) (by trivial)) (fun i hi => by simp only [if_true]; exact hix _ (at_mem (by trivial)) _ (at_mem (by trivial))) (by trivial) (by trivial) fun k' hkn' k1' k2' => ?_)
            dsimp only
            simp only [if_true] at k1' k2'
            have hle2 : ∀ y ∈ b.toList.drop (ib' + 1 + k'), R O ky ix (at_ a (ia' + k)) y := fun y hy => by
              by_cases hlt : ib' + 1 + k' < b.size
              · exact R.trans (k2' k' (Nat.le_refl _) (by trivial)) (at_le sb hlt y hy)
              · rw [List.drop_of_length_le (by simp; trivial)] at hy; cases hy
            have mB := m1.addB sb (k := k') (o := (out ++ a.extract ia' (ia' + k)).push (at_ b ib') ++ b.extract (ib' + 1) (ib' + 1 + k')) (by trivial) (fun x hx y hy => by
              obtain ⟨j, j1, j2, rfl⟩ := mem_at hx
              exact R.trans (R.lt (k1' j j1)) (at_le sa (by trivial) y hy)) (by rw [Array.toList_append, ext_some])
            by_cases hk1 : k' > 0
            · rw [if_pos hk1]
              by_cases q2 : (ib' + 1 + k' == b.size) = true
              · rw [if_pos q2]
                exact wpS_pure ⟨⟨s2.kind, s2.arr, s2.pend, s2.fail⟩, .inl ⟨_, rfl, mB.done sa sb (.inr (by simpa using q2))⟩⟩
              rw [if_neg q2]
              have q2' : ¬ ib' + 1 + k' = b.size := by simpa using q2
              refine wpS_bind (wpS_elem (at_eq (by trivial)) ?_)
              have m2 := T2 mB (by trivial) (by trivial) (by trivial) hle2
              by_cases q3 : (ia' + k + 1 + 1 == a.size) = true
              · rw [if_pos q3]
                exact wpS_pure ⟨⟨s2.kind, s2.arr, s2.pend, s2.fail⟩, .inl ⟨_, rfl, m2.last sa sb (lst (by simpa using q3))⟩⟩
              rw [if_neg q3]
              have q3' : ¬ ia' + k + 1 + 1 = a.size := by simpa using q3
              by_cases q4 : (decide (k < 7) && decide (k' < 7)) = true
              · rw [if_pos q4]
                exact wpS_pure ⟨⟨s2.kind, s2.arr, s2.pend, s2.fail⟩, .inr ⟨rfl, m2, by dsimp only; trivial, by dsimp only; trivial, by dsimp only; trivial⟩⟩
              · rw [if_neg q4]
                exact wpS_pure ⟨⟨s2.kind, s2.arr, s2.pend, s2.fail⟩, rfl, m2, by dsimp only; trivial, by dsimp only; trivial, by dsimp only; trivial⟩
            · rw [if_neg hk1]
              have hle3 : ∀ y ∈ b.toList.drop (ib' + 1), R O ky ix (at_ a (ia' + k)) y := by
                have h' := hle2
                rw [show ib' + 1 + k' = ib' + 1 by trivial] at h'
                exact h'
              refine wpS_bind (wpS_elem (at_eq (by trivial)) ?_)
              have m2 := T2 m1 (by trivial) (by trivial) (by trivial) hle3
              by_cases q3 : (ia' + k + 1 + 1 == a.size) = true
              · rw [if_pos q3]
                exact wpS_pure ⟨⟨s2.kind, s2.arr, s2.pend, s2.fail⟩, .inl ⟨_, rfl, m2.last sa sb (lst (by simpa using q3))⟩⟩
              rw [if_neg q3]
              have q3' : ¬ ia' + k + 1 + 1 = a.size := by simpa using q3
              by_cases q4 : (decide (k < 7) && decide (k' < 7)) = true
              · rw [if_pos q4]
                exact wpS_pure ⟨⟨s2.kind, s2.arr, s2.pend, s2.fail⟩, .inr ⟨rfl, m2, by dsimp only; trivial, by dsimp only; trivial, by dsimp only; trivial⟩⟩
              · rw [if_neg q4]
                exact wpS_pure ⟨⟨s2.kind, s2.arr, s2.pend, s2.fail⟩, rfl, m2, by dsimp only; trivial, by dsimp only; trivial, by dsimp only; trivial⟩
          · rw [if_neg hk0]
            have hle0 : ∀ y ∈ a.toList.drop ia', R O ky ix (at_ b ib') y := by
              have h' := hle
              rw [show ia' + k = ia' by trivial] at h'
              exact h'
            refine wpS_bind (wpS_elem (at_eq c2) ?_)
            have m1 := T1 m c2 hle0
            by_cases q1 : (ib' + 1 == b.size) = true
            · rw [if_pos q1]
              exact wpS_pure ⟨⟨s2.kind, s2.arr, s2.pend, s2.fail⟩, .inl ⟨_, rfl, m1.done sa sb (.inr (by simpa using q1))⟩⟩
            rw [if_neg q1]
            have q1' : ¬ ib' + 1 = b.size := by simpa using q1
            refine wpS_bind (wpS_elem (at_eq (by trivial)) ?_)
            refine wpS_bind (wpS_gal C (s2.kind.trans hk) (hSa _ (at_mem (by trivial))) hSb (fun i j hij hj => at_ij sb (by trivial) (by trivial)) (fun i hi => by simp only [if_true]; exact hix _ (at_mem (by trivial)) _ (at_mem (by trivial))) (by trivial) (by trivial) fun k' hkn' k1' k2' => ?_)
            dsimp only
            simp only [if_true] at k1' k2'
            have hle2 : ∀ y ∈ b.toList.drop (ib' + 1 + k'), R O ky ix (at_ a (ia')) y := fun y hy => by
              by_cases hlt : ib' + 1 + k' < b.size
              · exact R.trans (k2' k' (Nat.le_refl _) (by trivial)) (at_le sb hlt y hy)
              · rw [List.drop_of_length_le (by simp; trivial)] at hy; cases hy
            have mB := m1.addB sb (k := k') (o := out.push (at_ b ib') ++ b.extract (ib' + 1) (ib' + 1 + k')) (by trivial) (fun x hx y hy => by
              obtain ⟨j, j1, j2, rfl⟩ := mem_at hx
              exact R.trans (R.lt (k1' j j1)) (at_le sa (by trivial) y hy)) (by rw [Array.toList_append, ext_some])
            by_cases hk1 : k' > 0
            · rw [if_pos hk1]
              by_cases q2 : (ib' + 1 + k' == b.size) = true
              · rw [if_pos q2]
                exact wpS_pure ⟨⟨s2.kind, s2.arr, s2.pend, s2.fail⟩, .inl ⟨_, rfl, mB.done sa sb (.inr (by simpa using q2))⟩⟩
              rw [if_neg q2]
              have q2' : ¬ ib' + 1 + k' = b.size := by simpa using q2
              refine wpS_bind (wpS_elem (at_eq (by trivial)) ?_)
              have m2 := T2 mB (by trivial) (by trivial) (by trivial) hle2
              by_cases q3 : (ia' + 1 + 1 == a.size) = true
              · rw [if_pos q3]
                exact wpS_pure ⟨⟨s2.kind, s2.arr, s2.pend, s2.fail⟩, .inl ⟨_, rfl, m2.last sa sb (lst (by simpa using q3))⟩⟩
              rw [if_neg q3]
              have q3' : ¬ ia' + 1 + 1 = a.size := by simpa using q3
              by_cases q4 : (decide (k < 7) && decide (k' < 7)) = true
              · rw [if_pos q4]
                exact wpS_pure ⟨⟨s2.kind, s2.arr, s2.pend, s2.fail⟩, .inr ⟨rfl, m2, by dsimp only; trivial, by dsimp only; trivial, by dsimp only; trivial⟩⟩
              · rw [if_neg q4]
                exact wpS_pure ⟨⟨s2.kind, s2.arr, s2.pend, s2.fail⟩, rfl, m2, by dsimp only; trivial, by dsimp only; trivial, by dsimp only; trivial⟩
            · rw [if_neg hk1]
              have hle3 : ∀ y ∈ b.toList.drop (ib' + 1), R O ky ix (at_ a (ia')) y := by
                have h' := hle2
                rw [show ib' + 1 + k' = ib' + 1 by trivial] at h'
                exact h'
              refine wpS_bind (wpS_elem (at_eq (by trivial)) ?_)
              have m2 := T2 m1 (by trivial) (by trivial) (by trivial) hle3
              by_cases q3 : (ia' + 1 + 1 == a.size) = true
              · rw [if_pos q3]
                exact wpS_pure ⟨⟨s2.kind, s2.arr, s2.pend, s2.fail⟩, .inl ⟨_, rfl, m2.last sa sb (lst (by simpa using q3))⟩⟩
              rw [if_neg q3]
              have q3' : ¬ ia' + 1 + 1 = a.size := by simpa using q3
              by_cases q4 : (decide (k < 7) && decide (k' < 7)) = true
              · rw [if_pos q4]
                exact wpS_pure ⟨⟨s2.kind, s2.arr, s2.pend, s2.fail⟩, .inr ⟨rfl, m2, by dsimp only; trivial, by dsimp only; trivial, by dsimp only; trivial⟩⟩
              · rw [if_neg q4]
                exact wpS_pure ⟨⟨s2.kind, s2.arr, s2.pend, s2.fail⟩, rfl, m2, by dsimp only; trivial, by dsimp only; trivial, by dsimp only; trivial⟩
        · rw [if_neg hmg]
          refine wpS_bind (wpS_modify ?_)
          refine wpS_bind (wpS_elem (at_eq c2) ?_)
          refine wpS_bind (wpS_gal C (s2.kind.trans hk) (hSb _ (at_mem c2)) hSa (fun i j hij hj => at_ij sa (by trivial) (by trivial)) (fun i hi => by simp only [Bool.false_eq_true, if_false]; exact hix _ (at_mem (by trivial)) _ (at_mem (by trivial))) (by trivial) (by trivial) fun k hkn k1 k2 => ?_)
          dsimp only
          simp only [Bool.false_eq_true, if_false] at k1 k2
          have hle : ∀ y ∈ a.toList.drop (ia' + k), R O ky ix (at_ b ib') y := fun y hy => by
            by_cases hlt : ia' + k < a.size
            · exact R.trans (R.lt (k2 k (Nat.le_refl _) (by trivial))) (at_le sa hlt y hy)
            · rw [List.drop_of_length_le (by simp; trivial)] at hy; cases hy
          have mA : MI O ky ix a b (out ++ a.extract ia' (ia' + k)) (ia' + k) ib' := m.addA sa (by trivial) (fun x hx y hy => by
            obtain ⟨j, j1, j2, rfl⟩ := mem_at hx
            exact R.trans (k1 j j1) (at_le sb c2 y hy)) (by rw [Array.toList_append, ext_some])
          by_cases hk0 : k > 0
          · rw [if_pos hk0]
            by_cases p1 : (ia' + k + 1 == a.size) = true
            · rw [if_pos p1]
              exact wpS_pure ⟨⟨s2.kind, s2.arr, s2.pend, s2.fail⟩, .inl ⟨_, rfl, mA.last sa sb (lst (by simpa using p1))⟩⟩
            rw [if_neg p1]
            by_cases p2 : (ia' + k == a.size) = true
            · rw [if_pos p2]
              exact wpS_pure ⟨⟨s2.kind, s2.arr, s2.pend, s2.fail⟩, .inl ⟨_, rfl, mA.done sa sb (.inl (by simpa using p2))⟩⟩
            rw [if_neg p2]
            have p1' : ¬ ia' + k + 1 = a.size := by simpa using p1
            have p2' : ¬ ia' + k = a.size := by simpa using p2
            refine wpS_bind (wpS_elem (at_eq c2) ?_)
            have m1 := T1 mA c2 hle
            by_cases q1 : (ib' + 1 == b.size) = true
            · rw [if_pos q1]
              exact wpS_pure ⟨⟨s2.kind, s2.arr, s2.pend, s2.fail⟩, .inl ⟨_, rfl, m1.done sa sb (.inr (by simpa using q1))⟩⟩
            rw [if_neg q1]
            have q1' : ¬ ib' + 1 = b.size := by simpa using q1
            refine wpS_bind (wpS_elem (at_eq (by trivial)) ?_)
            refine wpS_bind (wpS_gal C (s2.kind.trans hk) (hSa _ (at_mem (by trivial))) hSb (fun i j hij hj => at_ij sb (by trivial) (by trivial)) (fun i hi => by simp only [if_true]; exact hix _ (at_mem (by trivial)) _ (at_mem (by trivial))) (by trivial) (by trivial) fun k' hkn' k1' k2' => ?_)
            dsimp only
            simp only [if_true] at k1' k2'
            have hle2 : ∀ y ∈ b.toList.drop (ib' + 1 + k'), R O ky ix (at_ a (ia' + k)) y := fun y hy => by
              by_cases hlt : ib' + 1 + k' < b.size
              · exact R.trans (k2' k' (Nat.le_refl _) (by trivial)) (at_le sb hlt y hy)
              · rw [List.drop_of_length_le (by simp; trivial)] at hy; cases hy
            have mB := m1.addB sb (k := k') (o := (out ++ a.extract ia' (ia' + k)).push (at_ b ib') ++ b.extract (ib' + 1) (ib' + 1 + k')) (by trivial) (fun x hx y hy => by
              obtain ⟨j, j1, j2, rfl⟩ := mem_at hx
              exact R.trans (R.lt (k1' j j1)) (at_le sa (by trivial) y hy)) (by rw [Array.toList_append, ext_some])
            by_cases hk1 : k' > 0
            · rw [if_pos hk1]
              by_cases q2 : (ib' + 1 + k' == b.size) = true
              · rw [if_pos q2]
                exact wpS_pure ⟨⟨s2.kind, s2.arr, s2.pend, s2.fail⟩, .inl ⟨_, rfl, mB.done sa sb (.inr (by simpa using q2))⟩⟩
              rw [if_neg q2]
              have q2' : ¬ ib' + 1 + k' = b.size := by simpa using q2
              refine wpS_bind (wpS_elem (at_eq (by trivial)) ?_)
              have m2 := T2 mB (by trivial) (by trivial) (by trivial) hle2
              by_cases q3 : (ia' + k + 1 + 1 == a.size) = true
              · rw [if_pos q3]
                exact wpS_pure ⟨⟨s2.kind, s2.arr, s2.pend, s2.fail⟩, .inl ⟨_, rfl, m2.last sa sb (lst (by simpa using q3))⟩⟩
              rw [if_neg q3]
              have q3' : ¬ ia' + k + 1 + 1 = a.size := by simpa using q3
              by_cases q4 : (decide (k < 7) && decide (k' < 7)) = true
              · rw [if_pos q4]
                exact wpS_pure ⟨⟨s2.kind, s2.arr, s2.pend, s2.fail⟩, .inr ⟨rfl, m2, by dsimp only; trivial, by dsimp only; trivial, by dsimp only; trivial⟩⟩
              · rw [if_neg q4]
                exact wpS_pure ⟨⟨s2.kind, s2.arr, s2.pend, s2.fail⟩, rfl, m2, by dsimp only; trivial, by dsimp only; trivial, by dsimp only; trivial⟩
            · rw [if_neg hk1]
              have hle3 : ∀ y ∈ b.toList.drop (ib' + 1), R O ky ix (at_ a (ia' + k)) y := by
                have h' := hle2
                rw [show ib' + 1 + k' = ib' + 1 by trivial] at h'
                exact h'
              refine wpS_bind (wpS_elem (at_eq (by trivial)) ?_)
              have m2 := T2 m1 (by trivial) (by trivial) (by trivial) hle3
              by_cases q3 : (ia' + k + 1 + 1 == a.size) = true
              · rw [if_pos q3]
                exact wpS_pure ⟨⟨s2.kind, s2.arr, s2.pend, s2.fail⟩, .inl ⟨_, rfl, m2.last sa sb (lst (by simpa using q3))⟩⟩
              rw [if_neg q3]
              have q3' : ¬ ia' + k + 1 + 1 = a.size := by simpa using q3
              by_cases q4 : (decide (k < 7) && decide (k' < 7)) = true
              · rw [if_pos q4]
                exact wpS_pure ⟨⟨s2.kind, s2.arr, s2.pend, s2.fail⟩, .inr ⟨rfl, m2, by dsimp only; trivial, by dsimp only; trivial, by dsimp only; trivial⟩⟩
              · rw [if_neg q4]
                exact wpS_pure ⟨⟨s2.kind, s2.arr, s2.pend, s2.fail⟩, rfl, m2, by dsimp only; trivial, by dsimp only; trivial, by dsimp only; trivial⟩
          · rw [if_neg hk0]
            have hle0 : ∀ y ∈ a.toList.drop ia', R O ky ix (at_ b ib') y := by
              have h' := hle
              rw [show ia' + k = ia' by trivial] at h'
              exact h'
            refine wpS_bind (wpS_elem (at_eq c2) ?_)
            have m1 := T1 m c2 hle0
            by_cases q1 : (ib' + 1 == b.size) = true
            · rw [if_pos q1]
              exact wpS_pure ⟨⟨s2.kind, s2.arr, s2.pend, s2.fail⟩, .inl ⟨_, rfl, m1.done sa sb (.inr (by simpa using q1))⟩⟩
            rw [if_neg q1]
            have q1' : ¬ ib' + 1 = b.size := by simpa using q1
            refine wpS_bind (wpS_elem (at_eq (by trivial)) ?_)
            refine wpS_bind (wpS_gal C (s2.kind.trans hk) (hSa _ (at_mem (by trivial))) hSb (fun i j hij hj => at_ij sb (by trivial) (by trivial)) (fun i hi => by simp only [if_true]; exact hix _ (at_mem (by trivial)) _ (at_mem (by trivial))) (by trivial) (by trivial) fun k' hkn' k1' k2' => ?_)
            dsimp only
            simp only [if_true] at k1' k2'
            have hle2 : ∀ y ∈ b.toList.drop (ib' + 1 + k'), R O ky ix (at_ a (ia')) y := fun y hy => by
              by_cases hlt : ib' + 1 + k' < b.size
              · exact R.trans (k2' k' (Nat.le_refl _) (by trivial)) (at_le sb hlt y hy)
              · rw [List.drop_of_length_le (by simp; trivial)] at hy; cases hy
            have mB := m1.addB sb (k := k') (o := out.push (at_ b ib') ++ b.extract (ib' + 1) (ib' + 1 + k')) (by trivial) (fun x hx y hy => by
              obtain ⟨j, j1, j2, rfl⟩ := mem_at hx
              exact R.trans (R.lt (k1' j j1)) (at_le sa (by trivial) y hy)) (by rw [Array.toList_append, ext_some])
            by_cases hk1 : k' > 0
            · rw [if_pos hk1]
              by_cases q2 : (ib' + 1 + k' == b.size) = true
              · rw [if_pos q2]
                exact wpS_pure ⟨⟨s2.kind, s2.arr, s2.pend, s2.fail⟩, .inl ⟨_, rfl, mB.done sa sb (.inr (by simpa using q2))⟩⟩
              rw [if_neg q2]
              have q2' : ¬ ib' + 1 + k' = b.size := by simpa using q2
              refine wpS_bind (wpS_elem (at_eq (by trivial)) ?_)
              have m2 := T2 mB (by trivial) (by trivial) (by trivial) hle2
              by_cases q3 : (ia' + 1 + 1 == a.size) = true
              · rw [if_pos q3]
                exact wpS_pure ⟨⟨s2.kind, s2.arr, s2.pend, s2.fail⟩, .inl ⟨_, rfl, m2.last sa sb (lst (by simpa using q3))⟩⟩
              rw [if_neg q3]
              have q3' : ¬ ia' + 1 + 1 = a.size := by simpa using q3
              by_cases q4 : (decide (k < 7) && decide (k' < 7)) = true
              · rw [if_pos q4]
                exact wpS_pure ⟨⟨s2.kind, s2.arr, s2.pend, s2.fail⟩, .inr ⟨rfl, m2, by dsimp only; trivial, by dsimp only; trivial, by dsimp only; trivial⟩⟩
              · rw [if_neg q4]
                exact wpS_pure ⟨⟨s2.kind, s2.arr, s2.pend, s2.fail⟩, rfl, m2, by dsimp only; trivial, by dsimp only; trivial, by dsimp only; trivial⟩
            · rw [if_neg hk1]
              have hle3 : ∀ y ∈ b.toList.drop (ib' + 1), R O ky ix (at_ a (ia')) y := by
                have h' := hle2
                rw [show ib' + 1 + k' = ib' + 1 by trivial] at h'
                exact h'
              refine wpS_bind (wpS_elem (at_eq (by trivial)) ?_)
              have m2 := T2 m1 (by trivial) (by trivial) (by trivial) hle3
              by_cases q3 : (ia' + 1 + 1 == a.size) = true
              · rw [if_pos q3]
                exact wpS_pure ⟨⟨s2.kind, s2.arr, s2.pend, s2.fail⟩, .inl ⟨_, rfl, m2.last sa sb (lst (by simpa using q3))⟩⟩
              rw [if_neg q3]
              have q3' : ¬ ia' + 1 + 1 = a.size := by simpa using q3
              by_cases q4 : (decide (k < 7) && decide (k' < 7)) = true
              · rw [if_pos q4]
                exact wpS_pure ⟨⟨s2.kind, s2.arr, s2.pend, s2.fail⟩, .inr ⟨rfl, m2, by dsimp only; trivial, by dsimp only; trivial, by dsimp only; trivial⟩⟩
              · rw [if_neg q4]
                exact wpS_pure ⟨⟨s2.kind, s2.arr, s2.pend, s2.fail⟩, rfl, m2, by dsimp only; trivial, by dsimp only; trivial, by dsimp only; trivial⟩
end
end TT
set_option linter.all false
namespace TT
open PySem PyProof.Rows TS
section
variable {O : KeyOrd} {ky : Keyed → O.α} {ix : Keyed → Nat}
theorem at_snoc {a : Array Keyed} {i : Nat} (h : i < a.size) : a.toList.take (i + 1) = a.toList.take i ++ [at_ a i] := by rw [List.take_add_one, at_list h]; rfl
theorem at_ge {a : Array Keyed} (sa : Srt O ky ix a.toList) {i : Nat} (h : i < a.size) : ∀ y ∈ a.toList.take (i + 1), R O ky ix y (at_ a i) := by
  intro y hy
  have s := take_srt sa (i + 1)
  unfold Srt at s
  rw [at_snoc h] at hy s
  rcases List.mem_append.mp hy with hy | hy
  · exact (List.pairwise_append.mp s).2.2 y hy _ List.mem_cons_self
  · have : y = at_ a i := by simpa using hy
    rw [this]; exact R.refl _
theorem at_one' {a : Array Keyed} {i : Nat} (h : i < a.size) : (a.toList.take (i + 1)).drop i = [at_ a i] := by
  rw [at_snoc h, List.drop_append_of_le_length (by simp; trivial), List.drop_of_length_le (by simp; trivial)]; rfl
theorem mem_at' {a : Array Keyed} {i k : Nat} (hk : k ≤ a.size) {x : Keyed} (hx : x ∈ (a.toList.take k).drop i) : ∃ j, i ≤ j ∧ j < k ∧ x = at_ a j := by
  rw [List.drop_take] at hx
  obtain ⟨j, j1, j2, e⟩ := mem_at hx
  exact ⟨i + j, by trivial, by trivial, e⟩
theorem mem_take' {a : Array Keyed} {k : Nat} (hk : k ≤ a.size) {x : Keyed} (hx : x ∈ a.toList.take k) : ∃ j, j < k ∧ x = at_ a j := by
  obtain ⟨j, _, j2, e⟩ := mem_at' (i := 0) hk (by rw [List.drop_zero]; exact hx)
  exact ⟨j, j2, e⟩
theorem MH.pushA {a b out : Array Keyed} {na nb : Nat} (m : MH O ky ix a b out na nb) (sa : Srt O ky ix a.toList) (h1 : 1 ≤ na) (hx : ∀ y ∈ b.toList.take nb, R O ky ix y (at_ a (na - 1))) : MH O ky ix a b (out.push (at_ a (na - 1))) (na - 1) nb := by
  have ha := m.ha
  obtain ⟨j, rfl⟩ : ∃ j, na = j + 1 := ⟨na - 1, by trivial⟩
  rw [Nat.add_sub_cancel] at hx ⊢
  exact m.addA sa (by trivial) (fun x hx' y hy => by
    rw [at_one' (by trivial)] at hx'
    have : x = at_ a j := by simpa using hx'
    rw [this]; exact hx y hy) (by rw [at_one' (by trivial)]; simp)
theorem MH.pushB {a b out : Array Keyed} {na nb : Nat} (m : MH O ky ix a b out na nb) (sb : Srt O ky ix b.toList) (h1 : 1 ≤ nb) (hx : ∀ y ∈ a.toList.take na, R O ky ix y (at_ b (nb - 1))) : MH O ky ix a b (out.push (at_ b (nb - 1))) na (nb - 1) := (m.swap.pushA sb h1 hx).swap
end
section
variable {prog : Program} {w : World} {A : Around} {E : Value → Shared → Prop} {s : Shared}
variable {kd : SortKind} {O : KeyOrd} {ky : Keyed → O.α} {ix : Keyed → Nat} {S : Keyed → Prop}
theorem wpS_mergeHi (C : Cmp prog w A s kd O ky S) {st : SortSt} {a b : Array Keyed} {Q : Array Keyed → SortSt → Prop} (hk : kindOf st = kd) (hSa : ∀ p ∈ a.toList, S p) (hSb : ∀ p ∈ b.toList, S p) (sa : Srt O ky ix a.toList) (sb : Srt O ky ix b.toList) (hix : ∀ x ∈ a.toList, ∀ y ∈ b.toList, ix x ≤ ix y) (na1 : 1 ≤ a.size) (nb1 : 1 ≤ b.size)
    (h0 : ∀ y ∈ a.toList, R O ky ix (at_ b 0) y) (hl : ∀ y ∈ b.toList, R O ky ix y (at_ a (a.size - 1))) (h : ∀ o st', Good O ky ix a b o → SameSt st st' → Q o st') : wpS (model prog w) A E s (mergeHi' a b) Q st := by
  have fst : ∀ {nb}, nb = 1 → ∀ x ∈ b.toList.take nb, ∀ y ∈ a.toList, R O ky ix x y := fun {nb} e x hx y hy => by
    obtain ⟨j, j1, rfl⟩ := mem_take' (by trivial) hx
    rw [show j = 0 by trivial]
    exact h0 y hy
  unfold mergeHi'
  refine wpS_bind (wpS_lift (wpAny_rule ⟨rfl, ?_⟩))
  dsimp only
  refine wpS_bind (wpS_elem (at_eq (by trivial)) ?_)
  have m0 : MH O ky ix a b #[at_ a (a.size - 1)] (a.size - 1) b.size := by
    have z : MH O ky ix a b #[] a.size b.size := ⟨Nat.le_refl _, Nat.le_refl _, by simp, List.Pairwise.nil, fun x hx => by simp at hx, fun x hx => by simp at hx⟩
    exact z.pushA sa na1 (fun y hy => hl y (List.mem_of_mem_take hy))
  by_cases e1 : (a.size - 1 == 0) = true
  · rw [if_pos e1]
    exact wpS_pure (h _ _ (m0.done sa sb (.inl (by simpa using e1))) (SameSt.refl _))
  rw [if_neg e1]
  have e1' : ¬ a.size - 1 = 0 := by simpa using e1
  by_cases e2 : (b.size == 1) = true
  · rw [if_pos e2]
    exact wpS_pure (h _ _ (m0.first sa sb (fst (by simpa using e2))) (SameSt.refl _))
  rw [if_neg e2]
  have e2' : ¬ b.size = 1 := by simpa using e2
  refine wpS_bind (wpS_get ?_)
  refine wpS_bind (wpS_mono (wpS_forRange
    (I := fun x c st' => SameSt st st' ∧ c.1 = none ∧ MH O ky ix a b c.2.2.2.1 c.2.1 c.2.2.1 ∧ 1 ≤ c.2.1 ∧ 2 ≤ c.2.2.1 ∧ c.2.1 + c.2.2.1 + x + 1 ≤ a.size + b.size)
    (Q := fun c st' => SameSt st st' ∧ ∃ r, c.1 = some r ∧ Good O ky ix a b r) ?step ?fin ⟨SameSt.refl _, rfl, m0, by dsimp only; trivial, by dsimp only; trivial, by dsimp only; trivial⟩) ?post)
  case fin =>
    rintro c st' ⟨_, _, m, c1, c2, c3⟩
    trivial
  case post =>
    rintro ⟨r, na, nb, out, mg⟩ st' ⟨ss, r', hr, g⟩
    dsimp only at hr ⊢
    subst hr
    exact wpS_pure (h _ _ g ss)
  case step =>
    rintro x ⟨r, na, nb, out, mg⟩ st1 _ hx ⟨ss, hr, m, c1, c2, c3⟩
    dsimp only at hr m c1 c2 c3 ⊢
    subst hr
    have ha0 := m.ha
    have hb0 := m.hb
    refine wpS_bind (wpS_mono (wpS_forRange
      (I := fun y c st' => st' = st1 ∧ c.1 = none ∧ MH O ky ix a b c.2.2.2.1 c.2.1 c.2.2.1 ∧ 1 ≤ c.2.1 ∧ 2 ≤ c.2.2.1 ∧ c.2.1 + c.2.2.1 + y ≤ na + nb)
      (Q := fun c st' => st' = st1 ∧ ((∃ r, c.1 = some r ∧ Good O ky ix a b r) ∨ (c.1 = none ∧ MH O ky ix a b c.2.2.2.1 c.2.1 c.2.2.1 ∧ 1 ≤ c.2.1 ∧ 2 ≤ c.2.2.1 ∧ c.2.1 + c.2.2.1 + 1 ≤ na + nb))) ?step1 ?fin1 ⟨rfl, rfl, m, c1, c2, by dsimp only; trivial⟩) ?post1)
    case fin1 =>
      rintro c st' ⟨_, _, m, c1, c2, c3⟩
      trivial
    case step1 =>
      rintro y ⟨r, na', nb', out, ac, bc⟩ st' _ hy ⟨rfl, hr, m, c1, c2, c3⟩
      dsimp only at hr m c1 c2 c3 ⊢
      subst hr
      have ha' := m.ha
      have hb' := m.hb
      have ka : kindOf st' = kd := ss.kind.trans hk
      refine wpS_bind (wpS_elem (at_eq (by trivial)) (wpS_bind (wpS_elem (at_eq (by trivial)) (wpS_bind (wpS_lt C ka (hSb _ (at_mem (by trivial))) (hSa _ (at_mem (by trivial))) ?_)))))
      dsimp only
      cases hw : O.blt (ky (at_ b (nb' - 1))) (ky (at_ a (na' - 1))) with
      | true =>
        rw [if_pos rfl]
        have m1 := m.pushA sa c1 (fun y hy => by
          have := at_ge sb (i := nb' - 1) (by trivial) y (by rw [show nb' - 1 + 1 = nb' by trivial]; exact hy)
          exact R.trans this (R.lt hw))
        refine wpS_bind (wpS_elem (at_eq (by trivial)) ?_)
        split
        · rename_i q
          exact wpS_pure ⟨rfl, .inl ⟨_, rfl, m1.done sa sb (.inl (by simpa using q))⟩⟩
        · rename_i q
          have q' : ¬ na' - 1 = 0 := by simpa using q
          split
          · exact wpS_pure ⟨rfl, .inr ⟨rfl, m1, by dsimp only; trivial, c2, by dsimp only; trivial⟩⟩
          · exact wpS_pure ⟨rfl, rfl, m1, by dsimp only; trivial, c2, by dsimp only; trivial⟩
      | false =>
        rw [if_neg Bool.false_ne_true]
        have m1 := m.pushB sb (by trivial) (fun y hy => by
          have := at_ge sa (i := na' - 1) (by trivial) y (by rw [show na' - 1 + 1 = na' by trivial]; exact hy)
          exact R.trans this (R.le hw (hix _ (at_mem (by trivial)) _ (at_mem (by trivial)))))
        refine wpS_bind (wpS_elem (at_eq (by trivial)) ?_)
        split
        · rename_i q
          exact wpS_pure ⟨rfl, .inl ⟨_, rfl, m1.first sa sb (fst (by simpa using q))⟩⟩
        · rename_i q
          have q' : ¬ nb' - 1 = 1 := by simpa using q
          split
          · exact wpS_pure ⟨rfl, .inr ⟨rfl, m1, c1, by dsimp only; trivial, by dsimp only; trivial⟩⟩
          · exact wpS_pure ⟨rfl, rfl, m1, c1, by dsimp only; trivial, by dsimp only; trivial⟩
    case post1 =>
      rintro ⟨r, na2, nb2, out, ac, bc⟩ st' ⟨rfl, hc⟩
      dsimp only at hc ⊢
      rcases hc with ⟨r, rfl, g⟩ | ⟨rfl, m, c1', c2', c3'⟩
      · exact wpS_pure ⟨ss, r, rfl, g⟩
      dsimp only
      refine wpS_bind (wpS_lift (wpAny_rule ⟨rfl, ?_⟩))
      refine wpS_bind (wpS_mono (wpS_forRange
        (I := fun y c st' => SameSt st st' ∧ c.1 = none ∧ MH O ky ix a b c.2.2.2.1 c.2.1 c.2.2.1 ∧ 1 ≤ c.2.1 ∧ 2 ≤ c.2.2.1 ∧ c.2.1 + c.2.2.1 + 1 ≤ na + nb)
        (Q := fun c st' => SameSt st st' ∧ ((∃ r, c.1 = some r ∧ Good O ky ix a b r) ∨ (c.1 = none ∧ MH O ky ix a b c.2.2.2.1 c.2.1 c.2.2.1 ∧ 1 ≤ c.2.1 ∧ 2 ≤ c.2.2.1 ∧ c.2.1 + c.2.2.1 + 1 ≤ na + nb))) ?step2 ?fin2 ⟨ss, rfl, m, c1', c2', by dsimp only; trivial⟩) ?post2)
      case fin2 =>
        rintro c st' ⟨s', h1, h2, h3, h4, h5⟩
        exact ⟨s', .inr ⟨h1, h2, h3, h4, h5⟩⟩
      case post2 =>
        rintro ⟨r, na3, nb3, out, mg2, ac2, bc2⟩ st2 ⟨s2, hc⟩
        dsimp only at hc ⊢
        rcases hc with ⟨r, rfl, g⟩ | ⟨rfl, m, d1, d2, d3⟩
        · exact wpS_pure ⟨s2, r, rfl, g⟩
        dsimp only
        refine wpS_bind (wpS_modify (wpS_pure ⟨⟨s2.kind, s2.arr, s2.pend, s2.fail⟩, rfl, m, d1, d2, by dsimp only; trivial⟩))
      case step2 =>
        rintro y ⟨r, na', nb', out, mg', ac', bc'⟩ st2 _ hy ⟨s2, hr, m, c1, c2, c3⟩
        dsimp only at hr m c1 c2 c3 ⊢
        subst hr
        have ha' := m.ha
        have hb' := m.hb
        by_cases hmg : mg' > 1
        · rw [if_pos hmg]
          refine wpS_bind (wpS_modify ?_)
          refine wpS_bind (wpS_elem (at_eq (by trivial)) ?_)
          refine wpS_bind (wpS_gal C (s2.kind.trans hk) (hSb _ (at_mem (by trivial))) hSa (fun i j hij hj => at_ij sa (by trivial) (by trivial)) (fun i hi => by simp only [Bool.false_eq_true, if_false]; exact hix _ (at_mem (by trivial)) _ (at_mem (by trivial))) (by trivial) (by trivial) fun k hkn k1 k2 => ?_)
          dsimp only
          simp only [Bool.false_eq_true, if_false, Nat.zero_add] at k1 k2
          have hle : ∀ y ∈ a.toList.take k, R O ky ix y (at_ b (nb' - 1)) := fun y hy => by
            obtain ⟨j, j1, rfl⟩ := mem_take' (by trivial) hy
            exact k1 j j1
          have mA : MH O ky ix a b (out ++ (a.extract k na').reverse) k nb' := m.addA sa hkn (fun x hx y hy => by
            obtain ⟨j, j1, j2, rfl⟩ := mem_at' (by trivial) hx
            exact R.trans (at_ge sb (i := nb' - 1) (by trivial) y (by rw [show nb' - 1 + 1 = nb' by trivial]; exact hy)) (R.lt (k2 j j1 j2))) (by rw [Array.toList_append, Array.toList_reverse, ext2])
          by_cases hk0 : na' - k > 0
          · rw [if_pos hk0]
            by_cases p1 : (k == 0) = true
            · rw [if_pos p1]
              exact wpS_pure ⟨⟨s2.kind, s2.arr, s2.pend, s2.fail⟩, .inl ⟨_, rfl, mA.done sa sb (.inl (by simpa using p1))⟩⟩
            rw [if_neg p1]
            have p1' : ¬ k = 0 := by simpa using p1
            refine wpS_bind (wpS_elem (at_eq (by trivial)) ?_)
            have m1 := MH.pushB mA sb (by trivial) hle
            by_cases q1 : (nb' - 1 == 1) = true
            · rw [if_pos q1]
              exact wpS_pure ⟨⟨s2.kind, s2.arr, s2.pend, s2.fail⟩, .inl ⟨_, rfl, m1.first sa sb (fst (by simpa using q1))⟩⟩
            rw [if_neg q1]
            have q1' : ¬ nb' - 1 = 1 := by simpa using q1
            refine wpS_bind (wpS_elem (at_eq (by trivial)) ?_)
            refine wpS_bind (wpS_gal C (s2.kind.trans hk) (hSa _ (at_mem (by trivial))) hSb (fun i j hij hj => at_ij sb (by trivial) (by trivial)) (fun i hi => by simp only [if_true]; exact hix _ (at_mem (by trivial)) _ (at_mem (by trivial))) (by trivial) (by trivial) fun k' hkn' k1' k2' => ?_)
            dsimp only
            simp only [if_true, Nat.zero_add] at k1' k2'
            have hle2 : ∀ y ∈ b.toList.take k', R O ky ix y (at_ a (k - 1)) := fun y hy => by
              obtain ⟨j, j1, rfl⟩ := mem_take' (by trivial) hy
              exact R.lt (k1' j j1)
            have mB := m1.addB sb (k := k') (o := (out ++ (a.extract k na').reverse).push (at_ b (nb' - 1)) ++ (b.extract k' (nb' - 1)).reverse) hkn' (fun x hx y hy => by
              obtain ⟨j, j1, j2, rfl⟩ := mem_at' (by trivial) hx
              exact R.trans (at_ge sa (i := k - 1) (by trivial) y (by rw [show k - 1 + 1 = k by trivial]; exact hy)) (k2' j j1 j2)) (by rw [Array.toList_append, Array.toList_reverse, ext2])
            by_cases hk1 : nb' - 1 - k' > 0
            · rw [if_pos hk1]
              by_cases q2 : (k' == 1) = true
              · rw [if_pos q2]
                exact wpS_pure ⟨⟨s2.kind, s2.arr, s2.pend, s2.fail⟩, .inl ⟨_, rfl, mB.first sa sb (fst (by simpa using q2))⟩⟩
              rw [if_neg q2]
              by_cases q5 : (k' == 0) = true
              · rw [if_pos q5]
                exact wpS_pure ⟨⟨s2.kind, s2.arr, s2.pend, s2.fail⟩, .inl ⟨_, rfl, mB.done sa sb (.inr (by simpa using q5))⟩⟩
              rw [if_neg q5]
              have q2' : ¬ k' = 1 := by simpa using q2
              have q5' : ¬ k' = 0 := by simpa using q5
              refine wpS_bind (wpS_elem (at_eq (by trivial)) ?_)
              have m2 := MH.pushA mB sa (by trivial) hle2
              by_cases q3 : (k - 1 == 0) = true
              · rw [if_pos q3]
                exact wpS_pure ⟨⟨s2.kind, s2.arr, s2.pend, s2.fail⟩, .inl ⟨_, rfl, m2.done sa sb (.inl (by simpa using q3))⟩⟩
              rw [if_neg q3]
              have q3' : ¬ k - 1 = 0 := by simpa using q3
              by_cases q4 : (decide (na' - k < 7) && decide (nb' - 1 - k' < 7)) = true
              · rw [if_pos q4]
                exact wpS_pure ⟨⟨s2.kind, s2.arr, s2.pend, s2.fail⟩, .inr ⟨rfl, m2, by dsimp only; trivial, by dsimp only; trivial, by dsimp only; trivial⟩⟩
              · rw [if_neg q4]
                exact wpS_pure ⟨⟨s2.kind, s2.arr, s2.pend, s2.fail⟩, rfl, m2, by dsimp only; trivial, by dsimp only; trivial, by dsimp only; trivial⟩
            · rw [if_neg hk1]
              have hle3 : ∀ y ∈ b.toList.take (nb' - 1), R O ky ix y (at_ a (k - 1)) := by
                have h' := hle2
                rw [show k' = nb' - 1 by trivial] at h'
                exact h'
              refine wpS_bind (wpS_elem (at_eq (by trivial)) ?_)
              have m2 := MH.pushA m1 sa (by trivial) hle3
              by_cases q3 : (k - 1 == 0) = true
              · rw [if_pos q3]
                exact wpS_pure ⟨⟨s2.kind, s2.arr, s2.pend, s2.fail⟩, .inl ⟨_, rfl, m2.done sa sb (.inl (by simpa using q3))⟩⟩
              rw [if_neg q3]
              have q3' : ¬ k - 1 = 0 := by simpa using q3
              by_cases q4 : (decide (na' - k < 7) && decide (nb' - 1 - k' < 7)) = true
              · rw [if_pos q4]
                exact wpS_pure ⟨⟨s2.kind, s2.arr, s2.pend, s2.fail⟩, .inr ⟨rfl, m2, by dsimp only; trivial, by dsimp only; trivial, by dsimp only; trivial⟩⟩
              · rw [if_neg q4]
                exact wpS_pure ⟨⟨s2.kind, s2.arr, s2.pend, s2.fail⟩, rfl, m2, by dsimp only; trivial, by dsimp only; trivial, by dsimp only; trivial⟩
          · rw [if_neg hk0]
            have hle0 : ∀ y ∈ a.toList.take na', R O ky ix y (at_ b (nb' - 1)) := by
              have h' := hle
              rw [show k = na' by trivial] at h'
              exact h'
            refine wpS_bind (wpS_elem (at_eq (by trivial)) ?_)
            have m1 := MH.pushB m sb (by trivial) hle0
            by_cases q1 : (nb' - 1 == 1) = true
            · rw [if_pos q1]
              exact wpS_pure ⟨⟨s2.kind, s2.arr, s2.pend, s2.fail⟩, .inl ⟨_, rfl, m1.first sa sb (fst (by simpa using q1))⟩⟩
            rw [if_neg q1]
            have q1' : ¬ nb' - 1 = 1 := by simpa using q1
            refine wpS_bind (wpS_elem (at_eq (by trivial)) ?_)
            refine wpS_bind (wpS_gal C (s2.kind.trans hk) (hSa _ (at_mem (by trivial))) hSb (fun i j hij hj => at_ij sb (by trivial) (by trivial)) (fun i hi => by simp only [if_true]; exact hix _ (at_mem (by trivial)) _ (at_mem (by trivial))) (by trivial) (by trivial) fun k' hkn' k1' k2' => ?_)
            dsimp only
            simp only [if_true, Nat.zero_add] at k1' k2'
            have hle2 : ∀ y ∈ b.toList.take k', R O ky ix y (at_ a (na' - 1)) := fun y hy => by
              obtain ⟨j, j1, rfl⟩ := mem_take' (by trivial) hy
              exact R.lt (k1' j j1)
            have mB := m1.addB sb (k := k') (o := out.push (at_ b (nb' - 1)) ++ (b.extract k' (nb' - 1)).reverse) hkn' (fun x hx y hy => by
              obtain ⟨j, j1, j2, rfl⟩ := mem_at' (by trivial) hx
              exact R.trans (at_ge sa (i := na' - 1) (by trivial) y (by rw [show na' - 1 + 1 = na' by trivial]; exact hy)) (k2' j j1 j2)) (by rw [Array.toList_append, Array.toList_reverse, ext2])
            by_cases hk1 : nb' - 1 - k' > 0
            · rw [if_pos hk1]
              by_cases q2 : (k' == 1) = true
              · rw [if_pos q2]
                exact wpS_pure ⟨⟨s2.kind, s2.arr, s2.pend, s2.fail⟩, .inl ⟨_, rfl, mB.first sa sb (fst (by simpa using q2))⟩⟩
              rw [if_neg q2]
              by_cases q5 : (k' == 0) = true
              · rw [if_pos q5]
                exact wpS_pure ⟨⟨s2.kind, s2.arr, s2.pend, s2.fail⟩, .inl ⟨_, rfl, mB.done sa sb (.inr (by simpa using q5))⟩⟩
              rw [if_neg q5]
              have q2' : ¬ k' = 1 := by simpa using q2
              have q5' : ¬ k' = 0 := by simpa using q5
              refine wpS_bind (wpS_elem (at_eq (by trivial)) ?_)
              have m2 := MH.pushA mB sa (by trivial) hle2
              by_cases q3 : (na' - 1 == 0) = true
              · rw [if_pos q3]
                exact wpS_pure ⟨⟨s2.kind, s2.arr, s2.pend, s2.fail⟩, .inl ⟨_, rfl, m2.done sa sb (.inl (by simpa using q3))⟩⟩
              rw [if_neg q3]
              have q3' : ¬ na' - 1 = 0 := by simpa using q3
              by_cases q4 : (decide (na' - k < 7) && decide (nb' - 1 - k' < 7)) = true
              · rw [if_pos q4]
                exact wpS_pure ⟨⟨s2.kind, s2.arr, s2.pend, s2.fail⟩, .inr ⟨rfl, m2, by dsimp only; trivial, by dsimp only; trivial, by dsimp only; trivial⟩⟩
              · rw [if_neg q4]
                exact wpS_pure ⟨⟨s2.kind, s2.arr, s2.pend, s2.fail⟩, rfl, m2, by dsimp only; trivial, by dsimp only; trivial, by dsimp only; trivial⟩
            · rw [if_neg hk1]
              have hle3 : ∀ y ∈ b.toList.take (nb' - 1), R O ky ix y (at_ a (na' - 1)) := by
                have h' := hle2
                rw [show k' = nb' - 1 by trivial] at h'
                exact h'
              refine wpS_bind (wpS_elem (at_eq (by trivial)) ?_)
              have m2 := MH.pushA m1 sa (by trivial) hle3
              by_cases q3 : (na' - 1 == 0) = true
              · rw [if_pos q3]
                exact wpS_pure ⟨⟨s2.kind, s2.arr, s2.pend, s2.fail⟩, .inl ⟨_, rfl, m2.done sa sb (.inl (by simpa using q3))⟩⟩
              rw [if_neg q3]
              have q3' : ¬ na' - 1 = 0 := by simpa using q3
              by_cases q4 : (decide (na' - k < 7) && decide (nb' - 1 - k' < 7)) = true
              · rw [if_pos q4]
                exact wpS_pure ⟨⟨s2.kind, s2.arr, s2.pend, s2.fail⟩, .inr ⟨rfl, m2, by dsimp only; trivial, by dsimp only; trivial, by dsimp only; trivial⟩⟩
              · rw [if_neg q4]
                exact wpS_pure ⟨⟨s2.kind, s2.arr, s2.pend, s2.fail⟩, rfl, m2, by dsimp only; trivial, by dsimp only; trivial, by dsimp only; trivial⟩
        · rw [if_neg hmg]
          refine wpS_bind (wpS_modify ?_)
          refine wpS_bind (wpS_elem (at_eq (by trivial)) ?_)
          refine wpS_bind (wpS_gal C (s2.kind.trans hk) (hSb _ (at_mem (by trivial))) hSa (fun i j hij hj => at_ij sa (by trivial) (by trivial)) (fun i hi => by simp only [Bool.false_eq_true, if_false]; exact hix _ (at_mem (by trivial)) _ (at_mem (by trivial))) (by trivial) (by trivial) fun k hkn k1 k2 => ?_)
          dsimp only
          simp only [Bool.false_eq_true, if_false, Nat.zero_add] at k1 k2
          have hle : ∀ y ∈ a.toList.take k, R O ky ix y (at_ b (nb' - 1)) := fun y hy => by
            obtain ⟨j, j1, rfl⟩ := mem_take' (by trivial) hy
            exact k1 j j1
          have mA : MH O ky ix a b (out ++ (a.extract k na').reverse) k nb' := m.addA sa hkn (fun x hx y hy => by
            obtain ⟨j, j1, j2, rfl⟩ := mem_at' (by trivial) hx
            exact R.trans (at_ge sb (i := nb' - 1) (by trivial) y (by rw [show nb' - 1 + 1 = nb' by trivial]; exact hy)) (R.lt (k2 j j1 j2))) (by rw [Array.toList_append, Array.toList_reverse, ext2])
          by_cases hk0 : na' - k > 0
          · rw [if_pos hk0]
            by_cases p1 : (k == 0) = true
            · rw [if_pos p1]
              exact wpS_pure ⟨⟨s2.kind, s2.arr, s2.pend, s2.fail⟩, .inl ⟨_, rfl, mA.done sa sb (.inl (by simpa using p1))⟩⟩
            rw [if_neg p1]
            have p1' : ¬ k = 0 := by simpa using p1
            refine wpS_bind (wpS_elem (at_eq (by trivial)) ?_)
            have m1 := MH.pushB mA sb (by trivial) hle
            by_cases q1 : (nb' - 1 == 1) = true
            · rw [if_pos q1]
              exact wpS_pure ⟨⟨s2.kind, s2.arr, s2.pend, s2.fail⟩, .inl ⟨_, rfl, m1.first sa sb (fst (by simpa using q1))⟩⟩
            rw [if_neg q1]
            have q1' : ¬ nb' - 1 = 1 := by simpa using q1
            refine wpS_bind (wpS_elem (at_eq (by trivial)) ?_)
            refine wpS_bind (wpS_gal C (s2.kind.trans hk) (hSa _ (at_mem (by trivial))) hSb (fun i j hij hj => at_ij sb (by trivial) (by trivial)) (fun i hi => by simp only [if_true]; exact hix _ (at_mem (by trivial)) _ (at_mem (by trivial))) (by trivial) (by trivial) fun k' hkn' k1' k2' => ?_)
            dsimp only
            simp only [if_true, Nat.zero_add] at k1' k2'
            have hle2 : ∀ y ∈ b.toList.take k', R O ky ix y (at_ a (k - 1)) := fun y hy => by
              obtain ⟨j, j1, rfl⟩ := mem_take' (by trivial) hy
              exact R.lt (k1' j j1)
            have mB := m1.addB sb (k := k') (o := (out ++ (a.extract k na').reverse).push (at_ b (nb' - 1)) ++ (b.extract k' (nb' - 1)).reverse) hkn' (fun x hx y hy => by
              obtain ⟨j, j1, j2, rfl⟩ := mem_at' (by trivial) hx
              exact R.trans (at_ge sa (i := k - 1) (by trivial) y (by rw [show k - 1 + 1 = k by trivial]; exact hy)) (k2' j j1 j2)) (by rw [Array.toList_append, Array.toList_reverse, ext2])
            by_cases hk1 : nb' - 1 - k' > 0
            · rw [if_pos hk1]
              by_cases q2 : (k' == 1) = true
              · rw [if_pos q2]
                exact wpS_pure ⟨⟨s2.kind, s2.arr, s2.pend, s2.fail⟩, .inl ⟨_, rfl, mB.first sa sb (fst (by simpa using q2))⟩⟩
              rw [if_neg q2]
              by_cases q5 : (k' == 0) = true
              · rw [if_pos q5]
                exact wpS_pure ⟨⟨s2.kind, s2.arr, s2.pend, s2.fail⟩, .inl ⟨_, rfl, mB.done sa sb (.inr (by simpa using q5))⟩⟩
              rw [if_neg q5]
              have q2' : ¬ k' = 1 := by simpa using q2
              have q5' : ¬ k' = 0 := by simpa using q5
              refine wpS_bind (wpS_elem (at_eq (by trivial)) ?_)
              have m2 := MH.pushA mB sa (by trivial) hle2
              by_cases q3 : (k - 1 == 0) = true
              · rw [if_pos q3]
                exact wpS_pure ⟨⟨s2.kind, s2.arr, s2.pend, s2.fail⟩, .inl ⟨_, rfl, m2.done sa sb (.inl (by simpa using q3))⟩⟩
              rw [if_neg q3]
              have q3' : ¬ k - 1 = 0 := by simpa using q3
              by_cases q4 : (decide (na' - k < 7) && decide (nb' - 1 - k' < 7)) = true
              · rw [if_pos q4]
                exact wpS_pure ⟨⟨s2.kind, s2.arr, s2.pend, s2.fail⟩, .inr ⟨rfl, m2, by dsimp only; trivial, by dsimp only; trivial, by dsimp only; trivial⟩⟩
              · rw [if_neg q4]
                exact wpS_pure ⟨⟨s2.kind, s2.arr, s2.pend, s2.fail⟩, rfl, m2, by dsimp only; trivial, by dsimp only; trivial, by dsimp only; trivial⟩
            · rw [if_neg hk1]
              have hle3 : ∀ y ∈ b.toList.take (nb' - 1), R O ky ix y (at_ a (k - 1)) := by
                have h' := hle2
                rw [show k' = nb' - 1 by trivial] at h'
                exact h'
              refine wpS_bind (wpS_elem (at_eq (by trivial)) ?_)
              have m2 := MH.pushA m1 sa (by trivial) hle3
              by_cases q3 : (k - 1 == 0) = true
              · rw [if_pos q3]
                exact wpS_pure ⟨⟨s2.kind, s2.arr, s2.pend, s2.fail⟩, .inl ⟨_, rfl, m2.done sa sb (.inl (by simpa using q3))⟩⟩
              rw [if_neg q3]
              have q3' : ¬ k - 1 = 0 := by simpa using q3
              by_cases q4 : (decide (na' - k < 7) && decide (nb' - 1 - k' < 7)) = true
              · rw [if_pos q4]
                exact wpS_pure ⟨⟨s2.kind, s2.arr, s2.pend, s2.fail⟩, .inr ⟨rfl, m2, by dsimp only; trivial, by dsimp only; trivial, by dsimp only; trivial⟩⟩
              · rw [if_neg q4]
                exact wpS_pure ⟨⟨s2.kind, s2.arr, s2.pend, s2.fail⟩, rfl, m2, by dsimp only; trivial, by dsimp only; trivial, by dsimp only; trivial⟩
          · rw [if_neg hk0]
            have hle0 : ∀ y ∈ a.toList.take na', R O ky ix y (at_ b (nb' - 1)) := by
              have h' := hle
              rw [show k = na' by trivial] at h'
              exact h'
            refine wpS_bind (wpS_elem (at_eq (by trivial)) ?_)
            have m1 := MH.pushB m sb (by trivial) hle0
            by_cases q1 : (nb' - 1 == 1) = true
            · rw [if_pos q1]
              exact wpS_pure ⟨⟨s2.kind, s2.arr, s2.pend, s2.fail⟩, .inl ⟨_, rfl, m1.first sa sb (fst (by simpa using q1))⟩⟩
            rw [if_neg q1]
            have q1' : ¬ nb' - 1 = 1 := by simpa using q1
            refine wpS_bind (wpS_elem (at_eq (by trivial)) ?_)
            refine wpS_bind (wpS_gal C (s2.kind.trans hk) (hSa _ (at_mem (by trivial))) hSb (fun i j hij hj => at_ij sb (by trivial) (by trivial)) (fun i hi => by simp only [if_true]; exact hix _ (at_mem (by trivial)) _ (at_mem (by trivial))) (by trivial) (by trivial) fun k' hkn' k1' k2' => ?_)
            dsimp only
            simp only [if_true, Nat.zero_add] at k1' k2'
            have hle2 : ∀ y ∈ b.toList.take k', R O ky ix y (at_ a (na' - 1)) := fun y hy => by
              obtain ⟨j, j1, rfl⟩ := mem_take' (by trivial) hy
              exact R.lt (k1' j j1)
            have mB := m1.addB sb (k := k') (o := out.push (at_ b (nb' - 1)) ++ (b.extract k' (nb' - 1)).reverse) hkn' (fun x hx y hy => by
              obtain ⟨j, j1, j2, rfl⟩ := mem_at' (by trivial) hx
              exact R.trans (at_ge sa (i := na' - 1) (by trivial) y (by rw [show na' - 1 + 1 = na' by trivial]; exact hy)) (k2' j j1 j2)) (by rw [Array.toList_append, Array.toList_reverse, ext2])
            by_cases hk1 : nb' - 1 - k' > 0
            · rw [if_pos hk1]
              by_cases q2 : (k' == 1) = true
              · rw [if_pos q2]
                exact wpS_pure ⟨⟨s2.kind, s2.arr, s2.pend, s2.fail⟩, .inl ⟨_, rfl, mB.first sa sb (fst (by simpa using q2))⟩⟩
              rw [if_neg q2]
              by_cases q5 : (k' == 0) = true
              · rw [if_pos q5]
                exact wpS_pure ⟨⟨s2.kind, s2.arr, s2.pend, s2.fail⟩, .inl ⟨_, rfl, mB.done sa sb (.inr (by simpa using q5))⟩⟩
              rw [if_neg q5]
              have q2' : ¬ k' = 1 := by simpa using q2
              have q5' : ¬ k' = 0 := by simpa using q5
              refine wpS_bind (wpS_elem (at_eq (by trivial)) ?_)
              have m2 := MH.pushA mB sa (by trivial) hle2
              by_cases q3 : (na' - 1 == 0) = true
              · rw [if_pos q3]
                exact wpS_pure ⟨⟨s2.kind, s2.arr, s2.pend, s2.fail⟩, .inl ⟨_, rfl, m2.done sa sb (.inl (by simpa using q3))⟩⟩
              rw [if_neg q3]
              have q3' : ¬ na' - 1 = 0 := by simpa using q3
              by_cases q4 : (decide (na' - k < 7) && decide (nb' - 1 - k' < 7)) = true
              · rw [if_pos q4]
                exact wpS_pure ⟨⟨s2.kind, s2.arr, s2.pend, s2.fail⟩, .inr ⟨rfl, m2, by dsimp only; trivial, by dsimp only; trivial, by dsimp only; trivial⟩⟩
              · rw [if_neg q4]
                exact wpS_pure ⟨⟨s2.kind, s2.arr, s2.pend, s2.fail⟩, rfl, m2, by dsimp only; trivial, by dsimp only; trivial, by dsimp only; trivial⟩
            · rw [if_neg hk1]
              have hle3 : ∀ y ∈ b.toList.take (nb' - 1), R O ky ix y (at_ a (na' - 1)) := by
                have h' := hle2
                rw [show k' = nb' - 1 by trivial] at h'
                exact h'
              refine wpS_bind (wpS_elem (at_eq (by trivial)) ?_)
              have m2 := MH.pushA m1 sa (by trivial) hle3
              by_cases q3 : (na' - 1 == 0) = true
              · rw [if_pos q3]
                exact wpS_pure ⟨⟨s2.kind, s2.arr, s2.pend, s2.fail⟩, .inl ⟨_, rfl, m2.done sa sb (.inl (by simpa using q3))⟩⟩
              rw [if_neg q3]
              have q3' : ¬ na' - 1 = 0 := by simpa using q3
              by_cases q4 : (decide (na' - k < 7) && decide (nb' - 1 - k' < 7)) = true
              · rw [if_pos q4]
                exact wpS_pure ⟨⟨s2.kind, s2.arr, s2.pend, s2.fail⟩, .inr ⟨rfl, m2, by dsimp only; trivial, by dsimp only; trivial, by dsimp only; trivial⟩⟩
              · rw [if_neg q4]
                exact wpS_pure ⟨⟨s2.kind, s2.arr, s2.pend, s2.fail⟩, rfl, m2, by dsimp only; trivial, by dsimp only; trivial, by dsimp only; trivial⟩
end
end TT
set_option linter.all false
namespace TT
open PySem PyProof.Rows TS
structure Chg (lo : Nat) (st st' : SortSt) : Prop where
  kind : kindOf st' = kindOf st
  pend : pendingOf st' = pendingOf st
  fail : failedOf st' = failedOf st
  perm : (arrOf st').Perm (arrOf st)
  low : ∀ i, i < lo → (arrOf st')[i]? = (arrOf st)[i]?
theorem Chg.refl (lo : Nat) (st : SortSt) : Chg lo st st := ⟨rfl, rfl, rfl, Array.Perm.refl _, fun _ _ => rfl⟩
theorem Chg.trans {lo : Nat} {a b c : SortSt} (h : Chg lo a b) (h' : Chg lo b c) : Chg lo a c := ⟨h'.kind.trans h.kind, h'.pend.trans h.pend, h'.fail.trans h.fail, h'.perm.trans h.perm, fun i hi => (h'.low i hi).trans (h.low i hi)⟩
theorem Chg.size {lo : Nat} {a b : SortSt} (h : Chg lo a b) : (arrOf b).size = (arrOf a).size := h.perm.size_eq
theorem Chg.all {lo : Nat} {a b : SortSt} {S : Keyed → Prop} (h : Chg lo a b) (hS : ∀ p ∈ (arrOf a).toList, S p) : ∀ p ∈ (arrOf b).toList, S p := fun p hp => hS p ((Array.perm_iff_toList_perm.mp h.perm).mem_iff.mp hp)
theorem chg_mirror {lo i j : Nat} {st : SortSt} (h : lo ≤ i) (hj : j ≤ (arrOf st).size) : Chg lo st (setArr st (mirror (arrOf st) i j ((j - i) / 2))) := ⟨rfl, rfl, rfl, mirror_perm _ _ _ _, fun k hk => by
  show (mirror (arrOf st) i j ((j - i) / 2))[k]? = _
  rw [getElem?_mirror_all hj, if_neg (by trivial)]⟩
theorem chg_bubble {lo src d : Nat} {st : SortSt} (hs : src < (arrOf st).size) (hd : d ≤ src) (h : lo ≤ src - d) : Chg lo st (setArr st (bubble (arrOf st) src d)) := ⟨rfl, rfl, rfl, bubble_perm _ _ _, fun k hk => by
  show (bubble (arrOf st) src d)[k]? = _
  rw [getElem?_bubble hs d hd, if_neg (by trivial), if_neg (by trivial)]⟩
theorem at_congr {a b : Array Keyed} {i j : Nat} (h : a[i]? = b[j]?) : at_ a i = at_ b j := by unfold at_; rw [h]
theorem at_mirror {xs : Array Keyed} {i j : Nat} (hj : j ≤ xs.size) (k : Nat) : at_ (mirror xs i j ((j - i) / 2)) k = if i ≤ k ∧ k < j then at_ xs (i + j - 1 - k) else at_ xs k := by
  have e := getElem?_mirror_all (i := i) hj k
  split at e
  · rename_i c; rw [if_pos c]; exact at_congr e
  · rename_i c; rw [if_neg c]; exact at_congr e
theorem at_bubble {xs : Array Keyed} {src d : Nat} (hs : src < xs.size) (hd : d ≤ src) (k : Nat) : at_ (bubble xs src d) k = if k = src - d then at_ xs src else if src - d < k ∧ k ≤ src then at_ xs (k - 1) else at_ xs k := by
  have e := getElem?_bubble hs d hd k
  split at e
  · rename_i c; rw [if_pos c]; exact at_congr e
  · rename_i c
    rw [if_neg c]
    split at e
    · rename_i c2; rw [if_pos c2]; exact at_congr e
    · rename_i c2; rw [if_neg c2]; exact at_congr e
section
variable {prog : Program} {w : World} {A : Around} {E : Value → Shared → Prop} {s : Shared}
variable {kd : SortKind} {O : KeyOrd} {ky : Keyed → O.α} {ix : Keyed → Nat} {S : Keyed → Prop}
noncomputable abbrev kf (ky : Keyed → O.α) (st : SortSt) (lo i : Nat) : O.α := ky (at_ (arrOf st) (lo + i))
noncomputable def Up (O : KeyOrd) (ky : Keyed → O.α) (ix : Keyed → Nat) (st : SortSt) (lo n : Nat) : Prop := ∀ i j, i ≤ j → j < n → R O ky ix (at_ (arrOf st) (lo + i)) (at_ (arrOf st) (lo + j))
noncomputable def Dn (O : KeyOrd) (ky : Keyed → O.α) (ix : Keyed → Nat) (st : SortSt) (lo n : Nat) : Prop := ∀ i j, i ≤ j → j < n → R O ky ix (at_ (arrOf st) (lo + j)) (at_ (arrOf st) (lo + i))
structure Lap (ix : Keyed → Nat) (st : SortSt) (lo n m : Nat) : Prop where
  cross : ∀ i j, i < n → n ≤ j → j < m → ix (at_ (arrOf st) (lo + i)) ≤ ix (at_ (arrOf st) (lo + j))
  rise : ∀ i j, n ≤ i → i ≤ j → j < m → ix (at_ (arrOf st) (lo + i)) ≤ ix (at_ (arrOf st) (lo + j))
theorem Lap.on {st : SortSt} {lo n m k : Nat} (h : Lap ix st lo n m) (hk : n ≤ k) : Lap ix st lo k m := ⟨fun i j h1 h2 h3 => by
  by_cases c : i < n
  · exact h.cross i j c (by trivial) h3
  · exact h.rise i j (by trivial) (by trivial) h3, fun i j h1 h2 h3 => h.rise i j (by trivial) h2 h3⟩
theorem Lap.any {st : SortSt} {lo n m i j : Nat} (h : Lap ix st lo n m) (h1 : i ≤ j) (h2 : n ≤ j) (h3 : j < m) : ix (at_ (arrOf st) (lo + i)) ≤ ix (at_ (arrOf st) (lo + j)) := by
  by_cases c : i < n
  · exact h.cross i j c h2 h3
  · exact h.rise i j (by trivial) h1 h3
theorem Lap.of {st st' : SortSt} {lo n m : Nat} (h : Lap ix st lo n m) (h1 : ∀ i, i < n → ∃ k, k < n ∧ at_ (arrOf st') (lo + i) = at_ (arrOf st) (lo + k)) (h2 : ∀ i, n ≤ i → at_ (arrOf st') (lo + i) = at_ (arrOf st) (lo + i)) : Lap ix st' lo n m := ⟨fun i j a b c => by
  obtain ⟨k, k1, e⟩ := h1 i a
  rw [e, h2 j b]
  exact h.cross k j k1 b c, fun i j a b c => by
  rw [h2 i a, h2 j (by trivial)]
  exact h.rise i j a b c⟩
theorem Lap.mirror {st : SortSt} {lo n m i j : Nat} (h : Lap ix st lo n m) (hj : lo + j ≤ (arrOf st).size) (hn : j ≤ n) : Lap ix (setArr st (mirror (arrOf st) (lo + i) (lo + j) ((lo + j - (lo + i)) / 2))) lo n m := by
  refine h.of (fun k hk => ?_) (fun k hk => ?_)
  · show ∃ k', k' < n ∧ at_ (PyProof.Rows.mirror (arrOf st) (lo + i) (lo + j) ((lo + j - (lo + i)) / 2)) (lo + k) = _
    rw [at_mirror hj]
    by_cases c : lo + i ≤ lo + k ∧ lo + k < lo + j
    · rw [if_pos c]
      exact ⟨i + j - 1 - k, by trivial, by congr 1; trivial⟩
    · rw [if_neg c]; exact ⟨k, hk, rfl⟩
  · show at_ (PyProof.Rows.mirror (arrOf st) (lo + i) (lo + j) ((lo + j - (lo + i)) / 2)) (lo + k) = _
    rw [at_mirror hj, if_neg (by trivial)]
theorem wpS_ltAt' (C : Cmp prog w A s kd O ky S) {st : SortSt} {i j : Nat} {Q : Option Bool → SortSt → Prop} (hk : kindOf st = kd) (hS : ∀ p ∈ (arrOf st).toList, S p) (hi : i < (arrOf st).size) (hj : j < (arrOf st).size)
    (h : Q (some (O.blt (ky (at_ (arrOf st) i)) (ky (at_ (arrOf st) j)))) st) : wpS (model prog w) A E s (ltAt' i j) Q st := by
  rw [ltAt'_eq]
  refine wpS_bind (wpS_get ?_)
  exact wpS_bind (wpS_elem (at_eq hi) (wpS_bind (wpS_elem (at_eq hj) (wpS_lt C hk (hS _ (at_mem hi)) (hS _ (at_mem hj)) h))))
theorem asc_loop {st : SortSt} {lo a nrem : Nat} {Q : Option (Option Nat) × Nat → SortSt → Prop} {f : Nat → Option (Option Nat) × Nat → StateT SortSt Sem (ForInStep (Option (Option Nat) × Nat))} (h1 : 1 ≤ a) (h2 : a ≤ nrem) (hu : Up O ky ix st lo a) (hl : Lap ix st lo a nrem)
    (hf : ∀ (x n : Nat), 1 ≤ n → n < nrem → ∀ {R : ForInStep (Option (Option Nat) × Nat) → SortSt → Prop}, (O.klt (kf ky st lo n) (kf ky st lo (n - 1)) → R (.done (none, n)) st) → (O.kle (kf ky st lo (n - 1)) (kf ky st lo n) → R (.yield (none, n + 1)) st) → wpS (model prog w) A E s (f x (none, n)) R st)
    (h : ∀ n, a ≤ n → n ≤ nrem → Up O ky ix st lo n → (n = nrem ∨ O.klt (kf ky st lo n) (kf ky st lo (n - 1))) → Q (none, n) st) : wpS (model prog w) A E s (forIn [a:nrem] (none, a) f) Q st := by
  refine wpS_forRange (I := fun x c st' => st' = st ∧ c = (none, x) ∧ Up O ky ix st lo x) ?step ?fin ⟨rfl, rfl, hu⟩
  case fin =>
    rintro c st' ⟨rfl, rfl, hs'⟩
    rw [show max a nrem = nrem by trivial] at hs' ⊢
    exact h nrem h2 (Nat.le_refl _) hs' (.inl rfl)
  case step =>
    rintro x c st' hax hxn ⟨rfl, rfl, hs'⟩
    refine hf x x (by trivial) hxn (fun q => h x hax (by trivial) hs' (.inr q)) (fun q => ⟨rfl, rfl, fun i j hij hj => ?_⟩)
    by_cases e : j = x
    · by_cases e2 : i = x
      · rw [e, e2]; exact R.refl _
      · rw [e]; exact R.trans (hs' i (x - 1) (by trivial) (by trivial)) (R.le q (hl.any (by trivial) hax hxn))
    · exact hs' i j hij (by trivial)
theorem kf_mirror {st : SortSt} {lo i j k : Nat} (hj : lo + j ≤ (arrOf st).size) : kf ky (setArr st (mirror (arrOf st) (lo + i) (lo + j) ((lo + j - (lo + i)) / 2))) lo k = if i ≤ k ∧ k < j then kf ky st lo (i + j - 1 - k) else kf ky st lo k := by
  show ky (at_ (mirror (arrOf st) (lo + i) (lo + j) ((lo + j - (lo + i)) / 2)) (lo + k)) = _
  rw [at_mirror hj]
  by_cases c : i ≤ k ∧ k < j
  · rw [if_pos c, if_pos (by trivial)]
    show ky (at_ _ _) = ky (at_ _ _)
    congr 2; trivial
  · rw [if_neg c, if_neg (by trivial)]
theorem kf_mirror_eq {st : SortSt} {lo i j : Nat} (hj : lo + j ≤ (arrOf st).size) (he : ∀ k, i ≤ k → k < j → kf ky st lo k = kf ky st lo (j - 1)) (k : Nat) : kf ky (setArr st (mirror (arrOf st) (lo + i) (lo + j) ((lo + j - (lo + i)) / 2))) lo k = kf ky st lo k := by
  rw [kf_mirror hj]
  split
  · rw [he _ (by trivial) (by trivial), he k (by trivial) (by trivial)]
  · rfl
theorem wpS_rev {st : SortSt} {i j : Nat} {Q : Unit → SortSt → Prop} (h : Q () (setArr st (mirror (arrOf st) i j ((j - i) / 2)))) : wpS (model prog w) A E s (reverseSlice' i j) Q st := by
  rw [reverseSlice'_eq]
  exact wpS_modify h
structure Des (O : KeyOrd) (ky : Keyed → O.α) (ix : Keyed → Nat) (st : SortSt) (lo x neq m : Nat) : Prop where
  le : neq + 1 ≤ x
  dn : Dn O ky ix st lo (x - (neq + 1))
  lt : ∀ i j, i < x - (neq + 1) → x - (neq + 1) ≤ j → j < x → O.klt (kf ky st lo j) (kf ky st lo i)
  eq : ∀ i, x - (neq + 1) ≤ i → i < x → kf ky st lo i = kf ky st lo (x - 1)
  lap : Lap ix st lo (x - (neq + 1)) m
theorem Des.one {st : SortSt} {lo x m : Nat} (hd : Dn O ky ix st lo x) (hx : 1 ≤ x) (hlt : O.klt (kf ky st lo x) (kf ky st lo (x - 1))) (hl : Lap ix st lo x m) : Des O ky ix st lo (x + 1) 0 m := by
  refine ⟨by trivial, by rw [show x + 1 - (0 + 1) = x by trivial]; exact hd, fun i j h1 h2 h3 => ?_, fun i h1 h2 => by congr 1; trivial, by rw [show x + 1 - (0 + 1) = x by trivial]; exact hl⟩
  obtain rfl : j = x := by trivial
  exact KeyOrd.klt_of_klt_of_kle hlt (hd i (j - 1) (by trivial) (by trivial)).1
theorem Des.done {st : SortSt} {lo x m : Nat} (h : Des O ky ix st lo x 0 m) : Dn O ky ix st lo x ∧ Lap ix st lo x m := by
  have h1 := h.le
  refine ⟨fun i j hij hj => ?_, h.lap.on (by trivial)⟩
  by_cases c : j < x - (0 + 1)
  · exact h.dn i j hij c
  · by_cases c2 : i = j
    · rw [c2]; exact R.refl _
    · exact R.lt (h.lt i j (by trivial) (by trivial) hj)
theorem Des.turn {st : SortSt} {lo x neq m : Nat} (h : Des O ky ix st lo x neq m) (hx : lo + x ≤ (arrOf st).size) (hm : x ≤ m) :
    Dn O ky ix (setArr st (mirror (arrOf st) (lo + (x - (neq + 1))) (lo + x) ((lo + x - (lo + (x - (neq + 1)))) / 2))) lo x ∧ Lap ix (setArr st (mirror (arrOf st) (lo + (x - (neq + 1))) (lo + x) ((lo + x - (lo + (x - (neq + 1)))) / 2))) lo x m := by
  have h1 := h.le
  refine ⟨fun i j hij hj => ?_, (h.lap.on (by trivial)).mirror hx (Nat.le_refl _)⟩
  show R O ky ix (at_ (mirror (arrOf st) (lo + (x - (neq + 1))) (lo + x) ((lo + x - (lo + (x - (neq + 1)))) / 2)) (lo + j)) (at_ (mirror (arrOf st) (lo + (x - (neq + 1))) (lo + x) ((lo + x - (lo + (x - (neq + 1)))) / 2)) (lo + i))
  rw [at_mirror hx, at_mirror hx]
  by_cases cj : j < x - (neq + 1)
  · rw [if_neg (by trivial), if_neg (by trivial)]
    exact h.dn i j hij cj
  · rw [if_pos (by trivial)]
    rw [show lo + (x - (neq + 1)) + (lo + x) - 1 - (lo + j) = lo + (x - (neq + 1) + x - 1 - j) by trivial]
    by_cases ci : i < x - (neq + 1)
    · rw [if_neg (by trivial)]
      exact R.lt (h.lt i (x - (neq + 1) + x - 1 - j) ci (by trivial) (by trivial))
    · rw [if_pos (by trivial)]
      rw [show lo + (x - (neq + 1)) + (lo + x) - 1 - (lo + i) = lo + (x - (neq + 1) + x - 1 - i) by trivial]
      have e1 := h.eq (x - (neq + 1) + x - 1 - j) (by trivial) (by trivial)
      have e2 := h.eq (x - (neq + 1) + x - 1 - i) (by trivial) (by trivial)
      refine R.le ?_ (h.lap.rise _ _ (by trivial) (by trivial) (by trivial))
      rw [show ky (at_ (arrOf st) (lo + (x - (neq + 1) + x - 1 - j))) = ky (at_ (arrOf st) (lo + (x - (neq + 1) + x - 1 - i))) from e1.trans e2.symm]
      exact KeyOrd.kle_refl _
theorem Des.more {st : SortSt} {lo x neq m : Nat} (h : Des O ky ix st lo x neq m) (he : kf ky st lo x = kf ky st lo (x - 1)) : Des O ky ix st lo (x + 1) (neq + 1) m := by
  have h1 := h.le
  have eb : x + 1 - (neq + 1 + 1) = x - (neq + 1) := by trivial
  refine ⟨by trivial, by rw [eb]; exact h.dn, fun i j a b c => ?_, fun i a b => ?_, by rw [eb]; exact h.lap⟩
  · rw [eb] at a b
    by_cases e : j = x
    · rw [e, he]; exact h.lt i (x - 1) a (by trivial) (by trivial)
    · exact h.lt i j a b (by trivial)
  · rw [eb] at a
    rw [show x + 1 - 1 = x by trivial]
    by_cases e : i = x
    · rw [e]
    · rw [he]; exact h.eq i a (by trivial)
theorem Dn.up {st : SortSt} {lo m : Nat} (h : Dn O ky ix st lo m) (hs : lo + m ≤ (arrOf st).size) : Up O ky ix (setArr st (mirror (arrOf st) (lo + 0) (lo + m) ((lo + m - (lo + 0)) / 2))) lo m := fun i j hij hj => by
  show R O ky ix (at_ (mirror (arrOf st) (lo + 0) (lo + m) ((lo + m - (lo + 0)) / 2)) (lo + i)) (at_ (mirror (arrOf st) (lo + 0) (lo + m) ((lo + m - (lo + 0)) / 2)) (lo + j))
  rw [at_mirror hs, at_mirror hs, if_pos (by trivial), if_pos (by trivial), show lo + 0 + (lo + m) - 1 - (lo + i) = lo + (m - 1 - i) by trivial, show lo + 0 + (lo + m) - 1 - (lo + j) = lo + (m - 1 - j) by trivial]
  exact h _ _ (by trivial) (by trivial)
theorem wpS_run (C : Cmp prog w A s kd O ky S) {st0 : SortSt} {lo nrem : Nat} {Q : Option Nat → SortSt → Prop} (hk0 : kindOf st0 = kd) (hS0 : ∀ p ∈ (arrOf st0).toList, S p) (hn : lo + nrem ≤ (arrOf st0).size) (h1 : 1 ≤ nrem) (lap0 : Lap ix st0 lo 0 nrem)
    (h : ∀ n st', Chg lo st0 st' → 1 ≤ n → n ≤ nrem → Up O ky ix st' lo n → Lap ix st' lo n nrem → Q (some n) st') : wpS (model prog w) A E s (countRun' lo nrem) Q st0 := by
  have ask : ∀ {st : SortSt}, Chg lo st0 st → ∀ (i j : Nat) {Q : Option Bool → SortSt → Prop}, i < lo + nrem → j < lo + nrem → Q (some (O.blt (ky (at_ (arrOf st) i)) (ky (at_ (arrOf st) j)))) st → wpS (model prog w) A E s (ltAt' i j) Q st := fun {st} ch i j Q hi hj hq =>
    wpS_ltAt' C (ch.kind.trans hk0) (ch.all hS0) (by rw [ch.size]; trivial) (by rw [ch.size]; trivial) hq
  unfold countRun'
  refine wpS_bind (asc_loop (O := O) (ky := ky) (ix := ix) (lo := lo) (Nat.le_refl 1) h1 (fun i j hij hj => by rw [show i = j by trivial]; exact R.refl _) (lap0.on (by trivial)) ?hf ?hq)
  case hf =>
    intro x n n1 n2 R r1 r2
    refine wpS_bind (ask (Chg.refl _ _) _ _ (by trivial) (by trivial) ?_)
    dsimp only
    rw [show lo + n - 1 = lo + (n - 1) by trivial]
    cases e : O.blt (ky (at_ (arrOf st0) (lo + n))) (ky (at_ (arrOf st0) (lo + (n - 1)))) with
    | true => exact wpS_pure (r1 e)
    | false => exact wpS_pure (r2 e)
  case hq =>
  intro n n1 n2 hup hor
  dsimp only
  by_cases e1 : (n == nrem) = true
  · rw [if_pos e1]
    exact wpS_pure (h n _ (Chg.refl _ _) n1 n2 hup (lap0.on (by trivial)))
  rw [if_neg e1]
  have e1' : ¬ n = nrem := by simpa using e1
  have hlt := hor.resolve_left e1'
  by_cases hgt : n > 1
  · rw [if_pos hgt]
    refine wpS_bind (ask (Chg.refl _ _) _ _ (by trivial) (by trivial) ?_)
    dsimp only
    rw [show lo + n - 1 = lo + (n - 1) by trivial]
    cases e : O.blt (ky (at_ (arrOf st0) lo)) (ky (at_ (arrOf st0) (lo + (n - 1)))) with
    | true =>
      rw [if_pos rfl]
      exact wpS_pure (h n _ (Chg.refl _ _) n1 n2 hup (lap0.on (by trivial)))
    | false =>
      rw [if_neg Bool.false_ne_true]
      have hsz0 : lo + n ≤ (arrOf st0).size := by trivial
      have e' : O.kle (kf ky st0 lo (n - 1)) (kf ky st0 lo 0) := e
      have hall : ∀ k, 0 ≤ k → k < n → kf ky st0 lo k = kf ky st0 lo (n - 1) := fun k _ hk => by
        have a1 := (hup 0 k (by trivial) hk).1
        have a2 := (hup k (n - 1) (by trivial) (by trivial)).1
        exact KeyOrd.kle_antisymm a2 (KeyOrd.kle_trans e' a1)
      refine wpS_bind (wpS_rev ?_)
      have ch1 := chg_mirror (lo := lo) (i := lo + 0) (j := lo + n) (st := st0) (by trivial) hsz0
      have dd : Des O ky ix st0 lo n (n - 1) nrem := by
        have en : n - (n - 1 + 1) = 0 := by trivial
        refine ⟨by trivial, by rw [en]; exact fun i j a b => by trivial, by rw [en]; exact fun i j a => by trivial, fun i a b => hall i (by trivial) b, by rw [en]; exact lap0⟩
      have d1 := dd.turn hsz0 n2
      rw [show n - (n - 1 + 1) = 0 by trivial] at d1
      have hlt1 : O.klt (kf ky (setArr st0 (mirror (arrOf st0) (lo + 0) (lo + n) ((lo + n - (lo + 0)) / 2))) lo n) (kf ky (setArr st0 (mirror (arrOf st0) (lo + 0) (lo + n) ((lo + n - (lo + 0)) / 2))) lo (n - 1)) := by
        rw [kf_mirror_eq hsz0 hall, kf_mirror_eq hsz0 hall]; exact hlt
      rw [show mirror (arrOf st0) lo (lo + n) ((lo + n - lo) / 2) = mirror (arrOf st0) (lo + 0) (lo + n) ((lo + n - (lo + 0)) / 2) from rfl]
      generalize setArr st0 (mirror (arrOf st0) (lo + 0) (lo + n) ((lo + n - (lo + 0)) / 2)) = st1 at ch1 d1 hlt1 ⊢
      have des1 := Des.one d1.1 n1 hlt1 d1.2
      refine wpS_bind (wpS_lift (wpAny_rule ⟨rfl, ?_⟩))
      refine wpS_bind (wpS_mono (wpS_forRange
        (I := fun x c st' => ∃ neq, c = (none, x, neq) ∧ Chg lo st0 st' ∧ Des O ky ix st' lo x neq nrem)
        (Q := fun c st' => ∃ m neq, c = (none, m, neq) ∧ n + 1 ≤ m ∧ m ≤ nrem ∧ Chg lo st0 st' ∧ Des O ky ix st' lo m neq nrem) ?step ?fin ⟨0, rfl, ch1, des1⟩) ?post)
      case fin =>
        rintro c st' ⟨neq, rfl, ch, d⟩
        rw [show max (n + 1) nrem = nrem by trivial] at d ⊢
        exact ⟨nrem, neq, rfl, by trivial, Nat.le_refl _, ch, d⟩
      case step =>
        rintro x c st' hx1 hx2 ⟨neq, rfl, ch, d⟩
        dsimp only
        have q1 := d.le
        have hsz : lo + x ≤ (arrOf st').size := by rw [ch.size]; trivial
        refine wpS_bind (ask ch _ _ (by trivial) (by trivial) ?_)
        dsimp only
        rw [show lo + x - 1 = lo + (x - 1) by trivial]
        cases e : O.blt (ky (at_ (arrOf st') (lo + x))) (ky (at_ (arrOf st') (lo + (x - 1)))) with
        | true =>
          rw [if_pos rfl]
          by_cases hne : neq > 0
          · rw [if_pos hne]
            rw [show lo + x - (neq + 1) = lo + (x - (neq + 1)) by trivial]
            have t := d.turn hsz (by trivial)
            have lt2 : O.klt (kf ky (setArr st' (mirror (arrOf st') (lo + (x - (neq + 1))) (lo + x) ((lo + x - (lo + (x - (neq + 1)))) / 2))) lo x) (kf ky (setArr st' (mirror (arrOf st') (lo + (x - (neq + 1))) (lo + x) ((lo + x - (lo + (x - (neq + 1)))) / 2))) lo (x - 1)) := by
              rw [kf_mirror_eq hsz d.eq, kf_mirror_eq hsz d.eq]; exact e
            refine wpS_bind (wpS_rev (wpS_pure ⟨0, rfl, ch.trans (chg_mirror (by trivial) hsz), Des.one t.1 (by trivial) lt2 t.2⟩))
          · rw [if_neg hne]
            obtain rfl : neq = 0 := by trivial
            exact wpS_pure ⟨0, rfl, ch, Des.one d.done.1 (by trivial) e d.done.2⟩
        | false =>
          rw [if_neg Bool.false_ne_true]
          refine wpS_bind (ask ch _ _ (by trivial) (by trivial) ?_)
          dsimp only
          cases e2 : O.blt (ky (at_ (arrOf st') (lo + (x - 1)))) (ky (at_ (arrOf st') (lo + x))) with
          | true =>
            rw [if_pos rfl]
            exact wpS_pure ⟨x, neq, rfl, by trivial, by trivial, ch, d⟩
          | false =>
            rw [if_neg Bool.false_ne_true]
            have heq : kf ky st' lo x = kf ky st' lo (x - 1) := KeyOrd.kle_antisymm e2 e
            exact wpS_pure ⟨neq + 1, rfl, ch, d.more heq⟩
      case post =>
        rintro c st' ⟨m, neq, rfl, m1, m2, ch, d⟩
        dsimp only
        have q1 := d.le
        have hsz : lo + m ≤ (arrOf st').size := by rw [ch.size]; trivial
        by_cases hne : neq > 0
        · rw [if_pos hne]
          rw [show lo + m - (neq + 1) = lo + (m - (neq + 1)) by trivial]
          refine wpS_bind (wpS_rev ?_)
          have ch2 := ch.trans (chg_mirror (lo := lo) (i := lo + (m - (neq + 1))) (j := lo + m) (st := st') (by trivial) hsz)
          have d2 := d.turn hsz m2
          generalize setArr st' (mirror (arrOf st') (lo + (m - (neq + 1))) (lo + m) ((lo + m - (lo + (m - (neq + 1)))) / 2)) = st4 at ch2 d2 ⊢
          refine wpS_bind (wpS_rev ?_)
          have hsz3 : lo + m ≤ (arrOf st4).size := by rw [(ch2).size]; trivial
          have ch3 := (ch2).trans (chg_mirror (lo := lo) (i := lo + 0) (j := lo + m) (st := st4) (by trivial) hsz3)
          have up3 := d2.1.up hsz3
          have lap3 := d2.2.mirror (i := 0) hsz3 (Nat.le_refl _)
          refine wpS_bind (asc_loop (O := O) (ky := ky) (ix := ix) (lo := lo) (by trivial) (by trivial) up3 lap3 ?_ (fun n3 a1 a2 a3 _ => wpS_pure (h n3 _ ch3 (by trivial) a2 a3 (lap3.on a1))))
          intro x n' b1 b2 R r1 r2
          refine wpS_bind (ask ch3 _ _ (by trivial) (by trivial) ?_)
          dsimp only
          rw [show lo + n' - 1 = lo + (n' - 1) by trivial]
          cases e : O.blt (ky (at_ (mirror (arrOf st4) (lo + 0) (lo + m) ((lo + m - (lo + 0)) / 2)) (lo + n'))) (ky (at_ (mirror (arrOf st4) (lo + 0) (lo + m) ((lo + m - (lo + 0)) / 2)) (lo + (n' - 1)))) with
          | true => exact wpS_pure (r1 e)
          | false => exact wpS_pure (r2 e)
        · rw [if_neg hne]
          obtain rfl : neq = 0 := by trivial
          have ch2 := ch
          have d2 := d.done
          generalize st' = st4 at ch2 d2 ⊢
          refine wpS_bind (wpS_rev ?_)
          have hsz3 : lo + m ≤ (arrOf st4).size := by rw [(ch2).size]; trivial
          have ch3 := (ch2).trans (chg_mirror (lo := lo) (i := lo + 0) (j := lo + m) (st := st4) (by trivial) hsz3)
          have up3 := d2.1.up hsz3
          have lap3 := d2.2.mirror (i := 0) hsz3 (Nat.le_refl _)
          refine wpS_bind (asc_loop (O := O) (ky := ky) (ix := ix) (lo := lo) (by trivial) (by trivial) up3 lap3 ?_ (fun n3 a1 a2 a3 _ => wpS_pure (h n3 _ ch3 (by trivial) a2 a3 (lap3.on a1))))
          intro x n' b1 b2 R r1 r2
          refine wpS_bind (ask ch3 _ _ (by trivial) (by trivial) ?_)
          dsimp only
          rw [show lo + n' - 1 = lo + (n' - 1) by trivial]
          cases e : O.blt (ky (at_ (mirror (arrOf st4) (lo + 0) (lo + m) ((lo + m - (lo + 0)) / 2)) (lo + n'))) (ky (at_ (mirror (arrOf st4) (lo + 0) (lo + m) ((lo + m - (lo + 0)) / 2)) (lo + (n' - 1)))) with
          | true => exact wpS_pure (r1 e)
          | false => exact wpS_pure (r2 e)
  · rw [if_neg hgt]
    have ch1 := Chg.refl lo st0
    have des1 : Des O ky ix st0 lo (n + 1) 0 nrem := Des.one (fun i j a b => by rw [show i = j by trivial]; exact R.refl _) n1 hlt (lap0.on (by trivial))
    refine wpS_bind (wpS_lift (wpAny_rule ⟨rfl, ?_⟩))
    refine wpS_bind (wpS_mono (wpS_forRange
      (I := fun x c st' => ∃ neq, c = (none, x, neq) ∧ Chg lo st0 st' ∧ Des O ky ix st' lo x neq nrem)
      (Q := fun c st' => ∃ m neq, c = (none, m, neq) ∧ n + 1 ≤ m ∧ m ≤ nrem ∧ Chg lo st0 st' ∧ Des O ky ix st' lo m neq nrem) ?step ?fin ⟨0, rfl, ch1, des1⟩) ?post)
    case fin =>
      rintro c st' ⟨neq, rfl, ch, d⟩
      rw [show max (n + 1) nrem = nrem by trivial] at d ⊢
      exact ⟨nrem, neq, rfl, by trivial, Nat.le_refl _, ch, d⟩
    case step =>
      rintro x c st' hx1 hx2 ⟨neq, rfl, ch, d⟩
      dsimp only
      have q1 := d.le
      have hsz : lo + x ≤ (arrOf st').size := by rw [ch.size]; trivial
      refine wpS_bind (ask ch _ _ (by trivial) (by trivial) ?_)
      dsimp only
      rw [show lo + x - 1 = lo + (x - 1) by trivial]
      cases e : O.blt (ky (at_ (arrOf st') (lo + x))) (ky (at_ (arrOf st') (lo + (x - 1)))) with
      | true =>
        rw [if_pos rfl]
        by_cases hne : neq > 0
        · rw [if_pos hne]
          rw [show lo + x - (neq + 1) = lo + (x - (neq + 1)) by trivial]
          have t := d.turn hsz (by trivial)
          have lt2 : O.klt (kf ky (setArr st' (mirror (arrOf st') (lo + (x - (neq + 1))) (lo + x) ((lo + x - (lo + (x - (neq + 1)))) / 2))) lo x) (kf ky (setArr st' (mirror (arrOf st') (lo + (x - (neq + 1))) (lo + x) ((lo + x - (lo + (x - (neq + 1)))) / 2))) lo (x - 1)) := by
            rw [kf_mirror_eq hsz d.eq, kf_mirror_eq hsz d.eq]; exact e
          refine wpS_bind (wpS_rev (wpS_pure ⟨0, rfl, ch.trans (chg_mirror (by trivial) hsz), Des.one t.1 (by trivial) lt2 t.2⟩))
        · rw [if_neg hne]
          obtain rfl : neq = 0 := by trivial
          exact wpS_pure ⟨0, rfl, ch, Des.one d.done.1 (by trivial) e d.done.2⟩
      | false =>
        rw [if_neg Bool.false_ne_true]
        refine wpS_bind (ask ch _ _ (by trivial) (by trivial) ?_)
        dsimp only
        cases e2 : O.blt (ky (at_ (arrOf st') (lo + (x - 1)))) (ky (at_ (arrOf st') (lo + x))) with
        | true =>
          rw [if_pos rfl]
          exact wpS_pure ⟨x, neq, rfl, by trivial, by trivial, ch, d⟩
        | false =>
          rw [if_neg Bool.false_ne_true]
          have heq : kf ky st' lo x = kf ky st' lo (x - 1) := KeyOrd.kle_antisymm e2 e
          exact wpS_pure ⟨neq + 1, rfl, ch, d.more heq⟩
    case post =>
      rintro c st' ⟨m, neq, rfl, m1, m2, ch, d⟩
      dsimp only
      have q1 := d.le
      have hsz : lo + m ≤ (arrOf st').size := by rw [ch.size]; trivial
      by_cases hne : neq > 0
      · rw [if_pos hne]
        rw [show lo + m - (neq + 1) = lo + (m - (neq + 1)) by trivial]
        refine wpS_bind (wpS_rev ?_)
        have ch2 := ch.trans (chg_mirror (lo := lo) (i := lo + (m - (neq + 1))) (j := lo + m) (st := st') (by trivial) hsz)
        have d2 := d.turn hsz m2
        generalize setArr st' (mirror (arrOf st') (lo + (m - (neq + 1))) (lo + m) ((lo + m - (lo + (m - (neq + 1)))) / 2)) = st4 at ch2 d2 ⊢
        refine wpS_bind (wpS_rev ?_)
        have hsz3 : lo + m ≤ (arrOf st4).size := by rw [(ch2).size]; trivial
        have ch3 := (ch2).trans (chg_mirror (lo := lo) (i := lo + 0) (j := lo + m) (st := st4) (by trivial) hsz3)
        have up3 := d2.1.up hsz3
        have lap3 := d2.2.mirror (i := 0) hsz3 (Nat.le_refl _)
        refine wpS_bind (asc_loop (O := O) (ky := ky) (ix := ix) (lo := lo) (by trivial) (by trivial) up3 lap3 ?_ (fun n3 a1 a2 a3 _ => wpS_pure (h n3 _ ch3 (by trivial) a2 a3 (lap3.on a1))))
        intro x n' b1 b2 R r1 r2
        refine wpS_bind (ask ch3 _ _ (by trivial) (by trivial) ?_)
        dsimp only
        rw [show lo + n' - 1 = lo + (n' - 1) by trivial]
        cases e : O.blt (ky (at_ (mirror (arrOf st4) (lo + 0) (lo + m) ((lo + m - (lo + 0)) / 2)) (lo + n'))) (ky (at_ (mirror (arrOf st4) (lo + 0) (lo + m) ((lo + m - (lo + 0)) / 2)) (lo + (n' - 1)))) with
        | true => exact wpS_pure (r1 e)
        | false => exact wpS_pure (r2 e)
      · rw [if_neg hne]
        obtain rfl : neq = 0 := by trivial
        have ch2 := ch
        have d2 := d.done
        generalize st' = st4 at ch2 d2 ⊢
        refine wpS_bind (wpS_rev ?_)
        have hsz3 : lo + m ≤ (arrOf st4).size := by rw [(ch2).size]; trivial
        have ch3 := (ch2).trans (chg_mirror (lo := lo) (i := lo + 0) (j := lo + m) (st := st4) (by trivial) hsz3)
        have up3 := d2.1.up hsz3
        have lap3 := d2.2.mirror (i := 0) hsz3 (Nat.le_refl _)
        refine wpS_bind (asc_loop (O := O) (ky := ky) (ix := ix) (lo := lo) (by trivial) (by trivial) up3 lap3 ?_ (fun n3 a1 a2 a3 _ => wpS_pure (h n3 _ ch3 (by trivial) a2 a3 (lap3.on a1))))
        intro x n' b1 b2 R r1 r2
        refine wpS_bind (ask ch3 _ _ (by trivial) (by trivial) ?_)
        dsimp only
        rw [show lo + n' - 1 = lo + (n' - 1) by trivial]
        cases e : O.blt (ky (at_ (mirror (arrOf st4) (lo + 0) (lo + m) ((lo + m - (lo + 0)) / 2)) (lo + n'))) (ky (at_ (mirror (arrOf st4) (lo + 0) (lo + m) ((lo + m - (lo + 0)) / 2)) (lo + (n' - 1)))) with
        | true => exact wpS_pure (r1 e)
        | false => exact wpS_pure (r2 e)
theorem wpS_bin (C : Cmp prog w A s kd O ky S) {st0 : SortSt} {lo n ok : Nat} {Q : Bool → SortSt → Prop} (hk0 : kindOf st0 = kd) (hS0 : ∀ p ∈ (arrOf st0).toList, S p) (hn : lo + n ≤ (arrOf st0).size) (hok : ok ≤ n) (hu : Up O ky ix st0 lo ok) {nrem : Nat} (hnr : n ≤ nrem) (lap0 : Lap ix st0 lo ok nrem)
    (h : ∀ st', Chg lo st0 st' → Up O ky ix st' lo n → Lap ix st' lo n nrem → Q true st') : wpS (model prog w) A E s (binarySort' lo n ok) Q st0 := by
  unfold binarySort'
  refine wpS_bind (wpS_mono (wpS_forRange (I := fun k c st' => c = (none, ()) ∧ Chg lo st0 st' ∧ Up O ky ix st' lo (min k n) ∧ Lap ix st' lo (min k n) nrem) (Q := fun c st' => c = (none, ()) ∧ Chg lo st0 st' ∧ Up O ky ix st' lo n ∧ Lap ix st' lo n nrem) ?step ?fin ?init) ?post)
  case post =>
    rintro c st' ⟨rfl, ch, u, lp⟩
    exact wpS_pure (h st' ch u lp)
  case init =>
    refine ⟨rfl, Chg.refl _ _, fun i j hij hj => ?_, lap0.on (by trivial)⟩
    by_cases z : i = j
    · rw [z]; exact R.refl _
    · exact hu i j hij (by trivial)
  case fin =>
    rintro c st' ⟨hc, ch, u, lp⟩
    rw [show min (max (max ok 1) n) n = n by trivial] at u lp
    exact ⟨hc, ch, u, lp⟩
  case step =>
    rintro k c st' hk1 hk2 ⟨rfl, ch, u, lp⟩
    rw [show min k n = k by trivial] at u lp
    have hsz := ch.size
    dsimp only
    refine wpS_bind (wpS_mono (wpS_forRange (I := fun x c st2 => st2 = st' ∧ ∃ l r, c = (none, l, r) ∧ l ≤ r ∧ r ≤ k ∧ r - l ≤ k - x ∧ (∀ i, i < l → R O ky ix (at_ (arrOf st') (lo + i)) (at_ (arrOf st') (lo + k))) ∧ (∀ i, r ≤ i → i < k → O.klt (kf ky st' lo k) (kf ky st' lo i)))
      (Q := fun c st2 => st2 = st' ∧ ∃ l r, c = (none, l, r) ∧ l ≤ k ∧ (∀ i, i < l → R O ky ix (at_ (arrOf st') (lo + i)) (at_ (arrOf st') (lo + k))) ∧ (∀ i, l ≤ i → i < k → O.klt (kf ky st' lo k) (kf ky st' lo i))) ?s2 ?f2 ⟨rfl, 0, k, rfl, by trivial, by trivial, by trivial, fun i hi => by trivial, fun i i1 i2 => by trivial⟩) ?p2)
    case f2 =>
      rintro c st2 ⟨rfl, l, r, rfl, a1, a2, a3, a4, a5⟩
      obtain rfl : l = r := by trivial
      exact ⟨rfl, l, l, rfl, a2, a4, a5⟩
    case s2 =>
      rintro x c st2 _ hx ⟨rfl, l, r, rfl, a1, a2, a3, a4, a5⟩
      dsimp only
      by_cases hge : l ≥ r
      · rw [if_pos hge]
        obtain rfl : l = r := by trivial
        exact wpS_pure ⟨rfl, l, l, rfl, a2, a4, a5⟩
      · rw [if_neg hge]
        refine wpS_bind (wpS_ltAt' C (ch.kind.trans hk0) (ch.all hS0) (by trivial) (by trivial) ?_)
        dsimp only
        cases e : O.blt (ky (at_ (arrOf st2) (lo + k))) (ky (at_ (arrOf st2) (lo + (l + r) / 2))) with
        | true =>
          rw [if_pos rfl]
          exact wpS_pure ⟨rfl, l, (l + r) / 2, rfl, by trivial, by trivial, by trivial, a4, fun i i1 i2 => KeyOrd.klt_of_klt_of_kle e (u _ i i1 i2).1⟩
        | false =>
          rw [if_neg Bool.false_ne_true]
          exact wpS_pure ⟨rfl, (l + r) / 2 + 1, r, rfl, by trivial, by trivial, by trivial, fun i i1 => R.trans (u i ((l + r) / 2) (by trivial) (by trivial)) (R.le e (lp.any (by trivial) (Nat.le_refl _) (by trivial))), a5⟩
    case p2 =>
      rintro c st2 ⟨rfl, l, r, rfl, a1, a4, a5⟩
      dsimp only
      have hks : lo + k < (arrOf st2).size := by trivial
      show wpS _ _ _ _ (moveDown' (lo + k) (lo + l) >>= fun _ => pure (ForInStep.yield (none, ()))) _ _
      rw [moveDown'_eq]
      refine wpS_bind (wpS_modify (wpS_pure ⟨rfl, ch.trans (chg_bubble hks (by trivial) (by trivial)), ?_, ?_⟩))
      · rw [show min (k + 1) n = k + 1 by trivial]
        intro i j hij hj
        show R O ky ix (at_ (bubble (arrOf st2) (lo + k) (lo + k - (lo + l))) (lo + i)) (at_ (bubble (arrOf st2) (lo + k) (lo + k - (lo + l))) (lo + j))
        rw [at_bubble hks (by trivial), at_bubble hks (by trivial), show lo + k - (lo + k - (lo + l)) = lo + l by trivial]
        by_cases i1 : i = l
        · rw [if_pos (by trivial)]
          by_cases j1 : j = l
          · rw [if_pos (by trivial)]; exact R.refl _
          · rw [if_neg (by trivial), if_pos (by trivial), show lo + j - 1 = lo + (j - 1) by trivial]
            exact R.lt (a5 (j - 1) (by trivial) (by trivial))
        · rw [if_neg (by trivial)]
          by_cases i2 : l < i
          · rw [if_pos (by trivial), if_neg (by trivial), if_pos (by trivial), show lo + i - 1 = lo + (i - 1) by trivial, show lo + j - 1 = lo + (j - 1) by trivial]
            exact u _ _ (by trivial) (by trivial)
          · rw [if_neg (by trivial)]
            by_cases j1 : j = l
            · rw [if_pos (by trivial)]; exact a4 i (by trivial)
            · rw [if_neg (by trivial)]
              by_cases j2 : l < j
              · rw [if_pos (by trivial), show lo + j - 1 = lo + (j - 1) by trivial]; exact u _ _ (by trivial) (by trivial)
              · rw [if_neg (by trivial)]; exact u _ _ hij (by trivial)
      · rw [show min (k + 1) n = k + 1 by trivial]
        refine (lp.on (Nat.le_succ k)).of (fun i hi => ?_) (fun i hi => ?_)
        · show ∃ k', k' < k + 1 ∧ at_ (bubble (arrOf st2) (lo + k) (lo + k - (lo + l))) (lo + i) = _
          rw [at_bubble hks (by trivial), show lo + k - (lo + k - (lo + l)) = lo + l by trivial]
          by_cases i1 : lo + i = lo + l
          · rw [if_pos i1]; exact ⟨k, by trivial, rfl⟩
          · rw [if_neg i1]
            by_cases i2 : lo + l < lo + i ∧ lo + i ≤ lo + k
            · rw [if_pos i2, show lo + i - 1 = lo + (i - 1) by trivial]; exact ⟨i - 1, by trivial, rfl⟩
            · rw [if_neg i2]; exact ⟨i, hi, rfl⟩
        · show at_ (bubble (arrOf st2) (lo + k) (lo + k - (lo + l))) (lo + i) = _
          rw [at_bubble hks (by trivial), if_neg (by trivial), if_neg (by trivial)]
end
end TT
set_option linter.all false
namespace TT
open PySem PyProof.Rows TS
noncomputable def offs : Nat → List (List Keyed) → List (Nat × Nat)
  | _, [] => []
  | o, g :: r => (o, g.length) :: offs (o + g.length) r
theorem offs_append : ∀ (p q : List (List Keyed)) (o : Nat), offs o (p ++ q) = offs o p ++ offs (o + p.flatten.length) q
  | [], q, o => by simp [offs]
  | g :: r, q, o => by
    show (o, g.length) :: offs (o + g.length) (r ++ q) = (o, g.length) :: offs (o + g.length) r ++ _
    rw [offs_append r q, List.cons_append, List.flatten_cons, List.length_append, Nat.add_assoc]
theorem offs_length : ∀ (p : List (List Keyed)) (o : Nat), (offs o p).length = p.length
  | [], _ => rfl
  | g :: r, o => by show (offs (o + g.length) r).length + 1 = _; rw [offs_length r]; rfl
noncomputable def two (p : Nat × Nat × Nat) : Nat × Nat := (p.1, p.2.1)
noncomputable def Ord (ix : Keyed → Nat) (l : List (List Keyed)) : Prop := l.Pairwise fun g h => ∀ x ∈ g, ∀ y ∈ h, ix x ≤ ix y
theorem Ord.two {ix : Keyed → Nat} {pre post : List (List Keyed)} {F G : List Keyed} (h : Ord ix (pre ++ F :: G :: post)) : ∀ x ∈ F, ∀ y ∈ G, ix x ≤ ix y :=
  (List.pairwise_cons.mp (List.pairwise_append.mp h).2.1).1 G List.mem_cons_self
theorem Ord.join {ix : Keyed → Nat} {pre post : List (List Keyed)} {F G M : List Keyed} (h : Ord ix (pre ++ F :: G :: post)) (hm : ∀ x ∈ M, x ∈ F ∨ x ∈ G) : Ord ix (pre ++ M :: post) := by
  unfold Ord at h ⊢
  rw [List.pairwise_append, List.pairwise_cons, List.pairwise_cons] at h
  rw [List.pairwise_append, List.pairwise_cons]
  obtain ⟨h1, ⟨h2, h3, h4⟩, h5⟩ := h
  refine ⟨h1, ⟨fun g hg x hx y hy => ?_, h4⟩, fun g hg k hk x hx y hy => ?_⟩
  · rcases hm x hx with z | z
    · exact h2 g (List.mem_cons_of_mem _ hg) x z y hy
    · exact h3 g hg x z y hy
  · rcases List.mem_cons.mp hk with e | hk
    · subst e
      rcases hm y hy with z | z
      · exact h5 g hg F List.mem_cons_self x hx y z
      · exact h5 g hg G (List.mem_cons_of_mem _ List.mem_cons_self) x hx y z
    · exact h5 g hg k (List.mem_cons_of_mem _ (List.mem_cons_of_mem _ hk)) x hx y hy
theorem Ord.last {ix : Keyed → Nat} {l : List (List Keyed)} {r r' : List Keyed} (h : Ord ix (l ++ [r])) (hm : ∀ x ∈ r', x ∈ r) : Ord ix (l ++ [r']) := by
  unfold Ord at h ⊢
  rw [List.pairwise_append] at h ⊢
  refine ⟨h.1, List.pairwise_singleton _ _, fun g hg k hk x hx y hy => ?_⟩
  rw [List.mem_singleton.mp hk] at hy
  exact h.2.2 g hg r List.mem_cons_self x hx y (hm y hy)
theorem Ord.cut {ix : Keyed → Nat} {l : List (List Keyed)} {a b : List Keyed} (h : Ord ix (l ++ [a ++ b])) (hm : ∀ x ∈ a, ∀ y ∈ b, ix x ≤ ix y) : Ord ix ((l ++ [a]) ++ [b]) := by
  unfold Ord at h ⊢
  rw [List.pairwise_append] at h
  rw [List.append_assoc, List.pairwise_append]
  refine ⟨h.1, List.pairwise_pair.mpr hm, fun g hg k hk x hx y hy => ?_⟩
  have hk' : k = a ∨ k = b := by simpa using hk
  rcases hk' with rfl | rfl
  · exact h.2.2 g hg _ List.mem_cons_self x hx y (List.mem_append_left _ hy)
  · exact h.2.2 g hg _ List.mem_cons_self x hx y (List.mem_append_right _ hy)
structure Stk (O : KeyOrd) (ky : Keyed → O.α) (ix : Keyed → Nat) (kd : SortKind) (a0 : Array Keyed) (st : SortSt) (segs : List (List Keyed)) (rest : List Keyed) : Prop where
  kind : kindOf st = kd
  fail : failedOf st = none
  arr : (arrOf st).toList = segs.flatten ++ rest
  perm : (arrOf st).Perm a0
  pend : (pendingOf st).toList.map two = offs 0 segs
  each : ∀ g ∈ segs, g ≠ [] ∧ Srt O ky ix g
  ord : Ord ix (segs ++ [rest])
theorem at_seg {arr : Array Keyed} {P G T : List Keyed} (h : arr.toList = P ++ (G ++ T)) {i : Nat} {x : Keyed} (hx : G[i]? = some x) : at_ arr (P.length + i) = x := by
  have e : arr.toList[P.length + i]? = some x := by
    rw [h, List.getElem?_append_right (by trivial), show P.length + i - P.length = i by trivial, List.getElem?_append_left (List.getElem?_eq_some_iff.mp hx).1]
    exact hx
  unfold at_
  rw [← Array.getElem?_toList, e]; rfl
section
variable {O : KeyOrd} {ky : Keyed → O.α} {ix : Keyed → Nat}
theorem srt_ij {G : List Keyed} (h : Srt O ky ix G) {i j : Nat} {x y : Keyed} (hij : i ≤ j) (hx : G[i]? = some x) (hy : G[j]? = some y) : R O ky ix x y := by
  obtain ⟨h1, e1⟩ := List.getElem?_eq_some_iff.mp hx
  obtain ⟨h2, e2⟩ := List.getElem?_eq_some_iff.mp hy
  by_cases e : i = j
  · subst e
    rw [hx] at hy
    cases hy
    exact R.refl _
  · have := List.pairwise_iff_getElem.mp h i j h1 h2 (by trivial)
    rw [e1, e2] at this
    exact this
theorem seg_srt {arr : Array Keyed} {P G T : List Keyed} (h : arr.toList = P ++ (G ++ T)) (hs : Srt O ky ix G) : ∀ i j, i ≤ j → j < G.length → R O ky ix (at_ arr (P.length + i)) (at_ arr (P.length + j)) := fun i j hij hj => by
  have e1 : G[i]? = some G[i] := List.getElem?_eq_getElem _
  have e2 : G[j]? = some G[j] := List.getElem?_eq_getElem _
  rw [at_seg h e1, at_seg h e2]
  exact srt_ij hs hij e1 e2
end
theorem write_back (sa : Nat) : ∀ (m : List Keyed) (n : Nat) (arr : Array Keyed), sa + n + m.length ≤ arr.size →
    ((m.zipIdx n).foldl (fun a (x : Keyed × Nat) => match x with | (p, j) => a.setIfInBounds (sa + j) p) arr).toList = arr.toList.take (sa + n) ++ (m ++ arr.toList.drop (sa + n + m.length))
  | [], n, arr, _ => by simp
  | p :: r, n, arr, h => by
    rw [List.length_cons] at h
    rw [List.zipIdx_cons, List.foldl_cons]
    have ih := write_back sa r (n + 1) (arr.setIfInBounds (sa + n) p) (by simp; trivial)
    rw [ih]
    have hlt : sa + n < arr.toList.length := by simp; trivial
    have el : (arr.setIfInBounds (sa + n) p).toList = arr.toList.set (sa + n) p := by simp
    rw [el, show sa + (n + 1) = sa + n + 1 by trivial, List.take_add_one, List.length_cons]
    rw [List.take_set_of_le (by trivial), List.getElem?_set_self hlt, List.drop_set_of_lt (by trivial)]
    simp [Nat.add_assoc, Nat.add_comm, Nat.add_left_comm]
section
variable {prog : Program} {w : World} {A : Around} {E : Value → Shared → Prop} {s : Shared}
variable {kd : SortKind} {O : KeyOrd} {ky : Keyed → O.α} {ix : Keyed → Nat} {S : Keyed → Prop} {a0 : Array Keyed}
theorem pend_split {st : SortSt} {pre post : List (List Keyed)} {F G : List Keyed} (h : (pendingOf st).toList.map two = offs 0 (pre ++ F :: G :: post)) : ∃ p1 w1 w2 p2, (pendingOf st).toList = p1 ++ (pre.flatten.length, F.length, w1) :: (pre.flatten.length + F.length, G.length, w2) :: p2 ∧ p1.length = pre.length ∧ p1.map two = offs 0 pre ∧ p2.map two = offs (pre.flatten.length + F.length + G.length) post := by
  rw [offs_append] at h
  obtain ⟨p1, p2, e, e1, e2⟩ := List.map_eq_append_iff.mp h
  have h2 : p2.map two = (0 + pre.flatten.length, F.length) :: (0 + pre.flatten.length + F.length, G.length) :: offs (0 + pre.flatten.length + F.length + G.length) post := e2
  rw [Nat.zero_add] at h2
  obtain ⟨q1, p3, rfl, f1, f2⟩ := List.map_eq_cons_iff.mp h2
  obtain ⟨q2, p4, rfl, g1, g2⟩ := List.map_eq_cons_iff.mp f2
  obtain ⟨x1, x2, x3⟩ := q1
  obtain ⟨y1, y2, y3⟩ := q2
  obtain ⟨rfl, rfl⟩ := Prod.mk.inj (show (x1, x2) = _ from f1)
  obtain ⟨rfl, rfl⟩ := Prod.mk.inj (show (y1, y2) = _ from g1)
  refine ⟨p1, x3, y3, p4, e, ?_, e1, g2⟩
  have := congrArg List.length e1
  rw [List.length_map, offs_length] at this
  exact this
theorem wpS_mergeAt (C : Cmp prog w A s kd O ky S) {st : SortSt} {pre post : List (List Keyed)} {F G : List Keyed} {rest : List Keyed} {i : Nat} {Q : Bool → SortSt → Prop} (hS : ∀ p ∈ a0.toList, S p) (h : Stk O ky ix kd a0 st (pre ++ F :: G :: post) rest) (hi : i = pre.length)
    (k : ∀ st' M, Stk O ky ix kd a0 st' (pre ++ M :: post) rest → M.length = F.length + G.length → Q true st') : wpS (model prog w) A E s (TS.mergeAt' i) Q st := by
  obtain ⟨p1, w1, w2, p2, ep, l1, q1, q2⟩ := pend_split h.pend
  have hSa : ∀ p ∈ (arrOf st).toList, S p := fun p hp => hS p ((Array.perm_iff_toList_perm.mp h.perm).mem_iff.mp hp)
  have hF := h.each F (List.mem_append_right _ List.mem_cons_self)
  have hG := h.each G (List.mem_append_right _ (List.mem_cons_of_mem _ List.mem_cons_self))
  have lF : 1 ≤ F.length := List.length_pos_iff.mpr hF.1
  have lG : 1 ≤ G.length := List.length_pos_iff.mpr hG.1
  have arrF : (arrOf st).toList = pre.flatten ++ (F ++ (G ++ (post.flatten ++ rest))) := by
    rw [h.arr]; simp
  have arrG : (arrOf st).toList = (pre.flatten ++ F) ++ (G ++ (post.flatten ++ rest)) := by
    rw [arrF]; simp
  have lenG : (pre.flatten ++ F).length = pre.flatten.length + F.length := List.length_append
  have hsz : pre.flatten.length + F.length + G.length ≤ (arrOf st).size := by
    have := congrArg List.length arrF
    rw [List.length_append, List.length_append, List.length_append, Array.length_toList] at this
    trivial
  have srF := seg_srt arrF hF.2
  have srG := seg_srt arrG hG.2
  rw [lenG] at srG
  have g1 : (pendingOf st)[i]? = some (pre.flatten.length, F.length, w1) := by
    rw [← Array.getElem?_toList, ep, hi, ← l1]; simp
  have g2 : (pendingOf st)[i + 1]? = some (pre.flatten.length + F.length, G.length, w2) := by
    rw [← Array.getElem?_toList, ep, hi, ← l1, List.getElem?_append_right (by trivial)]; simp
  unfold TS.mergeAt'
  refine wpS_bind (wpS_get ?_)
  rw [show (pendingOf st)[i]? = _ from g1, show (pendingOf st)[i + 1]? = _ from g2]
  dsimp only
  -- what is told whatever is merged
  have fin : ∀ (st' : SortSt) (M : List Keyed), kindOf st' = kindOf st → failedOf st' = failedOf st → (arrOf st').toList = pre.flatten ++ (M ++ (post.flatten ++ rest)) → M.Perm (F ++ G) → Srt O ky ix M →
      pendingOf st' = ((pendingOf st).setIfInBounds i (pre.flatten.length, F.length + G.length, w1)).eraseIdxIfInBounds (i + 1) → Q true st' := by
    intro st' M k1 k2 k3 k4 k5 k6
    refine k st' M ⟨k1.trans h.kind, k2.trans h.fail, ?_, ?_, ?_, fun g hg => ?_, ?_⟩ (by rw [k4.length_eq, List.length_append])
    · rw [k3]; simp
    · refine Array.Perm.trans (Array.perm_iff_toList_perm.mpr ?_) h.perm
      rw [k3, arrF]
      refine List.Perm.append_left _ ?_
      rw [← List.append_assoc F]
      exact k4.append_right _
    · rw [k6]
      have e : (((pendingOf st).setIfInBounds i (pre.flatten.length, F.length + G.length, w1)).eraseIdxIfInBounds (i + 1)).toList = p1 ++ (pre.flatten.length, F.length + G.length, w1) :: p2 := by
        simp [ep]
        rw [hi, ← l1, List.set_append_right _ _ (Nat.le_refl _), Nat.sub_self, List.set_cons_zero, List.eraseIdx_append_of_length_le (by trivial), show p1.length + 1 - p1.length = 1 by trivial]
        rfl
      rw [e, List.map_append, q1, List.map_cons, q2, offs_append, Nat.zero_add]
      show _ = offs 0 pre ++ (pre.flatten.length, M.length) :: offs (pre.flatten.length + M.length) post
      rw [k4.length_eq, List.length_append, ← Nat.add_assoc]
      rfl
    · rcases List.mem_append.mp hg with hg | hg
      · exact h.each g (List.mem_append_left _ hg)
      · rcases List.mem_cons.mp hg with hg | hg
        · subst hg
          refine ⟨fun z => ?_, k5⟩
          have := k4.length_eq
          rw [z, List.length_append] at this
          simp at this
          trivial
        · exact h.each g (List.mem_append_right _ (List.mem_cons_of_mem _ (List.mem_cons_of_mem _ hg)))
    · have o := h.ord
      rw [List.append_assoc, List.cons_append, List.cons_append] at o
      rw [List.append_assoc, List.cons_append]
      exact o.join fun x hx => List.mem_append.mp (k4.mem_iff.mp hx)
  have fG : ∀ {i : Nat}, i < G.length → ∃ x, G[i]? = some x ∧ at_ (arrOf st) (pre.flatten.length + F.length + i) = x := fun {i} hi => by
    refine ⟨G[i], List.getElem?_eq_getElem _, ?_⟩
    have := at_seg arrG (i := i) (List.getElem?_eq_getElem hi)
    rw [lenG] at this
    exact this
  have fF : ∀ {i : Nat}, i < F.length → ∃ x, F[i]? = some x ∧ at_ (arrOf st) (pre.flatten.length + i) = x := fun {i} hi => ⟨F[i], List.getElem?_eq_getElem _, at_seg arrF (List.getElem?_eq_getElem hi)⟩
  have memF : ∀ {x : Keyed} {i j : Nat}, x ∈ (F.take j).drop i → ∃ n, i ≤ n ∧ n < j ∧ n < F.length ∧ at_ (arrOf st) (pre.flatten.length + n) = x := fun {x i j} hx => by
    obtain ⟨n, hn, e⟩ := List.getElem_of_mem hx
    rw [List.length_drop, List.length_take] at hn
    refine ⟨i + n, by trivial, by trivial, by trivial, at_seg arrF ?_⟩
    have e2 : ((F.take j).drop i)[n]? = some x := by rw [← e]; exact List.getElem?_eq_getElem _
    rw [List.getElem?_drop, List.getElem?_take, if_pos (by trivial)] at e2
    exact e2
  have memG : ∀ {x : Keyed} {i j : Nat}, x ∈ (G.take j).drop i → ∃ n, i ≤ n ∧ n < j ∧ n < G.length ∧ at_ (arrOf st) (pre.flatten.length + F.length + n) = x := fun {x i j} hx => by
    obtain ⟨n, hn, e⟩ := List.getElem_of_mem hx
    rw [List.length_drop, List.length_take] at hn
    have e2 : ((G.take j).drop i)[n]? = some x := by rw [← e]; exact List.getElem?_eq_getElem _
    rw [List.getElem?_drop, List.getElem?_take, if_pos (by trivial)] at e2
    have := at_seg arrG e2
    rw [lenG] at this
    exact ⟨i + n, by trivial, by trivial, by trivial, this⟩
  have allF : F = (F.take F.length).drop 0 := by simp
  have allG : G = (G.take G.length).drop 0 := by simp
  have hix : ∀ x ∈ F, ∀ y ∈ G, ix x ≤ ix y := by
    have o := h.ord
    rw [List.append_assoc, List.cons_append, List.cons_append] at o
    exact o.two
  have hixA : ∀ m n, m < F.length → n < G.length → ix (at_ (arrOf st) (pre.flatten.length + m)) ≤ ix (at_ (arrOf st) (pre.flatten.length + F.length + n)) := fun m n hm hn => by
    obtain ⟨x, x1, x2⟩ := fF hm
    obtain ⟨y, y1, y2⟩ := fG hn
    rw [x2, y2]
    exact hix x (List.mem_of_getElem? x1) y (List.mem_of_getElem? y1)
  refine wpS_bind (wpS_modify (f := fun _ => _) ?_)
  refine wpS_bind (wpS_elem (at_eq (show pre.flatten.length + F.length < (arrOf st).size by trivial)) ?_)
  refine wpS_bind (wpS_gal C h.kind (hSa _ (at_mem (show pre.flatten.length + F.length < (arrOf st).size by trivial))) hSa srF (fun i hi => by simp only [Bool.false_eq_true, if_false]; exact hixA i 0 hi lG) (show pre.flatten.length + F.length ≤ (arrOf st).size by trivial) (by trivial) fun kk hkk r1 r2 => ?_)
  dsimp only
  simp only [Bool.false_eq_true, if_false] at r1 r2
  have G0 : ∀ y ∈ G, R O ky ix (at_ (arrOf st) (pre.flatten.length + F.length)) y := fun y hy => by
    rw [allG] at hy
    obtain ⟨n, _, _, n3, rfl⟩ := memG hy
    exact srG 0 n (by trivial) n3
  by_cases z1 : (F.length - kk == 0) = true
  · rw [if_pos z1]
    have z1' : F.length - kk = 0 := by simpa using z1
    refine wpS_pure (fin _ (F ++ G) rfl rfl ?_ (List.Perm.refl _) ?_ rfl)
    · show (arrOf st).toList = _
      rw [arrF]; simp
    · unfold Srt
      rw [List.pairwise_append]
      refine ⟨hF.2, hG.2, fun x hx y hy => ?_⟩
      rw [allF] at hx
      obtain ⟨n, _, _, n3, rfl⟩ := memF hx
      exact R.trans (r1 n (by trivial)) (G0 y hy)
  rw [if_neg z1]
  have z1' : ¬ F.length - kk = 0 := by simpa using z1
  have elast : pre.flatten.length + kk + (F.length - kk) - 1 = pre.flatten.length + (F.length - 1) := by trivial
  rw [elast]
  refine wpS_bind (wpS_elem (at_eq (show pre.flatten.length + (F.length - 1) < (arrOf st).size by trivial)) ?_)
  refine wpS_bind (wpS_gal C h.kind (hSa _ (at_mem (show pre.flatten.length + (F.length - 1) < (arrOf st).size by trivial))) hSa srG (fun i hi => by simp only [if_true]; exact hixA (F.length - 1) i (by trivial) hi) (show pre.flatten.length + F.length + G.length ≤ (arrOf st).size by trivial) (by trivial) fun nn hnn t1 t2 => ?_)
  dsimp only
  simp only [if_true] at t1 t2
  have FL : ∀ x ∈ F, R O ky ix x (at_ (arrOf st) (pre.flatten.length + (F.length - 1))) := fun x hx => by
    rw [allF] at hx
    obtain ⟨n, _, _, n3, rfl⟩ := memF hx
    exact srF n (F.length - 1) (by trivial) (by trivial)
  by_cases z2 : (nn == 0) = true
  · rw [if_pos z2]
    have z2' : nn = 0 := by simpa using z2
    refine wpS_pure (fin _ (F ++ G) rfl rfl ?_ (List.Perm.refl _) ?_ rfl)
    · show (arrOf st).toList = _
      rw [arrF]; simp
    · unfold Srt
      rw [List.pairwise_append]
      refine ⟨hF.2, hG.2, fun x hx y hy => ?_⟩
      rw [allG] at hy
      obtain ⟨n, _, _, n3, rfl⟩ := memG hy
      exact R.trans (FL x hx) (t2 n (by trivial) n3)
  rw [if_neg z2]
  have z2' : ¬ nn = 0 := by simpa using z2
  have hx : ((arrOf st).extract (pre.flatten.length + kk) (pre.flatten.length + F.length)).toList = F.drop kk := by
    rw [ext2, arrG, ← lenG, List.take_append_of_le_length (Nat.le_refl _), List.take_length, ← List.drop_drop]
    simp
  have hy : ((arrOf st).extract (pre.flatten.length + F.length) (pre.flatten.length + F.length + nn)).toList = G.take nn := by
    rw [ext_some, arrG, ← lenG, List.drop_append_of_le_length (Nat.le_refl _), List.drop_length, List.nil_append, List.take_append_of_le_length hnn]
  have szx : ((arrOf st).extract (pre.flatten.length + kk) (pre.flatten.length + F.length)).size = F.length - kk := by
    rw [← Array.length_toList, hx, List.length_drop]
  have szy : ((arrOf st).extract (pre.flatten.length + F.length) (pre.flatten.length + F.length + nn)).size = nn := by
    rw [← Array.length_toList, hy, List.length_take]; trivial
  generalize (arrOf st).extract (pre.flatten.length + kk) (pre.flatten.length + F.length) = x at hx szx ⊢
  generalize (arrOf st).extract (pre.flatten.length + F.length) (pre.flatten.length + F.length + nn) = y at hy szy ⊢
  have inF : ∀ p ∈ F, S p := fun p hp => hSa p (by rw [arrF]; exact List.mem_append_right _ (List.mem_append_left _ hp))
  have inG : ∀ p ∈ G, S p := fun p hp => hSa p (by rw [arrF]; exact List.mem_append_right _ (List.mem_append_right _ (List.mem_append_left _ hp)))
  have hSx : ∀ p ∈ x.toList, S p := fun p hp => inF p (by rw [hx] at hp; exact List.mem_of_mem_drop hp)
  have hSy : ∀ p ∈ y.toList, S p := fun p hp => inG p (by rw [hy] at hp; exact List.mem_of_mem_take hp)
  have sx : Srt O ky ix x.toList := by rw [hx]; exact drop_srt hF.2 _
  have sy : Srt O ky ix y.toList := by rw [hy]; exact take_srt hG.2 _
  have hixy : ∀ p ∈ x.toList, ∀ q ∈ y.toList, ix p ≤ ix q := fun p hp q hq => by
    rw [hx] at hp
    rw [hy] at hq
    exact hix p (List.mem_of_mem_drop hp) q (List.mem_of_mem_take hq)
  have y0 : at_ y 0 = at_ (arrOf st) (pre.flatten.length + F.length) := by
    obtain ⟨g, hg1, hg2⟩ := fG (i := 0) lG
    have e : y.toList[0]? = some g := by rw [hy, List.getElem?_take, if_pos (by trivial)]; exact hg1
    rw [show pre.flatten.length + F.length = pre.flatten.length + F.length + 0 from rfl, hg2]
    unfold at_
    rw [← Array.getElem?_toList, e]; rfl
  have xl : at_ x (x.size - 1) = at_ (arrOf st) (pre.flatten.length + (F.length - 1)) := by
    obtain ⟨g, hg1, hg2⟩ := fF (i := F.length - 1) (by trivial)
    have e : x.toList[x.size - 1]? = some g := by rw [hx, szx, List.getElem?_drop, show kk + (F.length - kk - 1) = F.length - 1 by trivial]; exact hg1
    rw [hg2]
    unfold at_
    rw [← Array.getElem?_toList, e]; rfl
  have h0 : ∀ p ∈ x.toList, R O ky ix (at_ y 0) p := fun p hp => by
    rw [hx, show F.drop kk = (F.take F.length).drop kk by rw [List.take_length]] at hp
    obtain ⟨n, n1, _, n3, rfl⟩ := memF hp
    rw [y0]
    exact R.lt (r2 n n1 n3)
  have hl : ∀ p ∈ y.toList, R O ky ix p (at_ x (x.size - 1)) := fun p hp => by
    rw [hy, show G.take nn = (G.take nn).drop 0 by rw [List.drop_zero]] at hp
    obtain ⟨n, _, n2, n3, rfl⟩ := memG hp
    rw [xl]
    exact R.lt (t1 n n2)
  have last : ∀ (o : Array Keyed) (st' : SortSt), Good O ky ix x y o → SameSt (SortSt.mk' (kindOf st) (arrOf st) (((pendingOf st).setIfInBounds i (pre.flatten.length, F.length + G.length, w1)).eraseIdxIfInBounds (i + 1)) (gallopOf st) (failedOf st)) st' →
      (failedOf st').isNone = true ∧ Q true (SortSt.mk' (kindOf st') (o.toList.zipIdx.foldl (fun a (x : Keyed × Nat) => match x with | (p, j) => a.setIfInBounds (pre.flatten.length + kk + j) p) (arrOf st')) (pendingOf st') (gallopOf st') (failedOf st')) := by
    intro o st' go ss
    obtain ⟨pm, so⟩ := go
    rw [hx, hy] at pm
    have lo : o.toList.length = F.length - kk + nn := by rw [pm.length_eq, List.length_append, List.length_drop, List.length_take]; trivial
    refine ⟨by rw [show failedOf st' = failedOf st from ss.fail, h.fail]; rfl, ?_⟩
    refine fin _ (F.take kk ++ (o.toList ++ G.drop nn)) ss.kind ss.fail ?_ ?_ ?_ ss.pend
    · show (o.toList.zipIdx.foldl _ (arrOf st')).toList = _
      rw [show arrOf st' = arrOf st from ss.arr]
      have wb := write_back (pre.flatten.length + kk) o.toList 0 (arrOf st) (by trivial)
      rw [Nat.add_zero] at wb
      refine wb.trans ?_
      have d1 : (arrOf st).toList.take (pre.flatten.length + kk) = pre.flatten ++ F.take kk := by
        rw [arrF, List.take_length_add_append, List.take_append_of_le_length (by trivial)]
      have d2 : (arrOf st).toList.drop (pre.flatten.length + kk + o.toList.length) = G.drop nn ++ (post.flatten ++ rest) := by
        rw [arrG, lo, show pre.flatten.length + kk + (F.length - kk + nn) = (pre.flatten ++ F).length + nn by rw [lenG]; trivial, List.drop_length_add_append, List.drop_append_of_le_length hnn]
      rw [d1, d2]; simp
    · have e1 := List.take_append_drop kk F
      have e2 := List.take_append_drop nn G
      conv => rhs; rw [← e1, ← e2]
      rw [List.append_assoc]
      refine List.Perm.append_left _ ?_
      rw [← List.append_assoc]
      exact pm.append_right _
    · have mo : ∀ p ∈ o.toList, p ∈ F.drop kk ∨ p ∈ G.take nn := fun p hp => List.mem_append.mp (pm.mem_iff.mp hp)
      unfold Srt
      rw [List.pairwise_append, List.pairwise_append]
      refine ⟨take_srt hF.2 _, ⟨so, drop_srt hG.2 _, fun p hp q hq => ?_⟩, fun p hp q hq => ?_⟩
      · rcases mo p hp with hp | hp
        · rw [show G.drop nn = (G.take G.length).drop nn by rw [List.take_length]] at hq
          obtain ⟨n, n1, _, n3, rfl⟩ := memG hq
          exact R.trans (FL p (List.mem_of_mem_drop hp)) (t2 n n1 n3)
        · exact split_srt hG.2 nn p hp q hq
      · have ub : R O ky ix p (at_ (arrOf st) (pre.flatten.length + F.length)) := by
          rw [show F.take kk = (F.take kk).drop 0 by rw [List.drop_zero]] at hp
          obtain ⟨n, _, n2, n3, rfl⟩ := memF hp
          exact r1 n n2
        rcases List.mem_append.mp hq with hq | hq
        · rcases mo q hq with hq | hq
          · exact split_srt hF.2 kk p hp q hq
          · exact R.trans ub (G0 q (List.mem_of_mem_take hq))
        · exact R.trans ub (G0 q (List.mem_of_mem_drop hq))
  by_cases hle : F.length - kk ≤ nn
  · rw [if_pos hle]
    refine wpS_bind (wpS_mergeLo C h.kind hSx hSy sx sy hixy (by trivial) (by trivial) h0 hl fun o st' go ss => ?_)
    obtain ⟨l1, l2⟩ := last o st' go ss
    refine wpS_bind (wpS_modify (wpS_bind (wpS_get (wpS_pure ?_))))
    rw [show (failedOf st').isNone = true from l1]
    exact l2
  · rw [if_neg hle]
    refine wpS_bind (wpS_mergeHi C h.kind hSx hSy sx sy hixy (by trivial) (by trivial) h0 hl fun o st' go ss => ?_)
    obtain ⟨l1, l2⟩ := last o st' go ss
    refine wpS_bind (wpS_modify (wpS_bind (wpS_get (wpS_pure ?_))))
    rw [show (failedOf st').isNone = true from l1]
    exact l2
end
end TT
set_option linter.all false
namespace TT
open PySem PyProof.Rows TS
section
variable {prog : Program} {w : World} {A : Around} {E : Value → Shared → Prop} {s : Shared}
variable {kd : SortKind} {O : KeyOrd} {ky : Keyed → O.α} {ix : Keyed → Nat} {S : Keyed → Prop} {a0 : Array Keyed}
theorem Stk.chg {st st' : SortSt} {segs : List (List Keyed)} {rest : List Keyed} {lo : Nat} (h : Stk O ky ix kd a0 st segs rest) (c : Chg lo st st') (hl : segs.flatten.length = lo) : Stk O ky ix kd a0 st' segs ((arrOf st').toList.drop lo) := by
  have e : (arrOf st').toList.take lo = segs.flatten := by
    have e0 : (arrOf st).toList.take lo = segs.flatten := by rw [h.arr, ← hl, List.take_append_of_le_length (Nat.le_refl _), List.take_length]
    rw [← e0]
    apply List.ext_getElem?
    intro i
    rw [List.getElem?_take, List.getElem?_take]
    by_cases hi : i < lo
    · rw [if_pos hi, if_pos hi, Array.getElem?_toList, Array.getElem?_toList]; exact c.low i hi
    · rw [if_neg hi, if_neg hi]
  have ea : (arrOf st').toList = segs.flatten ++ (arrOf st').toList.drop lo := by rw [← e, List.take_append_drop]
  refine ⟨c.kind.trans h.kind, c.fail.trans h.fail, ea, c.perm.trans h.perm, by rw [c.pend]; exact h.pend, h.each, h.ord.last fun x hx => ?_⟩
  have p := Array.perm_iff_toList_perm.mp c.perm
  rw [ea, h.arr] at p
  exact ((List.perm_append_left_iff _).mp p).mem_iff.mp hx
theorem up_srt {st : SortSt} {lo n : Nat} (hn : lo + n ≤ (arrOf st).size) (h : Up O ky ix st lo n) : Srt O ky ix (((arrOf st).toList.drop lo).take n) := by
  unfold Srt
  rw [List.pairwise_iff_getElem]
  intro i j hi hj hij
  rw [List.length_take, List.length_drop] at hi hj
  have hat : ∀ k (hk : k < (((arrOf st).toList.drop lo).take n).length), (((arrOf st).toList.drop lo).take n)[k] = at_ (arrOf st) (lo + k) := fun k hk => by
    have hk' := hk
    rw [List.length_take, List.length_drop] at hk'
    have e : (((arrOf st).toList.drop lo).take n)[k]? = some (((arrOf st).toList.drop lo).take n)[k] := List.getElem?_eq_getElem _
    rw [List.getElem?_take, if_pos (by trivial), List.getElem?_drop, at_list (by trivial)] at e
    exact (Option.some.inj e).symm
  rw [hat, hat]
  exact h i j (by trivial) (by trivial)
theorem Stk.push {st : SortSt} {segs : List (List Keyed)} {rest : List Keyed} {lo n : Nat} (h : Stk O ky ix kd a0 st segs rest) (hl : segs.flatten.length = lo) (h1 : 1 ≤ n) (hn : n ≤ rest.length) (hs : Srt O ky ix (rest.take n)) (hc : ∀ x ∈ rest.take n, ∀ y ∈ rest.drop n, ix x ≤ ix y) {st' : SortSt} (k1 : kindOf st' = kindOf st) (k2 : failedOf st' = failedOf st) (k3 : arrOf st' = arrOf st) (k4 : (pendingOf st').toList.map two = (pendingOf st).toList.map two ++ [(lo, n)]) :
    Stk O ky ix kd a0 st' (segs ++ [rest.take n]) (rest.drop n) := by
  have hln : (rest.take n).length = n := by rw [List.length_take]; trivial
  refine ⟨k1.trans h.kind, k2.trans h.fail, ?_, by rw [k3]; exact h.perm, ?_, fun g hg => ?_, Ord.cut (by rw [List.take_append_drop]; exact h.ord) hc⟩
  · rw [k3, h.arr]; simp
  · rw [k4, h.pend, offs_append, Nat.zero_add, hl]
    show _ = _ ++ [(lo, (rest.take n).length)]
    rw [hln]
  · rcases List.mem_append.mp hg with hg | hg
    · exact h.each g hg
    · have : g = rest.take n := by simpa using hg
      subst this
      refine ⟨fun z => ?_, hs⟩
      rw [z] at hln
      simp at hln
      trivial
theorem lap_list {st : SortSt} {lo n m : Nat} (h : Lap ix st lo n m) (hm : lo + m = (arrOf st).size) (hn : n ≤ m) : (∀ x ∈ ((arrOf st).toList.drop lo).take n, ∀ y ∈ ((arrOf st).toList.drop lo).drop n, ix x ≤ ix y) ∧ (((arrOf st).toList.drop lo).drop n).Pairwise (fun x y => ix x ≤ ix y) := by
  refine ⟨fun x hx y hy => ?_, ?_⟩
  · obtain ⟨i, i1, i2, rfl⟩ := mem_at hx
    obtain ⟨j, j1, e⟩ := List.getElem_of_mem hy
    rw [List.length_drop, List.length_drop, Array.length_toList] at j1
    have e2 : (((arrOf st).toList.drop lo).drop n)[j]? = some y := by rw [← e]; exact List.getElem?_eq_getElem _
    rw [List.getElem?_drop, List.getElem?_drop, at_list (by trivial)] at e2
    rw [← Option.some.inj e2]
    exact h.cross i (n + j) i1 (by trivial) (by trivial)
  · rw [List.pairwise_iff_getElem]
    intro i j hi hj hij
    have hat : ∀ k (hk : k < (((arrOf st).toList.drop lo).drop n).length), (((arrOf st).toList.drop lo).drop n)[k] = at_ (arrOf st) (lo + (n + k)) := fun k hk => by
      have hk' := hk
      rw [List.length_drop, List.length_drop, Array.length_toList] at hk'
      have e2 : (((arrOf st).toList.drop lo).drop n)[k]? = some (((arrOf st).toList.drop lo).drop n)[k] := List.getElem?_eq_getElem _
      rw [List.getElem?_drop, List.getElem?_drop, at_list (by trivial)] at e2
      exact (Option.some.inj e2).symm
    rw [hat, hat]
    rw [List.length_drop, List.length_drop, Array.length_toList] at hi hj
    exact h.rise _ _ (by trivial) (by trivial) (by trivial)
theorem lap_of_list {st : SortSt} {P T : List Keyed} {m : Nat} (h : (arrOf st).toList = P ++ T) (hm : m ≤ T.length) (hp : T.Pairwise (fun x y => ix x ≤ ix y)) : Lap ix st P.length 0 m := by
  refine ⟨fun i j h1 => by trivial, fun i j h1 h2 h3 => ?_⟩
  by_cases e : i = j
  · rw [e]; exact Nat.le_refl _
  · have hat : ∀ k (hk : k < T.length), at_ (arrOf st) (P.length + k) = T[k] := fun k hk => by
      have := at_seg (P := P) (G := T) (T := []) (i := k) (by rw [h, List.append_nil]) (List.getElem?_eq_getElem hk)
      exact this
    rw [hat i (by trivial), hat j (by trivial)]
    exact List.pairwise_iff_getElem.mp hp i j (by trivial) (by trivial) (by trivial)
theorem pend_size {st : SortSt} {segs : List (List Keyed)} {rest : List Keyed} (h : Stk O ky ix kd a0 st segs rest) : (pendingOf st).size = segs.length := by
  have := congrArg List.length h.pend
  rw [List.length_map, offs_length, Array.length_toList] at this
  exact this
theorem two_modify (p : Array (Nat × Nat × Nat)) (i v : Nat) : (p.modify i fun x => (x.1, x.2.1, v)).toList.map two = p.toList.map two := by
  apply List.ext_getElem?
  intro j
  rw [List.getElem?_map, List.getElem?_map, Array.getElem?_toList, Array.getElem?_toList, Array.getElem?_modify]
  split
  · cases p[j]? with
    | none => rfl
    | some x => rfl
  · rfl
theorem snoc2 {α : Type} {l : List α} (h : 2 ≤ l.length) {i : Nat} (hi : i + 2 = l.length ∨ i + 3 = l.length) : ∃ pre F G post, l = pre ++ F :: G :: post ∧ pre.length = i := by
  have h1 : i < l.length := by trivial
  have h2 : i + 1 < l.length := by trivial
  refine ⟨l.take i, l[i], l[i + 1], l.drop (i + 2), ?_, by rw [List.length_take]; trivial⟩
  conv => lhs; rw [← List.take_append_drop i l, List.drop_eq_getElem_cons h1, List.drop_eq_getElem_cons h2]
theorem pick {m i : Nat} {o : Option Nat} {f : Nat → Bool} (h2 : 2 ≤ m) (hb : (if Option.any f (if m - 2 > 0 then o else none) = true then m - 2 - 1 else m - 2) = i) : i + 2 = m ∨ i + 3 = m := by
  by_cases c : Option.any f (if m - 2 > 0 then o else none) = true
  · rw [if_pos c] at hb
    by_cases z : m - 2 > 0
    · right; trivial
    · rw [if_neg z] at c; simp at c
  · rw [if_neg c] at hb; left; trivial
theorem flat_join {pre post : List (List Keyed)} {F G M : List Keyed} (h : M.length = F.length + G.length) : (pre ++ M :: post).flatten.length = (pre ++ F :: G :: post).flatten.length := by
  simp [h, Nat.add_assoc]
theorem wpS_sort (C : Cmp prog w A s kd O ky S) {st0 : SortSt} {Q : Unit → SortSt → Prop} (hS : ∀ p ∈ (arrOf st0).toList, S p) (hk : kindOf st0 = kd) (hf : failedOf st0 = none) (hp : pendingOf st0 = #[]) (hrise : (arrOf st0).toList.Pairwise (fun x y => ix x ≤ ix y))
    (h : ∀ st', (arrOf st').Perm (arrOf st0) → failedOf st' = none → Srt O ky ix (arrOf st').toList → Q () st') : wpS (model prog w) A E s sortRuns' Q st0 := by
  unfold sortRuns'
  refine wpS_bind (wpS_get ?_)
  dsimp only
  generalize hsz : (arrOf st0).size = size
  generalize (sortPriv% PySem.Builtin.minRun) size size 0 = minrun
  have base : Stk O ky ix kd (arrOf st0) st0 [] (arrOf st0).toList := ⟨hk, hf, rfl, Array.Perm.refl _, by rw [hp]; rfl, (fun _ z => by cases z), List.pairwise_singleton _ _⟩
  have szof : ∀ {st : SortSt} {segs : List (List Keyed)} {rest : List Keyed}, Stk O ky ix kd (arrOf st0) st segs rest → (arrOf st).size = size ∧ segs.flatten.length + rest.length = size := fun {st segs rest} k => by
    have e := k.perm.size_eq
    have e2 := congrArg List.length k.arr
    rw [List.length_append, Array.length_toList] at e2
    exact ⟨by trivial, by trivial⟩
  have allS : ∀ {st : SortSt} {segs : List (List Keyed)} {rest : List Keyed}, Stk O ky ix kd (arrOf st0) st segs rest → ∀ p ∈ (arrOf st).toList, S p := fun {st segs rest} k p hp => hS p ((Array.perm_iff_toList_perm.mp k.perm).mem_iff.mp hp)
  refine wpS_bind (wpS_mono (wpS_forRange
    (I := fun x c st' => c.1 = none ∧ x ≤ c.2 ∧ ∃ segs rest, Stk O ky ix kd (arrOf st0) st' segs rest ∧ segs.flatten.length = c.2 ∧ rest.Pairwise (fun x y => ix x ≤ ix y))
    (Q := fun c st' => c.1 = none ∧ ∃ segs, Stk O ky ix kd (arrOf st0) st' segs []) ?step ?fin ⟨rfl, Nat.le_refl _, [], _, base, rfl, hrise⟩) ?post)
  case fin =>
    rintro c st' ⟨c1, c2, segs, rest, k, kl, _⟩
    obtain ⟨_, e⟩ := szof k
    have : rest = [] := List.eq_nil_of_length_eq_zero (by trivial)
    subst this
    exact ⟨c1, segs, k⟩
  case post =>
    rintro ⟨r, lo⟩ st1 ⟨c1, segs, k⟩
    dsimp only at c1 ⊢
    subst c1
    dsimp only
    obtain ⟨_, esz⟩ := szof k
    have ls : segs.length ≤ size := by
      have : ∀ l : List (List Keyed), (∀ g ∈ l, g ≠ [] ∧ Srt O ky ix g) → l.length ≤ l.flatten.length := by
        intro l
        induction l with
        | nil => intro _; exact Nat.le_refl _
        | cons g r ih =>
          intro hg
          have a := ih fun x hx => hg x (List.mem_cons_of_mem _ hx)
          have b := List.length_pos_iff.mpr (hg g List.mem_cons_self).1
          rw [List.length_cons, List.flatten_cons, List.length_append]
          trivial
      have := this segs k.each
      simp at esz
      simp at this
      trivial
    refine wpS_bind (wpS_mono (wpS_forRange
      (I := fun x c st' => c = (none, ()) ∧ ∃ segs, Stk O ky ix kd (arrOf st0) st' segs [] ∧ (segs.length ≤ 1 ∨ segs.length + x ≤ size))
      (Q := fun c st' => c = (none, ()) ∧ ∃ segs, Stk O ky ix kd (arrOf st0) st' segs [] ∧ segs.length ≤ 1) ?st2 ?fn2 ⟨rfl, segs, k, .inr (by trivial)⟩) ?ps2)
    case fn2 =>
      rintro c st' ⟨c1, segs, k, hor⟩
      exact ⟨c1, segs, k, by rcases hor with q | q <;> trivial⟩
    case ps2 =>
      rintro c st' ⟨rfl, segs, k, hle⟩
      refine wpS_pure (h st' k.perm k.fail ?_)
      rw [k.arr, List.append_nil]
      match segs, hle, k.each with
      | [], _, _ => exact List.Pairwise.nil
      | [g], _, he =>
        rw [List.flatten_cons, List.flatten_nil, List.append_nil]
        exact (he g List.mem_cons_self).2
    case st2 =>
      rintro x c st' _ hx ⟨rfl, segs, k, hor⟩
      have ps := pend_size k
      refine wpS_bind (wpS_get ?_)
      by_cases hle : (pendingOf st').size ≤ 1
      · rw [if_pos hle]
        exact wpS_pure ⟨rfl, segs, k, by trivial⟩
      · rw [if_neg hle]
        generalize hb : (if Option.any _ _ = true then (pendingOf st').size - 2 - 1 else (pendingOf st').size - 2) = i
        have hi := pick (show 2 ≤ (pendingOf st').size by trivial) hb
        rw [ps] at hi
        obtain ⟨pre, F, G, post, rfl, hpl⟩ := snoc2 (by trivial) hi
        refine wpS_bind (wpS_mergeAt C hS k hpl.symm fun st2 M k2 ml => ?_)
        rw [if_neg (by decide)]
        refine wpS_pure ⟨rfl, pre ++ M :: post, k2, .inr ?_⟩
        simp only [List.length_append, List.length_cons] at hor hle ps ⊢
        trivial
  case step =>
    rintro x ⟨r, lo⟩ st1 _ hx ⟨c1, c2, segs, rest, k, kl, asc⟩
    dsimp only at c1 c2 kl ⊢
    subst c1
    obtain ⟨ea, er⟩ := szof k
    by_cases hge : lo ≥ size
    · rw [if_pos hge]
      have : rest = [] := List.eq_nil_of_length_eq_zero (by trivial)
      subst this
      exact wpS_pure ⟨rfl, segs, k⟩
    rw [if_neg hge]
    have lap0 : Lap ix st1 lo 0 (size - lo) := by
      rw [← kl]
      exact lap_of_list k.arr (by trivial) asc
    refine wpS_bind (wpS_run C (ix := ix) k.kind (allS k) (by trivial) (by trivial) lap0 fun n st2 ch n1 n2 up lap => ?_)
    have k2 := k.chg ch kl
    dsimp only
    by_cases hmr : n < minrun
    · rw [if_pos hmr]
      refine wpS_bind (wpS_lift (wpAny_rule ⟨rfl, ?_⟩))
      obtain ⟨ea2, _⟩ := szof k2
      refine wpS_bind (wpS_bin C k2.kind (allS k2) (by trivial) (by trivial) up (nrem := size - lo) (by trivial) lap fun stB chB upB lapB => ?_)
      rw [if_neg (by decide)]
      have kB := k2.chg chB kl
      generalize hfo : min (size - lo) minrun = force at upB lapB ⊢
      have es := szof kB
      have hrl : ((arrOf stB).toList.drop lo).length = size - lo := by rw [List.length_drop, Array.length_toList]; trivial
      have hsr : Srt O ky ix (((arrOf stB).toList.drop lo).take (force)) := up_srt (by trivial) upB
      obtain ⟨hcr, hasc⟩ := lap_list lapB (by trivial) (by trivial)
      generalize (arrOf stB).toList.drop lo = rest2 at kB es hrl hsr hcr hasc
      refine wpS_bind (wpS_get ?_)
      cases hb : (pendingOf stB).back? with
      | none =>
        dsimp only
        refine wpS_bind (wpS_modify (wpS_pure ⟨rfl, by dsimp only; trivial, _, _, Stk.push kB kl (by trivial) (by trivial) hsr hcr rfl rfl rfl (by
          show (((pendingOf stB).push (lo, force, 0)).toList.map two) = _
          rw [Array.toList_push, List.map_append]; rfl), ?_, hasc⟩))
        dsimp only
        rw [List.flatten_append, List.length_append, kl]
        simp
        trivial
      | some q =>
        obtain ⟨s1, n1', w1'⟩ := q
        dsimp only
        refine wpS_bind (wpS_mono (wpS_forRange
          (I := fun x c st' => c = (none, ()) ∧ ∃ segs, Stk O ky ix kd (arrOf st0) st' segs rest2 ∧ segs.flatten.length = lo)
          (Q := fun c st' => c = (none, ()) ∧ ∃ segs, Stk O ky ix kd (arrOf st0) st' segs rest2 ∧ segs.flatten.length = lo) ?sA (fun _ _ z => z) ⟨rfl, segs, kB, kl⟩) ?pA)
        case sA =>
          rintro x' c st3 _ hx' ⟨rfl, segs3, k3, kl3⟩
          have ps := pend_size k3
          refine wpS_bind (wpS_get ?_)
          cases ho : (if (pendingOf st3).size > 1 then (pendingOf st3)[(pendingOf st3).size - 2]? else none) with
          | none => exact wpS_pure ⟨rfl, segs3, k3, kl3⟩
          | some q3 =>
            obtain ⟨u1, u2, older⟩ := q3
            dsimp only
            have hp1 : (pendingOf st3).size > 1 := by
              by_cases z : (pendingOf st3).size > 1
              · exact z
              · rw [if_neg z] at ho; cases ho
            split
            · exact wpS_pure ⟨rfl, segs3, k3, kl3⟩
            · obtain ⟨pre, F, G, post, rfl, hpl⟩ := snoc2 (l := segs3) (i := (pendingOf st3).size - 2) (by trivial) (.inl (by trivial))
              refine wpS_bind (wpS_mergeAt C hS k3 hpl.symm fun st4 M k4 ml => ?_)
              rw [if_neg (by decide)]
              exact wpS_pure ⟨rfl, pre ++ M :: post, k4, by rw [flat_join ml]; exact kl3⟩
        case pA =>
          rintro c st3 ⟨rfl, segs3, k3, kl3⟩
          dsimp only
          refine wpS_bind (wpS_modify ?_)
          refine wpS_bind (wpS_modify (wpS_pure ⟨rfl, by dsimp only; trivial, _, _, Stk.push k3 kl3 (by trivial) (by trivial) hsr hcr rfl rfl rfl (by
            show (((Array.modify (pendingOf st3) ((pendingOf st3).size - 1) _).push (lo, force, 0)).toList.map two) = _
            rw [Array.toList_push, List.map_append, two_modify]; rfl), ?_, hasc⟩))
          dsimp only
          rw [List.flatten_append, List.length_append, kl3]
          simp
          trivial
    · rw [if_neg hmr]
      have es := szof k2
      have hrl : ((arrOf st2).toList.drop lo).length = size - lo := by rw [List.length_drop, Array.length_toList]; trivial
      have hsr : Srt O ky ix (((arrOf st2).toList.drop lo).take (n)) := up_srt (by trivial) up
      obtain ⟨hcr, hasc⟩ := lap_list lap (by trivial) (by trivial)
      generalize (arrOf st2).toList.drop lo = rest2 at k2 es hrl hsr hcr hasc
      refine wpS_bind (wpS_get ?_)
      cases hb : (pendingOf st2).back? with
      | none =>
        dsimp only
        refine wpS_bind (wpS_modify (wpS_pure ⟨rfl, by dsimp only; trivial, _, _, Stk.push k2 kl (by trivial) (by trivial) hsr hcr rfl rfl rfl (by
          show (((pendingOf st2).push (lo, n, 0)).toList.map two) = _
          rw [Array.toList_push, List.map_append]; rfl), ?_, hasc⟩))
        dsimp only
        rw [List.flatten_append, List.length_append, kl]
        simp
        trivial
      | some q =>
        obtain ⟨s1, n1', w1'⟩ := q
        dsimp only
        refine wpS_bind (wpS_mono (wpS_forRange
          (I := fun x c st' => c = (none, ()) ∧ ∃ segs, Stk O ky ix kd (arrOf st0) st' segs rest2 ∧ segs.flatten.length = lo)
          (Q := fun c st' => c = (none, ()) ∧ ∃ segs, Stk O ky ix kd (arrOf st0) st' segs rest2 ∧ segs.flatten.length = lo) ?sA (fun _ _ z => z) ⟨rfl, segs, k2, kl⟩) ?pA)
        case sA =>
          rintro x' c st3 _ hx' ⟨rfl, segs3, k3, kl3⟩
          have ps := pend_size k3
          refine wpS_bind (wpS_get ?_)
          cases ho : (if (pendingOf st3).size > 1 then (pendingOf st3)[(pendingOf st3).size - 2]? else none) with
          | none => exact wpS_pure ⟨rfl, segs3, k3, kl3⟩
          | some q3 =>
            obtain ⟨u1, u2, older⟩ := q3
            dsimp only
            have hp1 : (pendingOf st3).size > 1 := by
              by_cases z : (pendingOf st3).size > 1
              · exact z
              · rw [if_neg z] at ho; cases ho
            split
            · exact wpS_pure ⟨rfl, segs3, k3, kl3⟩
            · obtain ⟨pre, F, G, post, rfl, hpl⟩ := snoc2 (l := segs3) (i := (pendingOf st3).size - 2) (by trivial) (.inl (by trivial))
              refine wpS_bind (wpS_mergeAt C hS k3 hpl.symm fun st4 M k4 ml => ?_)
              rw [if_neg (by decide)]
              exact wpS_pure ⟨rfl, pre ++ M :: post, k4, by rw [flat_join ml]; exact kl3⟩
        case pA =>
          rintro c st3 ⟨rfl, segs3, k3, kl3⟩
          dsimp only
          refine wpS_bind (wpS_modify ?_)
          refine wpS_bind (wpS_modify (wpS_pure ⟨rfl, by dsimp only; trivial, _, _, Stk.push k3 kl3 (by trivial) (by trivial) hsr hcr rfl rfl rfl (by
            show (((Array.modify (pendingOf st3) ((pendingOf st3).size - 1) _).push (lo, n, 0)).toList.map two) = _
            rw [Array.toList_push, List.map_append, two_modify]; rfl), ?_, hasc⟩))
          dsimp only
          rw [List.flatten_append, List.length_append, kl3]
          simp
          trivial
end
end TT
set_option linter.all false
namespace TS
open PySem PyProof.Rows
section
variable (O : KeyOrd) (ky : Keyed → O.α)
noncomputable def R (p q : Keyed) : Prop := O.kle (ky p) (ky q)
noncomputable def Srt (l : List Keyed) : Prop := l.Pairwise (R O ky)
end
section
variable {prog : Program} {w : World} {A : Around} {E : Value → Shared → Prop} {s : Shared}
variable {kd : SortKind} {O : KeyOrd} {ky : Keyed → O.α} {S : Keyed → Prop}
theorem wpS_sort (C : Cmp prog w A s kd O ky S) {st0 : SortSt} {Q : Unit → SortSt → Prop} (hS : ∀ p ∈ (arrOf st0).toList, S p) (hk : kindOf st0 = kd) (hf : failedOf st0 = none) (hp : pendingOf st0 = #[])
    (h : ∀ st', (arrOf st').Perm (arrOf st0) → failedOf st' = none → Srt O ky (arrOf st').toList → Q () st') : wpS (model prog w) A E s sortRuns' Q st0 :=
  TT.wpS_sort (ix := fun _ => 0) C hS hk hf hp (List.pairwise_iff_getElem.mpr fun _ _ _ _ _ => Nat.le_refl _) fun st' h1 h2 h3 => h st' h1 h2 (h3.imp fun r => r.1)
end
end TS
set_option linter.all false
set_option maxRecDepth 100000
namespace TS
open PySem PyProof.Rows
section
variable {prog : Program} {w : World} {A : Around} {E : Value → Shared → Prop} {s : Shared}
variable {kd : SortKind} {O : KeyOrd} {ky : Keyed → O.α} {S : Keyed → Prop}
noncomputable def Rises (O : KeyOrd) (ky : Keyed → O.α) (l : List Value) : Prop := l.Pairwise fun x y => O.kle (ky (x, x)) (ky (y, y))
theorem out_of {vs : List Value} {xs : Array Keyed} (hp : xs.Perm (pairsOf vs)) (hs : Srt O ky xs.toList) : (xs.map (·.2)).toList.Perm vs ∧ Rises O ky (xs.map (·.2)).toList := by
  have hl : xs.toList.Perm (vs.zip vs) := by rw [← pairsOf_toList]; exact Array.perm_iff_toList_perm.mp hp
  have same : ∀ p ∈ xs.toList, p = (p.2, p.2) := fun p hp' => by
    have e := (mem_zip_self (hl.mem_iff.mp hp')).1
    exact Prod.ext e rfl
  rw [Array.toList_map]
  refine ⟨?_, ?_⟩
  · have q := hl.map (·.2)
    rwa [List.map_snd_zip (Nat.le_refl _)] at q
  · unfold Rises
    rw [List.pairwise_map]
    unfold Srt at hs
    refine List.Pairwise.imp_of_mem ?_ hs
    intro p q h1 h2 r
    have e1 := same p h1
    have e2 := same q h2
    unfold R at r
    rw [e1, e2] at r
    exact r
theorem sort_tree {a : Addr} {vs : List Value} {n : Nat} {P : Fin → Shared → Prop} (ho : s.heap.get? a = some (seqObj "list" vs.toArray n)) (hz : vs.length ≤ sizeLine) (hS : ∀ v ∈ vs, S (v, v))
    (hkk : ∀ s' : Shared, 2 ≤ vs.length → (∀ b o, b ≠ a → s.heap.get? b = some o → s'.heap.get? b = some o) → ∀ Q : SortKind → Shared → Prop, Q kd s' → wpAny (model prog w) A (keyKind' vs.toArray) Q E s')
    (hC : ∀ s' : Shared, (∀ b o, b ≠ a → s.heap.get? b = some o → s'.heap.get? b = some o) → Cmp prog w A s' kd O ky S)
    (h : ∀ out : Array Value, out.toList.Perm vs → Rises O ky out.toList → P (.done (.ret .none)) { s with heap := sortedHeap s.heap a vs out }) :
    wpAny (model prog w) A (Builtin.«list.sort» ⟨[.ref a], []⟩) P E s := by
  have ha : a < s.heap.objs.size := Heap.lt_size ho
  have hsz : vs.toArray.size = vs.length := by simp
  rw [list_sort_plain]
  refine wpAny_bind (listItems_at ho rfl (wpAny_bind (listUpdate_at ho rfl ?_ (by rw [hsz]; exact hz) (Nat.zero_le _))))
  have ho1 := get?_update_seq ho (fun _ => #[])
  generalize hh1 : s.heap.update a (Obj.mapSeq fun _ => #[]) = h1 at ho1 ⊢
  have hs1 : h1.objs.size = s.heap.objs.size := by rw [← hh1, Heap.size_update]
  have k1 : ∀ b o, b ≠ a → s.heap.get? b = some o → h1.get? b = some o := fun b o hb e => by rw [← hh1, Heap.get?_update_ne _ _ _ _ hb]; exact e
  refine wpAny_bind (seqEpoch_at ho1 rfl (wpAny_bind (wpAny_newTuple (wpAny_bind (wpAny_newList (wpAny_holding ?_))) (by show vs.toArray.toList.length ≤ _; exact hz))))
  have ho3 : ((h1.push (seqObj "tuple" vs.toArray 0)).push (seqObj "list" #[] 0)).get? a = some (seqObj "list" #[] _) := Heap.get?_push_of_some _ (Heap.get?_push_of_some _ ho1)
  have k3 : ∀ b o, b ≠ a → s.heap.get? b = some o → ((h1.push (seqObj "tuple" vs.toArray 0)).push (seqObj "list" #[] 0)).get? b = some o := fun b o hb e => Heap.get?_push_of_some _ (Heap.get?_push_of_some _ (k1 b o hb e))
  show wpAny (model prog w) A _ P E { s with heap := (h1.push (seqObj "tuple" vs.toArray 0)).push (seqObj "list" #[] 0) }
  dsimp only
  have fin : ∀ out : Array Value, out.toList.Perm vs → Rises O ky out.toList → P (.done (.ret .none)) { s with heap := ((h1.push (seqObj "tuple" vs.toArray 0)).push (seqObj "list" #[] 0)).update a (Obj.mapSeq fun _ => out) } := fun out p r => by
    have := h out p r
    unfold sortedHeap at this
    rw [hh1] at this
    exact this
  have olen : ∀ out : Array Value, out.toList.Perm vs → out.size ≤ sizeLine + 1 := fun out p => by
    have := p.length_eq
    rw [Array.length_toList] at this
    trivial
  by_cases h2 : vs.toArray.size < 2
  · rw [if_pos h2, if_pos h2]
    refine wpAny_bind (wpAny_pure ?_)
    rw [StateT.run_pure]
    refine wpAny_bind (wpAny_pure ?_)
    have hp : ((vs.toArray.zip vs.toArray).map (·.2)).toList = vs := by simp [List.map_snd_zip]
    dsimp only
    refine wpAny_bind (seqEpoch_at ho3 rfl (wpAny_bind (listUpdate_at ho3 rfl ?_ (Nat.zero_le _) (olen _ (by rw [hp])))))
    simp only [bne_self_eq_false, Bool.false_eq_true, if_false]
    refine wpAny_pure (fin _ (by rw [hp]) ?_)
    rw [hp]
    match vs, hsz ▸ h2 with
    | [], _ => exact List.Pairwise.nil
    | [v], _ => exact List.pairwise_singleton _ _
    | _ :: _ :: _, z => simp at z; trivial
  · rw [if_neg h2, if_neg h2]
    refine wpAny_bind (hkk _ (by trivial) k3 _ ?_)
    refine wpAny_bind (wpAny_mono (wpS_sort (hC _ k3) (st0 := SortSt.mk' kd (vs.toArray.zip vs.toArray) #[] 7 none) (Q := fun _ st' => (arrOf st').Perm (pairsOf vs) ∧ failedOf st' = none ∧ Srt O ky (arrOf st').toList) (fun p hp => ?_) rfl rfl rfl fun st' a1 a2 a3 => ⟨a1, a2, a3⟩) ?_ fun _ _ e => e)
    · have hp' : p ∈ vs.zip vs := by
        have : p ∈ (pairsOf vs).toList := hp
        rwa [pairsOf_toList] at this
      have e := mem_zip_self hp'
      have : p = (p.1, p.1) := Prod.ext rfl e.1.symm
      rw [this]; exact hS _ e.2
    · rintro ⟨⟨⟩, st'⟩ s' ⟨rfl, hp, hf, hs⟩
      obtain ⟨o1, o2⟩ := out_of hp hs
      dsimp only
      refine wpAny_bind (seqEpoch_at ho3 rfl (wpAny_bind (listUpdate_at ho3 rfl ?_ (Nat.zero_le _) (olen _ o1))))
      rw [hf]
      simp only [bne_self_eq_false, Bool.false_eq_true, if_false]
      exact wpAny_pure (fin _ o1 o2)
noncomputable def intOrd : KeyOrd where
  α := Int
  blt := fun a b => decide (a < b)
  irrefl := fun a => by simp
  trans := fun a b c h1 h2 => by simp at *; trivial
  negTrans := fun a b c h => by simp at *; trivial
  total := fun a b h1 h2 => by simp at *; trivial
noncomputable def intKy (p : Keyed) : Int := numOf p.1
theorem cmp_int : Cmp prog w A s oneType' intOrd intKy (fun p => ∃ n t, p.1 = .int n t) where
  lt := fun p q ⟨n, t, e1⟩ ⟨m, u, e2⟩ E Q h => by
    rw [e1, e2, keyLt'_oneType]
    refine oneLt_int ?_
    have : intOrd.blt (intKy p) (intKy q) = decide (n < m) := by
      show decide (numOf p.1 < numOf q.1) = _
      rw [e1, e2]; rfl
    rw [← this]; exact h
theorem rises_ints {vs out : List Value} {ns : List Int} (hI : IntsAre vs ns) (hp : out.Perm vs) (hr : Rises intOrd intKy out) : ∃ ns', IntsAre out ns' ∧ ns'.Perm ns ∧ ns'.Pairwise (· ≤ ·) := by
  have hall : ∀ v ∈ out, ∃ n t, v = .int n t := fun v hv => hI.all v (hp.mem_iff.mp hv)
  refine ⟨out.map numOf, intsAre_map out hall, ?_, ?_⟩
  · have := hp.map numOf
    rwa [hI.nums] at this
  · rw [List.pairwise_map]
    refine List.Pairwise.imp (fun {x y} r => ?_) hr
    have r' : decide (numOf y < numOf x) = false := r
    have := of_decide_eq_false r'
    trivial
theorem sorted_gen {r : Value} {V : List Value → Prop} {Q : Value → Shared → Prop} (hz : ∀ vs, V vs → vs.length ≤ sizeLine) (hS : ∀ vs, V vs → ∀ v ∈ vs, S (v, v))
    (hcol : ∀ {E : Value → Shared → Prop} {R : List Value → Shared → Prop}, (∀ (h' : Heap) (tk : Nat) (vs : List Value), V vs → (∀ b o, s.heap.get? b = some o → h'.get? b = some o) → R vs { s with heap := h', toks := tk }) → wpAny (model prog w) A.in1 (collect r) R E s)
    (hkk : ∀ (vs : List Value) (s' : Shared), V vs → 2 ≤ vs.length → (∀ b o, s.heap.get? b = some o → s'.heap.get? b = some o) → ∀ {A : Around} {E : Value → Shared → Prop} {Q : SortKind → Shared → Prop}, Q kd s' → wpAny (model prog w) A (keyKind' vs.toArray) Q E s')
    (hC : ∀ s' : Shared, (∀ b o, s.heap.get? b = some o → s'.heap.get? b = some o) → Cmp prog w A.in1.in1 s' kd O ky S)
    (h : ∀ (h1 h' : Heap) (tk : Nat) (vs : List Value) (out : Array Value) (n : Nat), V vs → (∀ b o, s.heap.get? b = some o → h1.get? b = some o) → (∀ b o, h1.get? b = some o → h'.get? b = some o) → h'.get? h1.objs.size = some (seqObj "list" out n) → out.toList.Perm vs → Rises O ky out.toList → Q (.ref h1.objs.size) { s with heap := h', toks := tk }) :
    wpAny (model prog w) A (call (.builtin "sorted") [r]) Q E s := by
  refine Calls.call_function_entry kind_sorted plain_sorted entry_sorted (args_sorted1 _) ?_
  unfold Builtin.«sorted»
  refine wpAny_bind (m := checkCount "sorted" 1 1 _) (wpAny_pure ?_)
  refine wpAny_bind (hcol fun h' tk vs hV hk => ?_)
  refine wpAny_bind (wpAny_newList ?_ (hz vs hV))
  have hoL : (h'.push (seqObj "list" vs.toArray 0)).get? h'.objs.size = some (seqObj "list" vs.toArray 0) := Heap.get?_push_size _ rfl
  have keep : ∀ s' : Shared, (∀ b o, b ≠ h'.objs.size → (h'.push (seqObj "list" vs.toArray 0)).get? b = some o → s'.heap.get? b = some o) → ∀ b o, s.heap.get? b = some o → s'.heap.get? b = some o := fun s' k b o e =>
    k b o (Nat.ne_of_lt (Heap.lt_size (hk b o e))) (Heap.get?_push_of_some _ (hk b o e))
  refine wpAny_bind (wpAny_holding (wpAny_call_entry slot_list_sort ⟨_, hoL, rfl⟩ entry_list_sort (sort_tree hoL (hz vs hV) (hS vs hV) (fun s' h2 k Q q => hkk vs s' hV h2 (keep s' k) q) (fun s' k => hC s' (keep s' k)) fun out p r => ⟨_, rfl, ?_⟩) (args_list_sort _)))
  refine wpAny_pure ⟨_, rfl, ?_⟩
  have hu := get?_update_seq hoL (fun _ => (#[] : Array Value))
  have hu2 := get?_update_seq (Heap.get?_push_of_some (seqObj "list" #[] 0) (Heap.get?_push_of_some (seqObj "tuple" vs.toArray 0) hu)) (fun _ => out)
  refine h h' (sortedHeap (h'.push (seqObj "list" vs.toArray 0)) h'.objs.size vs out) tk vs out _ hV hk (fun b o e => ?_) hu2 p r
  have hb : b ≠ h'.objs.size := Nat.ne_of_lt (Heap.lt_size e)
  unfold sortedHeap
  rw [Heap.get?_update_ne _ _ _ _ hb]
  refine Heap.get?_push_of_some _ (Heap.get?_push_of_some _ ?_)
  rw [Heap.get?_update_ne _ _ _ _ hb]
  exact Heap.get?_push_of_some _ e
end
end TS
set_option Elab.async false
set_option linter.all false
set_option maxRecDepth 100000
namespace L2
open PySem PySem.Spec PyProof.Rows PySem.W
theorem vals_intsAre : ∀ {ns : List Int} {us : List Value}, Vals (ns.map V.int) us → IntsAre us ns
  | [], _, r => by
    rw [List.map_nil] at r
    cases r; exact .nil
  | n :: ns, _, r => by
    rw [List.map_cons] at r
    cases r with
    | cons h t =>
      obtain ⟨t', rfl⟩ := (show ∃ t, _ = Value.int n t from h)
      exact .cons n t' (vals_intsAre t)
theorem intsAre_vals : ∀ {us : List Value} {ns : List Int}, IntsAre us ns → Vals (ns.map V.int) us
  | _, _, .nil => .nil
  | _, _, .cons n t h => .cons ⟨t, rfl⟩ (intsAre_vals h)
theorem kk_ints {prog : Program} {w : World} {vs : List Value} {ns : List Int} (hI : IntsAre vs ns) (h2 : 2 ≤ vs.length) {A : Around} {E : Value → Shared → Prop} {Q : SortKind → Shared → Prop} {s' : Shared} (q : Q oneType' s') : wpAny (model prog w) A (keyKind' vs.toArray) Q E s' := by
  obtain ⟨v1, v2, rest, rfl⟩ : ∃ v1 v2 rest, vs = v1 :: v2 :: rest := by
    match vs, h2 with
    | v1 :: v2 :: rest, _ => exact ⟨v1, v2, rest, rfl⟩
  rw [keyKind_ints hI]
  exact wpAny_pure q
section
variable {X : Cx}
noncomputable def rSortI (ns : List Int) (H : Hp) (Q : VK) : Prop := ∀ (ns' : List Int) (p : Addr), ns'.Perm ns → ns'.Pairwise (· ≤ ·) → H p = none → Q (.ref p) (upd H p (.lst (ns'.map V.int)))
theorem sorted_ints_end {pins : List (Addr × Obj)} {s : Shared} {σ : St} {H : Hp} {Q : VK} {ns : List Int} {r : Value} (I : Inv X pins σ H s) (hz : ns.length ≤ sizeLine)
    (hcol : ∀ {E : Value → Shared → Prop} {R : List Value → Shared → Prop}, (∀ (h' : Heap) (tk : Nat) (vs : List Value), IntsAre vs ns → (∀ b o, s.heap.get? b = some o → h'.get? b = some o) → R vs { s with heap := h', toks := tk }) → wpAny (model X.prog X.w) X.A.in1 (collect r) R E s)
    (q : rSortI ns H Q) : wpAny (model X.prog X.w) X.A (call (.builtin "sorted") [r]) (EP X pins σ Q) X.xe s := by
  have lenOf : ∀ {vs : List Value} {ms : List Int}, IntsAre vs ms → vs.length = ms.length := fun {vs ms} h => by
    have := (intsAre_vals h).length
    rw [List.length_map] at this
    exact this.symm
  refine TS.sorted_gen (kd := oneType') (O := TS.intOrd) (ky := TS.intKy) (S := fun p => ∃ n t, p.1 = .int n t) (V := fun vs => IntsAre vs ns) (fun vs hI => by rw [lenOf hI]; exact hz) (fun vs hI v hv => hI.all v hv) hcol (fun vs s' hI h2 _ {_ _ _} qq => kk_ints hI h2 qq) (fun s' _ => TS.cmp_int) (fun h1 h' tk vs out n hI k1 k2 e p rr => ?_)
  obtain ⟨ns', a1, a2, a3⟩ := TS.rises_ints hI p rr
  have I1 : Inv X pins σ H { s with heap := h1 } := I.kept (t' := s.toks) k1
  refine ⟨.ref h1.objs.size, _, I1.laid (a := h1.objs.size) (o := .lst (ns'.map V.int)) (t' := tk) k2 (Nat.le_refl _) ?_, rfl, q ns' _ a2 a3 (I1.hok.fresh (Nat.le_refl _))⟩
  exact ⟨by rw [List.length_map, a2.length_eq]; exact hz, out.toList, n, intsAre_vals a1, by rw [Array.toArray_toList]; exact e⟩
theorem call_sortedL : CallR X (.builtin "sorted") (fun xs H Q => ∃ a ns, xs = [.ref a] ∧ SqL X.K H a (ns.map V.int) ∧ rSortI ns H Q) := by
  intro pins s σ H xs us Q I r h
  obtain ⟨a, ns, rfl, hq, q⟩ := h
  obtain ⟨u, rfl, rx⟩ := vals1 r
  cases rx
  obtain ⟨its, r', pl, hz⟩ := I.list hq
  obtain ⟨o, ho, hcl, n, hd⟩ := pl.isList
  have hlen := r'.length
  rw [List.length_map] at hlen hz
  refine sorted_ints_end I hz (fun {E R} k => ?_) q
  exact wpAny_collect_seq a (.inl rfl) ho hcl hd (fun h' kp => by have := k h' s.toks its (vals_intsAre r') kp; simpa using this) (by simp; trivial)
theorem call_sortedD (hc : X.calm = true) : CallR X (.builtin "sorted") (fun xs H Q => ∃ a kvs ns, xs = [.ref a] ∧ Rd H a (.dK kvs) ∧ kvs.map (·.1) = ns.map Sum.inl ∧ rSortI ns H Q) := by
  intro pins s σ H xs us Q I r h
  obtain ⟨a, kvs, ns, rfl, hd, hk, q⟩ := h
  obtain ⟨u, rfl, rx⟩ := vals1 r
  cases rx
  obtain ⟨z, hs, vs, rel, dd⟩ := dk_rd I.hok hd
  obtain ⟨o, es, ep, dd⟩ := dd
  have dat : s.heap.DictAt (mixKind X.prog X.w) a vs ep := ⟨o, es, dd⟩
  have hh : X.A.in1.handled = none := I.ok.hd hc
  have hn : vs.length ≤ sizeLine := by rw [← rel.length]; exact z
  have hks : vs.map (·.1) = ns.map Sum.inl := by rw [← rel.keys]; exact hk
  have hnl : ns.length = vs.length := by
    have := congrArg List.length hks
    rw [List.length_map, List.length_map] at this
    exact this.symm
  refine sorted_ints_end I (by trivial) (fun {E R} k => ?_) q
  refine kdu_collect (kdl_dict hs) hh dat hn fun h' tk acc kp hacc => k h' tk acc.toList ?_ kp
  -- the keys, one by one
  have each : ∀ (j : Nat) (v : Value), acc.toList[j]? = some v → ∃ (n : Int) (t : Tok), ns[j]? = some n ∧ v = .int n t := fun j v e => by
    obtain ⟨k', x, e1, e2⟩ := hacc.2 j v (by rw [← Array.getElem?_toList]; exact e)
    have e3 : (vs.map (·.1))[j]? = some k' := by rw [List.getElem?_map, e1]; rfl
    rw [hks, List.getElem?_map] at e3
    cases e4 : ns[j]? with
    | none => rw [e4] at e3; cases e3
    | some n =>
      rw [e4] at e3
      have e5 : k' = Sum.inl n := (Option.some.inj e3).symm
      subst e5
      obtain ⟨t, e6⟩ := Value.isInt_shape (k := n) (v := v) e2
      exact ⟨n, t, rfl, e6⟩
  have hl : acc.toList.length = ns.length := by rw [Array.length_toList, hacc.1, hnl]
  generalize acc.toList = l at each hl
  clear hacc k q hnl hks hk
  induction l generalizing ns with
  | nil =>
    cases ns with
    | nil => exact .nil
    | cons _ _ => simp at hl
  | cons v l ih =>
    cases ns with
    | nil => simp at hl
    | cons n ns =>
      obtain ⟨n', t, e1, e2⟩ := each 0 v rfl
      have : n = n' := by simpa using e1
      subst this
      rw [e2]
      exact .cons n t (ih ns (fun j v e => by
        obtain ⟨m, t', a1, a2⟩ := each (j + 1) v (by simpa using e)
        exact ⟨m, t', by simpa using a1, a2⟩) (by simpa using hl))
end
end L2
set_option Elab.async false
set_option linter.all false
set_option maxRecDepth 100000
namespace L2
open PySem PySem.Spec PyProof.Rows PySem.W
section
variable {X : Cx} {pins : List (Addr × Obj)} {σ : St} {H : Hp} {s : Shared}
noncomputable def rCount (K : Frag) : V → List V → Hp → VK → Prop := fun x vs H Q => ∃ (p : Addr) (ns : List Int) (k : Int), x = .ref p ∧ vs = [.int k] ∧ SqL K H p (ns.map V.int) ∧ Q (.int (ns.count k : Nat)) H
theorem mt_count : MtR X "list.count" (rCount X.K) := by
  intro pins s σ H x vs v us Q I rx rv h
  obtain ⟨p, ns, k, rfl, rfl, hs, q⟩ := h
  cases rx
  obtain ⟨u, rfl, ru⟩ := rv.one
  obtain ⟨t, rfl⟩ := ru
  obtain ⟨its, r, pl, hz⟩ := I.list hs
  exact count_list_ints pl.isList (vals_intsAre r) ⟨.int _, H, I.tok _, ⟨_, rfl⟩, q⟩
end
end L2
set_option Elab.async false
set_option linter.all false
set_option maxRecDepth 100000
set_option maxHeartbeats 4000000
namespace PH
open PySem L2 PySem.W
theorem boot_sorted' : bootBuiltins "sorted" = some (.builtin "sorted") := by decide +kernel
structure Prs (H : Hp) (p : Addr) (zs : List (Addr × Int × Int)) : Prop where
  at_ : H p = some (.lst (zs.map fun z => V.ref z.1))
  each : ∀ z ∈ zs, H z.1 = some (.tup [.int z.2.1, .int z.2.2])
noncomputable def pD (c : Int × Int) : DV := .tup [.int c.1, .int c.2]
noncomputable def prD (cs : List (Int × Int)) : DV := .lst (cs.map pD)
theorem Prs.same {H H' : Hp} {p : Addr} {zs : List (Addr × Int × Int)} (h : Prs H p zs) (s : Same H H') : Prs H' p zs := ⟨s _ _ h.at_, fun z hz => s _ _ (h.each z hz)⟩
theorem deeps_prs {K : Frag} {H : Hp} : ∀ {zs : List (Addr × Int × Int)}, (∀ z ∈ zs, H z.1 = some (.tup [.int z.2.1, .int z.2.2])) → Deeps K H (zs.map fun z => V.ref z.1) ((zs.map (·.2)).map pD)
  | [], _ => .nil
  | z :: r, h => .cons (.tup (SqT.of (h z List.mem_cons_self)) (.cons (.int _) (.cons (.int _) .nil))) (deeps_prs fun y hy => h y (List.mem_cons_of_mem _ hy))
theorem Prs.deep {K : Frag} {H : Hp} {p : Addr} {zs : List (Addr × Int × Int)} (h : Prs H p zs) : Deep K H (.ref p) (prD (zs.map (·.2))) := .lst (SqL.of h.at_) (deeps_prs h.each)
theorem ht_pD (c : Int × Int) : ht (pD c) ≤ 2 := by
  unfold pD
  rw [ht_tup]
  unfold hts hts hts ht
  decide
theorem hts_pD : ∀ cs : List (Int × Int), hts (cs.map pD) ≤ 2
  | [] => by unfold List.map hts; decide
  | c :: r => by
    rw [List.map_cons]
    unfold hts
    have := ht_pD c
    have := hts_pD r
    trivial
theorem ht_prD (cs : List (Int × Int)) : ht (prD cs) ≤ 60 := by
  unfold prD
  rw [ht_lst]
  have := hts_pD cs
  trivial
noncomputable def cnts (ns : List Int) : List (Int × Int) := ((List.range 256).map fun k => ((k : Nat) : Int)).filterMap fun k => if 0 < ns.count k then some (k, (ns.count k : Int)) else none
theorem cnts_perm {a b : List Int} (h : a.Perm b) : cnts a = cnts b := by
  unfold cnts
  congr 1
  funext k
  rw [h.count_eq]
noncomputable def ksOf (ns : List Int) : List Int := ((List.range 256).map fun k => ((k : Nat) : Int)).filter fun k => decide (0 < ns.count k)
theorem cnts_ks (ns : List Int) : cnts ns = (ksOf ns).map fun k => (k, (ns.count k : Int)) := by
  unfold cnts ksOf
  generalize (List.range 256).map (fun k => ((k : Nat) : Int)) = l
  induction l with
  | nil => rfl
  | cons k r ih =>
    rw [List.filterMap_cons, List.filter_cons]
    by_cases h : 0 < ns.count k
    · rw [if_pos h, if_pos (decide_eq_true h)]
      simp only [List.map_cons, ih]
    · rw [if_neg h, if_neg (by simpa using h)]
      exact ih
theorem ks_sorted (ns : List Int) : (ksOf ns).Pairwise (· ≤ ·) ∧ (ksOf ns).Nodup := by
  have h : ((List.range 256).map fun k => ((k : Nat) : Int)).Pairwise (· < ·) := by
    rw [List.pairwise_map]
    exact List.Pairwise.imp (fun {a b} h => by trivial) (List.pairwise_lt_range (n := 256))
  have hf : (ksOf ns).Pairwise (· < ·) := List.Pairwise.filter _ h
  exact ⟨List.Pairwise.imp (fun {a b} h => by trivial) hf, List.Pairwise.imp (fun {a b} h => by trivial) hf⟩
theorem mem_ks {ns : List Int} (hb : ∀ x ∈ ns, 0 ≤ x ∧ x ≤ 255) (k : Int) : k ∈ ksOf ns ↔ k ∈ ns := by
  unfold ksOf
  rw [List.mem_filter]
  constructor
  · rintro ⟨_, h⟩
    exact List.count_pos_iff.mp (of_decide_eq_true h)
  · intro h
    refine ⟨List.mem_map.mpr ⟨k.toNat, List.mem_range.mpr ?_, ?_⟩, decide_eq_true (List.count_pos_iff.mpr h)⟩
    · have := hb k h; trivial
    · have := hb k h; trivial
theorem sorted_keys {ns ks ks' : List Int} (hb : ∀ x ∈ ns, 0 ≤ x ∧ x ≤ 255) (nd : ks.Nodup) (hm : ∀ k, k ∈ ks ↔ k ∈ ns) (hp : ks'.Perm ks) (hs : ks'.Pairwise (· ≤ ·)) : ks' = ksOf ns := by
  obtain ⟨s1, s2⟩ := ks_sorted ns
  refine ksm_same (hp.trans ?_) hs s1
  refine (List.perm_ext_iff_of_nodup nd s2).mpr fun k => ?_
  rw [hm, mem_ks hb]
noncomputable def cntD (ks pre : List Int) : List (Key × V) := ks.map fun j => (Sum.inl j, V.int (pre.count j : Int))
theorem cntD_keys (ks pre : List Int) : (cntD ks pre).map (·.1) = ks.map Sum.inl := by unfold cntD; rw [List.map_map]; rfl
theorem valV_cntD {pre : List Int} {k : Int} : ∀ {ks : List Int}, valV (cntD ks pre) (Sum.inl k) = if k ∈ ks then some (.int (pre.count k : Int)) else none
  | [] => rfl
  | j :: r => by
    show valV ((Sum.inl j, V.int (pre.count j : Int)) :: cntD r pre) (Sum.inl k) = _
    by_cases h : j = k
    · subst h
      rw [valV_pos rfl, if_pos List.mem_cons_self]
    · rw [valV_neg (by intro z; exact h (Sum.inl.inj z)), valV_cntD]
      by_cases hk : k ∈ r
      · rw [if_pos hk, if_pos (List.mem_cons_of_mem _ hk)]
      · rw [if_neg hk, if_neg (by intro z; rcases List.mem_cons.mp z with e | e; exact h e.symm; exact hk e)]
theorem count_snoc (pre : List Int) (k j : Int) : ((pre ++ [k]).count j : Int) = (pre.count j : Int) + if j = k then 1 else 0 := by
  rw [List.count_append]
  by_cases h : j = k
  · subst h; simp
  · rw [if_neg h]
    have : List.count j [k] = 0 := by
      rw [List.count_eq_zero]
      simpa using h
    rw [this]; trivial
theorem put_cntD {ks pre : List Int} {k : Int} (hm : ∀ j, j ∈ ks ↔ j ∈ pre) : putK (cntD ks pre) (Sum.inl k) (.int ((pre.count k : Int) + 1)) = cntD (if k ∈ ks then ks else ks ++ [k]) (pre ++ [k]) := by
  by_cases h : k ∈ ks
  · rw [if_pos h]
    unfold putK
    rw [valV_any, valV_cntD, if_pos h, if_pos (show (some (V.int (pre.count k : Int))).isSome = true from rfl)]
    unfold cntD
    rw [List.map_map]
    apply List.map_congr_left
    intro j _
    show (if (Sum.inl j : Key) = Sum.inl k then _ else _) = _
    by_cases e : j = k
    · subst e
      rw [if_pos rfl, count_snoc, if_pos rfl]
    · rw [if_neg (fun z => e (Sum.inl.inj z)), count_snoc, if_neg e, Int.add_zero]
  · rw [if_neg h]
    unfold putK
    rw [valV_any, valV_cntD, if_neg h, if_neg (by simp)]
    unfold cntD
    rw [List.map_append]
    congr 1
    · apply List.map_congr_left
      intro j hj
      have e : ¬ j = k := fun z => h (by rw [← z]; exact hj)
      rw [count_snoc, if_neg e, Int.add_zero]
    · show [_] = [((Sum.inl k : Key), V.int ((pre ++ [k]).count k : Int))]
      rw [count_snoc, if_pos rfl]
noncomputable def spCounts (K : Frag) : Sp := fun vs H Q _ => ∃ (a : Addr) (ns : List Int), vs = [.ref a] ∧ SqL K H a (ns.map V.int) ∧ ns.length ≤ 5000 ∧ (∀ x ∈ ns, 0 ≤ x ∧ x ≤ 255) ∧
  ∀ (p : Addr) (zs : List (Addr × Int × Int)) (H' : Hp), Same H H' → H p = none → Prs H' p zs → zs.map (·.2) = cnts ns → Q (.ref p) H'
theorem ref_at {zs : List (Addr × Int × Int)} {i : Nat} {y : V} (h : (zs.map fun z => V.ref z.1)[i]? = some y) : ∃ z, zs[i]? = some z ∧ y = V.ref z.1 := by
  rw [List.getElem?_map] at h
  cases e : zs[i]? with
  | none => rw [e] at h; cases h
  | some z => rw [e] at h; exact ⟨z, rfl, (Option.some.inj h).symm⟩
end PH
set_option Elab.async false
set_option linter.all false
set_option maxRecDepth 100000
namespace L2
open PySem PySem.Spec PyProof.Rows PySem.W
section
variable {X : Cx}
theorem perm_map {α β : Type} (f : α → β) : ∀ {l l' : List β}, l.Perm l' → ∀ zs : List α, l' = zs.map f → ∃ zs' : List α, zs'.Perm zs ∧ l = zs'.map f := by
  intro l l' h
  induction h with
  | nil => intro zs e; exact ⟨zs, List.Perm.refl _, e⟩
  | cons x _ ih =>
    intro zs e
    cases zs with
    | nil => cases e
    | cons z r =>
      injection e with e1 e2
      obtain ⟨r', p, q⟩ := ih r e2
      exact ⟨z :: r', p.cons z, by rw [List.map_cons, e1, q]⟩
  | swap x y t =>
    intro zs e
    match zs, e with
    | z1 :: z2 :: r, e =>
      injection e with e1 e2
      injection e2 with e2 e3
      exact ⟨z2 :: z1 :: r, List.Perm.swap _ _ _, by rw [List.map_cons, List.map_cons, e1, e2, e3]⟩
    | [z], e => simp at e
    | [], e => simp at e
  | trans _ _ ih1 ih2 =>
    intro zs e
    obtain ⟨z2, p2, q2⟩ := ih2 zs e
    obtain ⟨z1, p1, q1⟩ := ih1 z2 q2
    exact ⟨z1, p1.trans p2, q1⟩
theorem eqBool_int {prog : Program} {w : World} {A : Around} {E : Value → Shared → Prop} {s : Shared} {a b : Int} {t u : Tok} {Q : Bool → Shared → Prop} (h : Q (decide (a = b)) s) : wpAny (model prog w) A (eqBool (.int a t) (.int b u)) Q E s := wpAny_eqBool_int (by rw [show (a == b) = decide (a = b) from Bool.beq_eq_decide_eq a b]; exact h)
theorem oneLt_any {prog : Program} {w : World} {A : Around} {E : Value → Shared → Prop} {s : Shared} {b : Bool} {x y : Int} {t u : Tok} {Q : Bool → Shared → Prop} (h : Q (decide (x < y)) s) : wpAny (model prog w) A (oneLt' b (.int x t) (.int y u)) Q E s := by
  cases b with
  | true => exact oneLt_int h
  | false => exact kat_one _ _ (lt_int h)
end
end L2
set_option linter.all false
namespace PH
open L2
end PH
set_option Elab.async false
set_option linter.all false
set_option maxRecDepth 100000
set_option maxHeartbeats 4000000
namespace PH
open PySem L2 PySem.W
end PH
set_option Elab.async false
set_option linter.all false
set_option maxRecDepth 100000
set_option maxHeartbeats 4000000
namespace PH
open PySem L2 PySem.W
theorem at_ints {ns : List Int} {i : Nat} {z : Int} (h : ns[i]? = some z) : atI (ns.map V.int) (i : Int) = some (.int z) := atI_nat (by rw [List.getElem?_map, h]; rfl)
noncomputable def RiseC (cs : List (Int × Int)) : Prop := (cs.map (·.1)).Pairwise (· < ·) ∧ ∀ c ∈ cs, 0 ≤ c.1 ∧ c.1 ≤ 255 ∧ 1 ≤ c.2
end PH
set_option Elab.async false
set_option linter.all false
set_option maxRecDepth 100000
namespace L2
open PySem PySem.Spec PyProof.Rows
theorem ps_setC {X : Cx} {elt tg iter : Expr} {ifs : List Expr} {scope : Scope} {pos : Pos} {N : List Str} {js : List (Option Nat)} {wi : TI} {g : TG} {tc : TT} {te : TE} {y : Str} {iy : Nat} {py spos : Pos} (hN : X.N.Nodup) (hiy : X.N[iy]? = some y) (hy : X.env.scope.names.lookup y = some .local) (hcalm : X.calm = true) (S : CompScope X N js scope)
    (hi : PI X tg iter wi) (hg : ∀ C s H fp, PG (compCx X N scope C s H fp) tg g) (ht : ∀ C s H fp, PIfs (compCx X N scope C s H fp) ifs tc) (he : ∀ C s H fp, PE (compCx X N scope C s H fp) elt te)
    (hs : ∀ x, foldedSetIterable iter X.env x = pure x := by intro _; rfl) (hsw : swapsWith (.ListComp elt [⟨tg, iter, ifs, 0⟩] scope pos) (some (.Name y py)) spos.line X.env = pure true := by rfl) :
    PS X (.Assign [.Name y py] (.ListComp elt [⟨tg, iter, ifs, 0⟩] scope pos) spos) (tAsg (tComp js wi g tc te) (gName iy)) := by
  intro pins s σ H ED I h
  have hc : ∀ x ∈ scope.names, x.2 = .free → ∃ c, X.env.cells.lookup x.1 = some c := fun x hx e => I.ok.has _ (S.free x hx e)
  rw [exec_Assign_Name_used _ _ _ _ hsw]
  refine wpAny_bind (wpAny_standAt (wpAny_bind ?_))
  show wpAny _ X.A (do let _ ← comprehension (.ListComp elt [⟨tg, iter, ifs, 0⟩] scope pos) scope X.env _ (newList []) false (eval iter X.env) (some (assign (.Name y py) X.env))) _ _ s
  refine wpAny_bind (wpAny_mono (Q := fun _ s' => SP X pins ED .next s') ?_ (fun _ s' hq => wpAny_pure (wpAny_pure hq)) fun _ _ e => e)
  refine wpAny_comprehension_free (use := some (assign (.Name y py) X.env)) rfl hs (clos_eq hc) S.kind S.locs (thn (hi pins s σ H _ I h) fun v s1 h1 => thn h1 fun itv s2 h2 => ?_)
  obtain ⟨it, fp, tn, J, H2, e, I2, T, st2, f2, q⟩ := h2
  subst e
  refine wpAny_newObj_type (wpAny_newFunctionEnv S.nocell (by intro y hy; simp at hy) (fun h₁ hns₁ hsb₁ => ?_) S.kind)
  dsimp only at hns₁ hsb₁ ⊢
  generalize hH2 : s2.heap.push { cls := .type "list", dict := none, data := .seq ([] : List Value).toArray } = G2 at hns₁ hsb₁ ⊢
  have hC : G2.objs.size = s2.heap.objs.size + 1 := by rw [← hH2, Heap.size_push]
  have hDC : s2.heap.objs.size ≠ G2.objs.size := by rw [hC]; exact Nat.ne_of_lt (Nat.lt_succ_self _)
  have hC0 : s2.heap.objs.size ≤ G2.objs.size := by rw [hC]; exact Nat.le_succ _
  have below : ∀ b, b < s2.heap.objs.size → b ≠ G2.objs.size := fun b hb => by rw [hC]; exact Nat.ne_of_lt (Nat.lt_succ_of_lt hb)
  have old : ∀ b o, s2.heap.get? b = some o → h₁.get? b = some o := fun b o e => hsb₁.extBut b o (below b (Heap.lt_size e)) (Heap.get?_push_of_some _ (hH2 ▸ Heap.get?_push_of_some _ e))
  have hacc : h₁.get? s2.heap.objs.size = some { cls := .type "list", data := .seq ([] : List Value).toArray } := hsb₁.extBut _ _ hDC (Heap.get?_push_of_some _ (hH2 ▸ Heap.get?_push_size _ rfl))
  have hfp : ∀ b ∈ fp, b < s2.heap.objs.size := fun b hb => by obtain ⟨o, e, _⟩ := T.obj 0 _ st2 b hb; exact Heap.lt_size e
  obtain ⟨W, ⟨m0, w0⟩, turn⟩ := q s2.heap.objs.size (I2.hok.fresh (Nat.le_refl _))
  have stat : ∀ {H' : Hp}, (∀ b ∈ fp, H' b = none) → ∀ b ∈ fp, FpOk (compCx X N scope G2.objs.size s2 H2 fp) [] H' b := fun {H'} hn b hb =>
    ⟨hn b hb, below b (hfp b hb), fun z => by
      rcases List.mem_cons.mp (I2.stkSub b z) with q | q
      · exact (f2 b hb).2.1 q
      · exact (f2 b hb).2.2.1 q, .inl hb, fun x c e => (f2 b hb).2.2.2.2.1 x c (clos_sub _ _ (fun _ _ z => by simp at z) e), fun p hp => absurd hp (by simp [compCx])⟩
  have loop : ∀ s3 : Shared, s3 = { s2 with heap := h₁, toks := s2.toks + ([] : List (Str × Value)).length } →
      codeAny (model X.prog X.w) X.A (.compLoop (.ListComp elt [⟨tg, iter, ifs, 0⟩] scope pos) 0 (.ref it) (.ref s2.heap.objs.size) (compEnvC scope (clos X.env.cells scope.names []) G2.objs.size X.env))
        (compPost (model X.prog X.w) X.A X.xe (some (assign (.Name y py) X.env)) (fun _ s' => SP X pins ED .next s') (.ref s2.heap.objs.size) G2.objs.size) s3 := by
    rintro s3 rfl
    have I3 : Inv (compCx X N scope G2.objs.size s2 H2 fp) [] (innerSt js σ) (upd H2 s2.heap.objs.size (.lst [])) { s2 with heap := h₁, toks := s2.toks + ([] : List (Str × Value)).length } :=
      inv_comp S I2 f2 hfp old (Nat.le_refl _) hC0 hDC ⟨_, hacc⟩ hns₁
    refine compLoop_gen (fun n s' => ∃ i σ' H', Inv (compCx X N scope G2.objs.size s2 H2 fp) [] σ' H' s' ∧ tn i s'.heap ∧ (∀ b ∈ fp, H' b = none) ∧ W i n σ' H') ?_ m0
      ⟨0, _, _, I3, T.keep 0 _ _ st2 fun b _ o e => old b o e, fun b hb => by rw [upd_ne (Nat.ne_of_lt (hfp b hb))]; exact (f2 b hb).1, w0⟩
    rintro n s4 ⟨i, σ4, H4, I4, st4, fr4, w4⟩
    rcases turn i n σ4 H4 w4 with ⟨stop, qn⟩ | ⟨go, step⟩
    · refine thn (T.done (compCx X N scope G2.objs.size s2 H2 fp) rfl rfl rfl hcalm i [] s4 σ4 H4 (fun _ _ => False) I4 (stat fr4) st4 stop) fun r s5 ⟨hr, I5⟩ => ?_
      subst hr
      obtain ⟨m5, n5, _⟩ := I5.loc
      have hos : s5.os = s2.os := I5.os
      obtain ⟨hh, gg, dd, tt, os5⟩ := s5
      obtain rfl : os5 = s2.os := hos
      have sb : Heap.SameBut G2.objs.size hh hh := ⟨rfl, fun _ _ => rfl⟩
      have un : Un (frs X.stack) fp H2 H4 s2.heap hh := by
        have u := I5.base
        have nC : ∀ b o, s2.heap.get? b = some o → b ≠ G2.objs.size := fun b o e => below b (Heap.lt_size e)
        exact ⟨fun b o e n hf hx => sb.extBut b o (nC b o e) (u.keep b o e n hf hx), fun b o e n hf hx => by
            obtain ⟨sl, z⟩ := u.slot b o e n hf hx
            exact ⟨sl, sb.extBut b _ (nC b o e) z⟩, u.free, fun b o e hx => by
            obtain ⟨o', z⟩ := u.there b o e hx
            exact ⟨o', sb.extBut b _ (nC b o e) z⟩, u.tups, u.frzs, u.tbls⟩
      have hok : HOk X.prog X.w H4 hh := fun b ob e => (I5.hok b ob e).stay (fun c v hcv z => sb.extBut c v (fun q => by
        rcases hcv with hcv | hcv
        · rw [← hcv, q] at e
          have := I5.free
          have this' : H4 G2.objs.size = none := this
          rw [e] at this'; cases this'
        · rw [q] at hcv
          have this' : H4 G2.objs.size = none := I5.free
          rw [hcv] at this'; cases this') z) (fun _ z => z) fun _ _ z => z
      have IE := I2.call (h' := hh) (g' := gg) (d' := dd) (t' := tt) (ch := fp) un hok I5.bare fun b hb => ⟨(f2 b hb).2.2.2.1, (f2 b hb).2.1, (f2 b hb).2.2.2.2.1, (f2 b hb).2.2.2.2.2⟩
      have hCf : H4 G2.objs.size = none := I5.free
      have hCL : G2.objs.size ≠ X.env.locals := Ne.symm (below _ I2.lt)
      have hCc : ∀ x c, X.env.cells.lookup x = some c → c ≠ G2.objs.size := fun x c e => by
        obtain ⟨v', o', e', _⟩ := I2.cell x c e
        exact below _ (Heap.lt_size e')
      refine wpAny_assign_Name (store_ok2 IE hN hiy (.inl hy) (show RelV (.ref s2.heap.objs.size) (.ref s2.heap.objs.size) from rfl) (fun s6 I6 ⟨a6, sb6, ha6⟩ => ?_) (.inr hy))
      have nea : G2.objs.size ≠ a6 := by
        rcases ha6 with z | z
        · rw [z]; exact hCL
        · exact Ne.symm (hCc _ _ z)
      refine ⟨m5, n5.sameBut sb6 nea, fun h' sb' => ⟨_, H4, ?_, qn⟩⟩
      have := I6.turned (h' := h') (t' := s6.toks) (it := G2.objs.size) (fun b o ne e => (sb'.2 b ne).trans e) hCf hCL (.inr (Nat.le_trans I2.sz hC0)) hCc (fun p hp => below _ (Heap.lt_size (I2.pin p hp).1))
      exact this
    · refine thn (T.item (compCx X N scope G2.objs.size s2 H2 fp) rfl rfl rfl hcalm i [] s4 σ4 H4 (fun _ _ => False) I4 (stat fr4) st4 go) fun r s5 ⟨u, hr, h5⟩ => ?_
      subst hr
      refine thn h5 fun _ s6 ⟨x, H6, I6, r6, y6, st6, fr6⟩ => ?_
      have I6' := I6.pinned (stat fr6) (T.obj _ _ st6)
      refine thn (hg _ _ _ _ _ s6 σ4 H6 x u _ I6' r6 (step x H6 y6)) fun _ s7 ⟨σ7, H7, I7, q7⟩ => ?_
      refine thn (ht _ _ _ _ _ s7 σ7 H7 _ I7 q7) fun b s8 ⟨H8, I8, q8⟩ => ?_
      have again : ∀ {s9 : Shared} {H9 : Hp}, Inv (compCx X N scope G2.objs.size s2 H2 fp) ([] ++ pinsAt fp s6.heap) σ7 H9 s9 → (∃ m', m' < n ∧ W (i + 1) m' σ7 H9) → ∃ m, m < n ∧ ∃ i σ' H', Inv (compCx X N scope G2.objs.size s2 H2 fp) [] σ' H' s9 ∧ tn i s9.heap ∧ (∀ b ∈ fp, H' b = none) ∧ W i m σ' H' := fun {s9 H9} I9 ⟨m', hm, w9⟩ => by
        refine ⟨m', hm, i + 1, σ7, H9, I9.unpinned, T.keep _ _ _ st6 fun b hb o e => (I9.pin (b, o) (List.mem_append_right _ (List.mem_append_right _ (mem_pinsAt hb e)))).1, fun b hb => ?_, w9⟩
        obtain ⟨o, e, d⟩ := T.obj _ _ st6 b hb
        exact (I9.pin (b, o) (List.mem_append_right _ (List.mem_append_right _ (mem_pinsAt hb e)))).2.1
      cases b with
      | false =>
        rw [if_neg Bool.false_ne_true] at q8 ⊢
        exact again I8 q8
      | true =>
        rw [if_pos rfl] at q8 ⊢
        refine thn (he _ _ _ _ _ s8 σ7 H8 _ I8 q8) fun xv s9 ⟨xx, H9, I9, r9, q9⟩ => ?_
        refine thn (mt_append _ s9 σ7 H9 (.ref s2.heap.objs.size) [xx] (.ref s2.heap.objs.size) [xv] _ I9 rfl (.cons r9 .nil) q9) fun _ s10 ⟨_, H10, I10, _, q10⟩ => ?_
        exact again I10 q10
  exact codeAny_compStart_list (loop _ rfl) (T.self _ _ _ _ _ (T.keep 0 _ _ st2 fun b _ o e => old b o e) (loop _ rfl))
end L2
set_option Elab.async false
set_option linter.all false
set_option maxRecDepth 100000
set_option maxHeartbeats 4000000
namespace PH
open PySem L2 PySem.W
end PH
set_option Elab.async false
set_option linter.all false
set_option maxRecDepth 100000
namespace L2
open PySem PySem.Spec PyProof.Rows PySem.W
section
variable {X : Cx}
theorem boot_all' : bootBuiltins "all" = some (.builtin "all") := by decide +kernel
noncomputable def rAll (K : Frag) : List V → Hp → VK → Prop := fun xs H Q => ∃ (p : Addr) (bs : List Bool), xs = [.ref p] ∧ SqL K H p (bs.map V.bl) ∧ Q (.bl (bs.all id)) H
theorem bl_at {bs : List Bool} {us : List Value} (r : Vals (bs.map V.bl) us) : us = bs.map Value.bool := by
  induction bs generalizing us with
  | nil => cases r; rfl
  | cons b t ih =>
    cases r with
    | cons h t' =>
      rw [ih t']
      cases h
      rfl
theorem range_allB : ∀ (bs : List Bool), ((List.range bs.length).all fun i => (bs[i]?).getD true) = bs.all id := fun bs => by
  rw [Bool.eq_iff_iff, List.all_eq_true, List.all_eq_true]
  constructor
  · intro h b hb
    obtain ⟨i, hi, e⟩ := List.mem_iff_getElem.mp hb
    have := h i (List.mem_range.mpr hi)
    rw [List.getElem?_eq_getElem hi, e] at this
    exact this
  · intro h i hi
    have hi := List.mem_range.mp hi
    rw [List.getElem?_eq_getElem hi]
    exact h _ (List.getElem_mem hi)
theorem call_allL (hc : X.calm = true) : CallR X (.builtin "all") (rAll X.K) := by
  intro pins s σ H xs us Q I r h
  obtain ⟨p, bs, rfl, hs, q⟩ := h
  obtain ⟨u, rfl, ru⟩ := r.one
  cases ru
  obtain ⟨its, rv, pl, hz⟩ := I.list hs
  have e := bl_at rv
  subst e
  have hl := pl.isList
  have hlt : p < s.heap.objs.size := by obtain ⟨_, e, _⟩ := hl; exact Heap.lt_size e
  refine call_all_walk (wpAny_pyIter_list hl ?_)
  refine ⟨s.heap.objs.size, [s.heap.objs.size, p], [s.heap.objs.size], (bs.map Value.bool).toArray.size, _, _, fun i => (bs[i]?).getD true, rfl, Walks.list (A := X.A.in1) (I.ok.hd hc) _ p (Nat.ne_of_lt hlt) (bs.map Value.bool).toArray,
    ⟨⟨_, Heap.get?_push_size _ rfl, rfl, rfl⟩, hl.push _⟩, fun i v s' Q' E' hP hQ => ?_, fun h' tk hk => ?_⟩
  · have hP' : (bs.map Value.bool)[i]? = some v := by simpa using hP
    rw [List.getElem?_map] at hP'
    cases eb : bs[i]? with
    | none => rw [eb] at hP'; cases hP'
    | some b =>
      rw [eb] at hP'
      cases hP'
      simp only [eb, Option.getD_some] at hQ
      exact wpAny_truthy_bool hQ
  · have e : ((List.range (bs.map Value.bool).toArray.size).all fun i => (bs[i]?).getD true) = bs.all id := by
      rw [List.size_toArray, List.length_map]; exact range_allB bs
    rw [e]
    exact ⟨.bl _, H, I.kept (h' := h') (t' := tk) (fun b x e => hk b x (fun hm => by rw [List.mem_singleton.mp hm] at e; exact Nat.lt_irrefl _ (Heap.lt_size e)) (Heap.get?_push_of_some _ e)), rfl, q⟩
end
end L2
set_option Elab.async false
set_option linter.all false
set_option maxRecDepth 100000
set_option maxHeartbeats 4000000
namespace PH
open PySem L2 PySem.W
theorem trueT {A B : Hp → Prop} {σ : St} {H : Hp} (h : A H) : tTrue σ H (fun b H4 => if b = true then A H4 else B H4) := by
  show if true = true then A H else B H
  exact iteT h
noncomputable def riseB : Int → List (Int × Int) → Bool
  | _, [] => true
  | a, c :: r => decide (a < c.1) && decide (c.1 ≤ 255) && riseB c.1 r
theorem riseB_step {cs : List (Int × Int)} {k : Nat} {c : Int × Int} (h : cs[k]? = some c) (a : Int) : riseB a (cs.drop k) = (decide (a < c.1) && decide (c.1 ≤ 255) && riseB c.1 (cs.drop (k + 1))) := by
  obtain ⟨hk, hv⟩ := List.getElem?_eq_some_iff.mp h
  rw [List.drop_eq_getElem_cons hk, hv]
  rfl
theorem riseB_of : ∀ {cs : List (Int × Int)} {a : Int}, RiseC cs → (∀ c ∈ cs, a < c.1) → riseB a cs = true
  | [], _, _, _ => rfl
  | c :: r, a, h, ha => by
    have h1 := ha c List.mem_cons_self
    have h2 := (h.2 c List.mem_cons_self).2.1
    have hp := List.pairwise_cons.mp h.1
    have := riseB_of (cs := r) (a := c.1) ⟨hp.2, fun x hx => h.2 x (List.mem_cons_of_mem _ hx)⟩ (fun x hx => hp.1 x.1 (List.mem_map.mpr ⟨x, hx, rfl⟩))
    unfold riseB
    rw [decide_eq_true h1, decide_eq_true h2, this]; rfl
noncomputable def areC (cs : List (Int × Int)) : Bool := riseB (-1) cs && cs.all fun c => decide (1 ≤ c.2)
theorem areC_of {cs : List (Int × Int)} (h : RiseC cs) : areC cs = true := by
  unfold areC
  rw [riseB_of h (fun c hc => by have := (h.2 c hc).1; trivial), Bool.true_and, List.all_eq_true]
  exact fun c hc => decide_eq_true (h.2 c hc).2.2
noncomputable def LS (mg : Str → Option Value) : Prop := ∃ u, mg "LAST_SIGN" = some u ∧ RelV (.int 255) u
noncomputable def spRise : Sp := fun vs H Q _ => ∃ (p : Addr) (zs : List (Addr × Int × Int)), vs = [.ref p] ∧ Prs H p zs ∧ Q (.bl (riseB (-1) (zs.map (·.2)))) H
noncomputable def spAreC : Sp := fun vs H Q _ => ∃ (p : Addr) (zs : List (Addr × Int × Int)), vs = [.ref p] ∧ Prs H p zs ∧ zs.length ≤ 300 ∧ ∀ H', Same H H' → Q (.bl (areC (zs.map (·.2)))) H'
end PH
set_option Elab.async false
set_option linter.all false
set_option maxRecDepth 100000
set_option maxHeartbeats 4000000
namespace PH
open PySem L2 PySem.W
noncomputable def Kb (d : Addr) (H H' : Hp) : Prop := ∀ b u, b ≠ d → H b = some u → H' b = some u
theorem Kb.of {d : Addr} {H H' : Hp} (s : Same H H') : Kb d H H' := fun b u _ e => s b u e
theorem Kb.trans {d : Addr} {H H1 H2 : Hp} (a : Kb d H H1) (b : Kb d H1 H2) : Kb d H H2 := fun x u n e => b x u n (a x u n e)
theorem Kb.put (d : Addr) (H : Hp) (o : HO) : Kb d H (upd H d o) := fun b u n e => by rw [upd_ne n]; exact e
theorem Kb.new {d q : Addr} {H H' : Hp} (k : Kb d H H') (o : HO) (hq : H q = none) : Kb d H (upd H' q o) := fun b u n e => by rw [upd_ne (ne_of_none e hq)]; exact k b u n e
theorem Kb.free {d q : Addr} {H H' : Hp} {o : HO} (k : Kb d H H') (hd : H' d = some o) (hq : H' q = none) : H q = none := by
  cases e : H q with
  | none => rfl
  | some u =>
    have n : q ≠ d := fun z => by rw [z, hd] at hq; cases hq
    rw [k q u n e] at hq; cases hq
noncomputable def isD (d : Addr) (H : Hp) : Prop := ∃ a b c, H d = some (deckO a b c)
theorem isD.put (d : Addr) (H : Hp) (a b c : Int) : isD d (upd H d (deckO a b c)) := ⟨a, b, c, upd_same⟩
end PH
set_option Elab.async false
set_option linter.all false
set_option maxRecDepth 100000
set_option maxHeartbeats 4000000
namespace L2
open PySem PySem.Spec PyProof.Rows PySem.W
section
variable {X : Cx}
noncomputable def rSum (K : Frag) : List V → Hp → VK → Prop := fun xs H Q => ∃ (p : Addr) (ns : List Int), xs = [.ref p] ∧ SqL K H p (ns.map V.int) ∧ Q (.int ns.sum) H
theorem call_sum (hc : X.calm = true) : CallR X (.builtin "sum") (rSum X.K) := by
  intro pins s σ H xs us Q I r h
  obtain ⟨p, ns, rfl, hs, q⟩ := h
  obtain ⟨u, rfl, rx⟩ := vals1 r
  cases rx
  obtain ⟨its, r', pl, hz⟩ := I.list hs
  have hi := vals_intsAre r'
  have hn := hi.numsOf
  obtain ⟨ys, hy⟩ := hi.allInts.items
  refine sum_intListG (I.ok.hd hc) (l := p) (xs := ys) (by rw [← hy]; exact pl.isList) fun h' tk t' hk => ?_
  have e : preSum (numAt ys) ys.size = ns.sum := by
    have e1 := nums_intItems (xs := ys)
    rw [← hy] at e1
    rw [preSum_eq, List.take_of_length_le (by simp)]
    rw [← hn]
    exact congrArg List.sum e1.symm
  rw [e]
  exact ⟨.int ns.sum, H, I.kept hk, ⟨_, rfl⟩, q⟩
noncomputable def CDivG (i j : Int) : Prop := 0 < j ∧ j < ((2 ^ 3000 : Nat) : Int)
theorem op_fdivG : OpR X (binaryOp .FloorDiv) (rI CDivG fun i j => .int (i / j)) := opI fun i j _ _ _ _ _ hc q => by
  obtain ⟨h0, h1⟩ := hc
  refine floordiv_int (by trivial) ?_ (.inl (PyProof.noPylong_of_log2 ?_))
  · rw [Int.fdiv_eq_ediv_of_nonneg _ (by trivial)]; exact q
  · have h2 : j.natAbs < 2 ^ 3000 := by
      generalize (2 : Nat) ^ 3000 = M at h1 ⊢
      trivial
    have : j.natAbs.log2 < 3000 := (Nat.log2_lt (by trivial)).mpr h2
    trivial
end
end L2
namespace PH
open PySem L2 PySem.W
theorem boot_sum' : bootBuiltins "sum" = some (.builtin "sum") := by decide +kernel
structure ExK (K : Frag) (cN c1 c2 c3 c4 c5 c6 : Addr) : Prop where
  k1 : kitOne K (.ref cN) (.ref c1) = some false
  k2 : kitOne K (.ref cN) (.ref c2) = some false
  k3 : kitOne K (.ref cN) (.ref c3) = some false
  k4 : kitOne K (.ref cN) (.ref c4) = some false
  k5 : kitOne K (.ref cN) (.ref c5) = some false
  k6 : kitOne K (.ref cN) (.ref c6) = some false
end PH
set_option Elab.async false
set_option linter.all false
namespace PH
noncomputable def fac : Nat → Nat
  | 0 => 1
  | n + 1 => fac n * (n + 1)
theorem fac_pos : ∀ n, 0 < fac n
  | 0 => Nat.one_pos
  | n + 1 => Nat.mul_pos (fac_pos n) (Nat.succ_pos n)
theorem fac_le {a b : Nat} (h : a ≤ b) : fac a ≤ fac b := by
  induction h with
  | refl => exact Nat.le_refl _
  | step _ ih => exact Nat.le_trans ih (Nat.le_mul_of_pos_right _ (Nat.succ_pos _))
theorem fac400 : fac 400 < 2 ^ 3000 := by decide +kernel
theorem fac_lt {a : Nat} (h : a ≤ 400) : fac a < 2 ^ 3000 := Nat.lt_of_le_of_lt (fac_le h) fac400
noncomputable def ch : Nat → Nat → Nat
  | _, 0 => 1
  | 0, _ + 1 => 0
  | n + 1, k + 1 => ch n k + ch n (k + 1)
theorem ch_mul : ∀ (n k : Nat), ch (n + 1) (k + 1) * (k + 1) = ch n k * (n + 1)
  | 0, 0 => rfl
  | 0, k + 1 => by
    show (ch 0 (k + 1) + ch 0 (k + 1 + 1)) * (k + 1 + 1) = ch 0 (k + 1) * 1
    show (0 + 0) * (k + 1 + 1) = 0 * 1
    trivial
  | n + 1, 0 => by
    have h := ch_mul n 0
    show (ch (n + 1) 0 + ch (n + 1) 1) * 1 = ch (n + 1) 0 * (n + 1 + 1)
    rw [Nat.zero_add, Nat.mul_one] at h
    rw [h]
    show (1 + ch n 0 * (n + 1)) * 1 = 1 * (n + 1 + 1)
    have : ch n 0 = 1 := by cases n <;> rfl
    rw [this]
    trivial
  | n + 1, k + 1 => by
    have h1 := ch_mul n k
    have h2 := ch_mul n (k + 1)
    show (ch (n + 1) (k + 1) + ch (n + 1) (k + 1 + 1)) * (k + 1 + 1) = ch (n + 1) (k + 1) * (n + 1 + 1)
    have e : ch (n + 1) (k + 1) = ch n k + ch n (k + 1) := rfl
    rw [Nat.add_mul, h2, Nat.mul_add (ch (n + 1) (k + 1)) (k + 1) 1, h1]
    rw [Nat.mul_add (ch (n + 1) (k + 1)) (n + 1) 1, e]
    have := Nat.add_mul (ch n k) (ch n (k + 1)) (n + 1)
    trivial
theorem ch_fac : ∀ (s k : Nat), ch (s + k) k * (fac k * fac s) = fac (s + k)
  | s, 0 => by
    have : ch s 0 = 1 := by cases s <;> rfl
    show ch s 0 * (1 * fac s) = fac s
    rw [this, Nat.one_mul, Nat.one_mul]
  | s, k + 1 => by
    have h := ch_fac s k
    have h1 := ch_mul (s + k) k
    show ch (s + k + 1) (k + 1) * (fac k * (k + 1) * fac s) = fac (s + k) * (s + k + 1)
    rw [show ch (s + k + 1) (k + 1) * (fac k * (k + 1) * fac s) = ch (s + k + 1) (k + 1) * (k + 1) * (fac k * fac s) by
      rw [Nat.mul_right_comm (fac k) (k + 1) (fac s), Nat.mul_comm (fac k * fac s) (k + 1), Nat.mul_assoc], h1, Nat.mul_right_comm, h]
theorem step_ch (o s k : Nat) : ((o * ch (s + k) k : Nat) : Int) * ((s + k + 1 : Nat) : Int) / ((k + 1 : Nat) : Int) = ((o * ch (s + (k + 1)) (k + 1) : Nat) : Int) := by
  have h1 := ch_mul (s + k) k
  have : (o * ch (s + k) k) * (s + k + 1) = o * ch (s + (k + 1)) (k + 1) * (k + 1) := by
    rw [Nat.mul_assoc, ← h1, Nat.mul_assoc]; rfl
  rw [← Int.natCast_mul, this, Int.natCast_mul]
  exact Int.mul_ediv_cancel _ (by trivial)
noncomputable def mlt : Nat → Nat → List Nat → Nat
  | o, _, [] => o
  | o, s, t :: r => mlt (o * ch (s + t) t) (s + t) r
noncomputable def pfac : List Nat → Nat
  | [] => 1
  | t :: r => fac t * pfac r
theorem mlt_fac : ∀ (ts : List Nat) (o s m : Nat), o * m = fac s → mlt o s ts * (m * pfac ts) = fac (s + ts.sum)
  | [], o, s, m, h => by
    show o * (m * 1) = fac (s + 0)
    rw [Nat.mul_one]; exact h
  | t :: r, o, s, m, h => by
    have := mlt_fac r (o * ch (s + t) t) (s + t) (m * fac t) (by
      rw [← ch_fac s t, ← h, Nat.mul_mul_mul_comm, Nat.mul_comm (o * m), Nat.mul_assoc])
    show mlt (o * ch (s + t) t) (s + t) r * (m * (fac t * pfac r)) = fac (s + (t + r.sum))
    rw [← Nat.mul_assoc m, this, Nat.add_assoc]
theorem mlt_snoc : ∀ (ts : List Nat) (o s t : Nat), mlt o s (ts ++ [t]) = mlt o s ts * ch (s + ts.sum + t) t
  | [], o, s, t => by
    show o * ch (s + t) t = o * ch (s + 0 + t) t
    rfl
  | a :: r, o, s, t => by
    show mlt (o * ch (s + a) a) (s + a) (r ++ [t]) = mlt (o * ch (s + a) a) (s + a) r * ch (s + (a + r.sum) + t) t
    rw [mlt_snoc r, Nat.add_assoc s a]
end PH
set_option Elab.async false
set_option linter.all false
set_option maxRecDepth 100000
set_option maxHeartbeats 4000000
namespace PH
open PySem L2 PySem.W
noncomputable def PL (n : Int) (p : Addr) (H : Hp) : Prop := ∃ a b c, H p = some (deckO a b c) ∧ 0 ≤ c ∧ c ≤ n
theorem PL.same {n : Int} {p : Addr} {H H' : Hp} (h : PL n p H) (s : Same H H') : PL n p H' := by
  obtain ⟨a, b, c, e, h0, h1⟩ := h
  exact ⟨a, b, c, s _ _ e, h0, h1⟩
theorem PL.up {n : Int} {p q : Addr} {H : Hp} {o : HO} (h : PL n p H) (hq : p ≠ q) : PL n p (upd H q o) := by
  obtain ⟨a, b, c, e, h0, h1⟩ := h
  exact ⟨a, b, c, by rw [upd_ne hq]; exact e, h0, h1⟩
theorem PL.mono {n m : Int} {p : Addr} {H : Hp} (h : PL n p H) (hm : n ≤ m) : PL m p H := by
  obtain ⟨a, b, c, e, h0, h1⟩ := h
  exact ⟨a, b, c, e, h0, by trivial⟩
theorem PL.ne {n : Int} {p q : Addr} {H : Hp} (h : PL n p H) (hq : H q = none) : p ≠ q := by
  obtain ⟨a, b, c, e, h0, h1⟩ := h
  exact ne_of_none e hq
theorem Kb.free' {n : Int} {d q : Addr} {H H' : Hp} (k : Kb d H H') (hd : PL n d H') (hq : H' q = none) : H q = none := by
  obtain ⟨a, b, c, e, h0, h1⟩ := hd
  exact k.free e hq
noncomputable def spPool (K : Frag) : Sp := fun vs H Q _ => ∃ (a : Addr) (ns : List Int) (k : Nat), vs = [.ref a, .int (k : Int)] ∧ SqL K H a (ns.map V.int) ∧ k ≤ 62 ∧
  ∀ (p : Addr) (H' : Hp), H p = none → Same H H' → PL 434 p H' → Q (.ref p) H'
noncomputable def spTake : Sp := fun vs H Q _ => ∃ (p : Addr) (n many : Int), vs = [.ref p, .int many] ∧ PL n p H ∧ n ≤ 1000000 ∧ 0 < many ∧ many < 1073741824 ∧
  ∀ (r : Int) (H' : Hp), 0 ≤ r → r < many → PL (n + 1) p H' → Kb p H H' → Q (.int r) H'
noncomputable def tms (cs : List (Int × Int)) : List Nat := cs.map fun c => c.2.toNat
noncomputable def sumT (cs : List (Int × Int)) : Int := (cs.map (·.2)).sum
noncomputable def spWhole : Sp := fun vs H Q _ => ∃ n : Int, vs = [.int n] ∧ Q (.bl true) H
noncomputable def spPair : Sp := fun vs H Q _ => ∃ (t : Addr) (a b : Int), vs = [.ref t] ∧ H t = some (.tup [.int a, .int b]) ∧ Q (.bl true) H
noncomputable def haveT (cs : List (Int × Int)) : Bool := areC cs && decide (sumT cs ≤ 400)
noncomputable def spHave : Sp := fun vs H Q _ => ∃ (p : Addr) (zs : List (Addr × Int × Int)), vs = [.ref p] ∧ Prs H p zs ∧ zs.length ≤ 300 ∧ ∀ H', Same H H' → Q (.bl (haveT (zs.map (·.2)))) H'
noncomputable def spOrders : Sp := fun vs H Q _ => ∃ (p : Addr) (zs : List (Addr × Int × Int)), vs = [.ref p] ∧ Prs H p zs ∧ zs.length ≤ 300 ∧ (∀ c ∈ zs.map (·.2), 1 ≤ c.2) ∧ sumT (zs.map (·.2)) ≤ 400 ∧ Q (.int (mlt 1 0 (tms (zs.map (·.2))) : Nat)) H
noncomputable def spTexts (cB : Addr) : Sp := fun vs H Q E => ∃ (p : Addr) (zs : List (Addr × Int × Int)), vs = [.ref p] ∧ Prs H p zs ∧ zs.length ≤ 300 ∧
  (haveT (zs.map (·.2)) = false → ∀ H', Same H H' → E (.ref cB) none H') ∧
  (haveT (zs.map (·.2)) = true → ∀ H', Same H H' → Q (.int (mlt 1 0 (tms (zs.map (·.2))) : Nat)) H')
noncomputable def MS (mg : Str → Option Value) : Prop := ∃ u, mg "MOST_SIGNS" = some u ∧ RelV (.int 400) u
theorem sumT_nat : ∀ {cs : List (Int × Int)}, (∀ c ∈ cs, 1 ≤ c.2) → sumT cs = ((tms cs).sum : Int)
  | [], _ => rfl
  | c :: r, h => by
    have h1 := h c List.mem_cons_self
    have h2 := sumT_nat (cs := r) fun x hx => h x (List.mem_cons_of_mem _ hx)
    show c.2 + sumT r = ((c.2.toNat + (tms r).sum : Nat) : Int)
    rw [h2]
    trivial
theorem tms_snoc (cs : List (Int × Int)) (c : Int × Int) : tms (cs ++ [c]) = tms cs ++ [c.2.toNat] := by
  unfold tms
  rw [List.map_append]; rfl
theorem tms_sum_take {cs : List (Int × Int)} {k : Nat} {c : Int × Int} (h : cs[k]? = some c) : (tms (cs.take k)).sum + c.2.toNat ≤ (tms cs).sum := by
  have e : cs = cs.take k ++ c :: cs.drop (k + 1) := by
    obtain ⟨h1, h2⟩ := List.getElem?_eq_some_iff.mp h
    rw [← h2, ← List.drop_eq_getElem_cons h1, List.take_append_drop]
  have : (tms cs).sum = (tms (cs.take k)).sum + (c.2.toNat + (tms (cs.drop (k + 1))).sum) := by
    conv => lhs; rw [e]
    unfold tms
    rw [List.map_append, List.sum_append]
    rfl
  trivial
theorem mlt_take {cs : List (Int × Int)} {k : Nat} {c : Int × Int} (h : cs[k]? = some c) : mlt 1 0 (tms (cs.take (k + 1))) = mlt 1 0 (tms (cs.take k)) * ch ((tms (cs.take k)).sum + c.2.toNat) c.2.toNat := by
  rw [take_at h, tms_snoc, mlt_snoc, Nat.zero_add]
theorem sum_take {cs : List (Int × Int)} {k : Nat} {c : Int × Int} (h : cs[k]? = some c) : (tms (cs.take (k + 1))).sum = (tms (cs.take k)).sum + c.2.toNat := by
  rw [take_at h, tms_snoc, List.sum_append]
  rfl
theorem RiseC.ge {cs : List (Int × Int)} (h : RiseC cs) : ∀ c ∈ cs, 1 ≤ c.2 := fun c hc => (h.2 c hc).2.2
theorem strict {ks : List Int} (h1 : ks.Pairwise (· ≤ ·)) (h2 : ks.Nodup) : ks.Pairwise (· < ·) := by
  refine (h1.and h2).imp fun {a b} h => ?_
  have := h.1
  have := h.2
  trivial
theorem mul_bd {u v U V : Int} (h0 : 0 ≤ u) (h1 : u ≤ U) (h2 : 0 ≤ v) (h3 : v ≤ V) : 0 ≤ u * v ∧ u * v ≤ U * V := ⟨Int.mul_nonneg h0 h2, Int.mul_le_mul h1 h3 h2 (by trivial)⟩
theorem gNx {i : Nat} {v v' : V} {σ : St} {H : Hp} {Q : St → Hp → Prop} (e : v' = v) (h : gName i v' σ H Q) : gName i v σ H Q := by
  subst e; exact h
end PH
set_option Elab.async false
set_option linter.all false
namespace PH
noncomputable def pf : List Int → Nat
  | [] => 1
  | x :: r => (r.count x + 1) * pf r
theorem pf_pos : ∀ l, 0 < pf l
  | [] => Nat.one_pos
  | _ :: r => Nat.mul_pos (Nat.succ_pos _) (pf_pos r)
theorem pf_split (x : Int) : ∀ l, pf l = fac (l.count x) * pf (l.filter fun y => decide (y ≠ x))
  | [] => rfl
  | y :: r => by
    have ih := pf_split x r
    by_cases h : y = x
    · subst h
      rw [List.filter_cons_of_neg (by simp), List.count_cons_self]
      show (r.count y + 1) * pf r = fac (r.count y) * (r.count y + 1) * _
      rw [ih, Nat.mul_comm (fac _) (_ + 1), Nat.mul_assoc]
    · rw [List.filter_cons_of_pos (by simpa using h), List.count_cons_of_ne h]
      show (r.count y + 1) * pf r = fac (r.count x) * ((List.count y (r.filter _) + 1) * pf (r.filter _))
      rw [ih, List.count_filter (by simpa using h), Nat.mul_left_comm]
theorem len_split (x : Int) (l : List Int) : l.length = (l.filter fun y => decide (y ≠ x)).length + l.count x := by
  induction l with
  | nil => rfl
  | cons y r ih =>
    by_cases h : y = x
    · subst h
      rw [List.filter_cons_of_neg (by simp), List.count_cons_self, List.length_cons, ih]; trivial
    · rw [List.filter_cons_of_pos (by simpa using h), List.count_cons_of_ne h, List.length_cons, List.length_cons, ih]; trivial
theorem pf_dvd : ∀ (n : Nat) (l : List Int), l.length = n → pf l ∣ fac n := by
  intro n
  induction n using Nat.strongRecOn with
  | _ n ih =>
    intro l hl
    cases l with
    | nil => subst hl; exact Nat.dvd_refl _
    | cons x r =>
      have h1 := len_split x (x :: r)
      have hc : 1 ≤ (x :: r).count x := by rw [List.count_cons_self]; trivial
      have := ih ((x :: r).filter fun y => decide (y ≠ x)).length (by trivial) _ rfl
      rw [pf_split x (x :: r)]
      have h2 := ch_fac ((x :: r).filter fun y => decide (y ≠ x)).length ((x :: r).count x)
      rw [← h1, hl] at h2
      rw [← h2]
      exact Nat.dvd_trans (Nat.mul_dvd_mul_left _ this) (Nat.dvd_mul_left _ _)
noncomputable def tx (l : List Int) : Nat := fac l.length / pf l
theorem tx_mul (l : List Int) : tx l * pf l = fac l.length := Nat.div_mul_cancel (pf_dvd _ l rfl)
theorem tx_pos (l : List Int) : 0 < tx l := by
  have := tx_mul l
  have h := fac_pos l.length
  rcases Nat.eq_zero_or_pos (tx l) with e | e
  · rw [e, Nat.zero_mul] at this; trivial
  · exact e
theorem tx_le (l : List Int) : tx l ≤ fac l.length := Nat.div_le_self _ _
theorem pf_erase (x : Int) : ∀ {l : List Int}, x ∈ l → pf l = l.count x * pf (l.erase x)
  | [], h => by cases h
  | y :: r, h => by
    by_cases e : y = x
    · subst e
      rw [List.erase_cons_head, List.count_cons_self]; rfl
    · have hm : x ∈ r := by
        rcases List.mem_cons.mp h with q | q
        · exact absurd q.symm e
        · exact q
      rw [List.erase_cons_tail (by simpa using e), List.count_cons_of_ne e]
      show (r.count y + 1) * pf r = r.count x * (((r.erase x).count y + 1) * pf (r.erase x))
      rw [pf_erase x hm, List.count_erase_of_ne e, Nat.mul_left_comm]
theorem tx_erase {x : Int} {l : List Int} (h : x ∈ l) : tx l * l.count x = tx (l.erase x) * l.length := by
  have h1 := tx_mul l
  have h2 := tx_mul (l.erase x)
  have hp := pf_pos (l.erase x)
  have hl : 0 < l.length := List.length_pos_of_mem h
  rw [List.length_erase_of_mem h] at h2
  rw [pf_erase x h] at h1
  refine Nat.eq_of_mul_eq_mul_right hp ?_
  have e : fac l.length = fac (l.length - 1) * l.length := by
    obtain ⟨k, hk⟩ : ∃ k, l.length = k + 1 := ⟨l.length - 1, by trivial⟩
    rw [hk]; rfl
  rw [Nat.mul_assoc, h1, e, ← h2, Nat.mul_right_comm]
theorem tx_countP : ∀ (k : Nat) (p : Int → Bool) (l : List Int), l.countP p = k → l.length ∣ tx l * l.countP p := by
  intro k
  induction k using Nat.strongRecOn with
  | _ k ih =>
    intro p l hk
    rcases Nat.eq_zero_or_pos k with e | e
    · rw [hk, e]; exact ⟨0, rfl⟩
    · obtain ⟨x, hx, hp⟩ := List.countP_pos_iff.mp (show 0 < l.countP p by trivial)
      have hs : l.countP p = l.count x + l.countP (fun y => p y && decide (y ≠ x)) := by
        clear ih hk e
        induction l with
        | nil => rfl
        | cons y r ihr =>
          have ih2 : r.countP p = r.count x + r.countP (fun y => p y && decide (y ≠ x)) := by
            by_cases hm : x ∈ r
            · exact ihr hm
            · have h0 : r.count x = 0 := List.count_eq_zero.mpr hm
              rw [h0, Nat.zero_add]
              refine List.countP_congr fun y hy => ?_
              have : y ≠ x := fun z => hm (z ▸ hy)
              simp [this]
          by_cases hyx : y = x
          · subst hyx
            rw [List.countP_cons_of_pos hp, List.count_cons_self, List.countP_cons_of_neg (by simp), ih2]; trivial
          · rw [List.count_cons_of_ne hyx]
            by_cases hpy : p y = true
            · rw [List.countP_cons_of_pos hpy, List.countP_cons_of_pos (by simp [hpy, hyx]), ih2]; trivial
            · rw [List.countP_cons_of_neg hpy, List.countP_cons_of_neg (by simp [hpy]), ih2]
      have hc : 0 < l.count x := List.count_pos_iff.mpr hx
      rw [hs, Nat.mul_add]
      exact Nat.dvd_add ⟨_, by rw [tx_erase hx, Nat.mul_comm]⟩ (ih _ (by trivial) _ l rfl)
theorem at_sorted {x : Int} : ∀ {l : List Int} {j : Nat}, l.Pairwise (· ≤ ·) → l[j]? = some x → l.idxOf x = l.countP (fun y => decide (y < x)) ∧ l.countP (fun y => decide (y < x)) ≤ j ∧ j < l.countP (fun y => decide (y < x)) + l.count x
  | [], j, _, h => by cases h
  | y :: r, j, hs, h => by
    have hp := List.pairwise_cons.mp hs
    by_cases e : y = x
    · subst e
      have h0 : r.countP (fun z => decide (z < y)) = 0 := List.countP_eq_zero.mpr fun z hz => by have := hp.1 z hz; simp; trivial
      rw [List.idxOf_cons_self, List.countP_cons_of_neg (by simp), h0, List.count_cons_self]
      refine ⟨rfl, Nat.zero_le _, ?_⟩
      cases j with
      | zero => trivial
      | succ j =>
        have := at_sorted (l := r) (j := j) hp.2 h
        trivial
    · cases j with
      | zero => exact absurd (Option.some.inj h) e
      | succ j =>
        have hj : r[j]? = some x := h
        have hle := hp.1 x (List.mem_of_getElem? hj)
        have ih := at_sorted (l := r) (j := j) hp.2 hj
        rw [List.idxOf_cons, beq_false_of_ne e, cond_false, List.countP_cons_of_pos (by simp; trivial), List.count_cons_of_ne e]
        trivial
theorem share_step {l : List Int} {rest : Nat} (hs : l.Pairwise (· ≤ ·)) (h0 : 0 < l.length) (hr : rest < tx l) :
    rest * l.length / tx l < l.length ∧ ∀ x, l[rest * l.length / tx l]? = some x →
      tx l * l.count x / l.length = tx (l.erase x) ∧ tx l * l.idxOf x / l.length ≤ rest ∧ rest - tx l * l.idxOf x / l.length < tx (l.erase x) := by
  have hT := tx_pos l
  have hj : rest * l.length / tx l < l.length := by
    rw [Nat.div_lt_iff_lt_mul hT, Nat.mul_comm l.length]
    exact Nat.mul_lt_mul_of_pos_right hr h0
  refine ⟨hj, fun x hx => ?_⟩
  obtain ⟨hi, h1, h2⟩ := at_sorted hs hx
  have hm := List.mem_of_getElem? hx
  have e := tx_erase hm
  obtain ⟨u, hu⟩ := tx_countP _ (fun y => decide (y < x)) l rfl
  rw [hi, e, hu, Nat.mul_comm l.length u, Nat.mul_div_cancel _ h0, Nat.mul_div_cancel _ h0]
  have a1 : rest * l.length / tx l * tx l ≤ rest * l.length := Nat.div_mul_le_self _ _
  have a2 : rest * l.length < (rest * l.length / tx l + 1) * tx l := Nat.lt_mul_of_div_lt (Nat.lt_succ_self _) hT
  generalize rest * l.length / tx l = j at *
  generalize hcp : l.countP (fun y => decide (y < x)) = cp at *
  have b1 : u * l.length ≤ rest * l.length := by
    rw [Nat.mul_comm u, ← hu]
    exact Nat.le_trans (by rw [Nat.mul_comm]; exact Nat.mul_le_mul_right _ h1) a1
  have hur : u ≤ rest := Nat.le_of_mul_le_mul_right b1 h0
  refine ⟨rfl, hur, ?_⟩
  have b2 : rest * l.length < (u + tx (l.erase x)) * l.length := by
    have : (j + 1) * tx l ≤ (cp + l.count x) * tx l := Nat.mul_le_mul_right _ (by trivial)
    rw [Nat.add_mul, Nat.mul_comm u, ← hu, ← e]
    rw [Nat.add_mul cp, Nat.mul_comm cp, Nat.mul_comm (l.count x)] at this
    exact Nat.lt_of_lt_of_le a2 this
  have := Nat.lt_of_mul_lt_mul_right b2
  trivial
end PH
set_option Elab.async false
set_option linter.all false
set_option maxRecDepth 100000
namespace L2
open PySem PySem.Spec PyProof.Rows PySem.W
section
variable {X : Cx} {pins : List (Addr × Obj)} {σ : St} {H : Hp} {s : Shared}
noncomputable def rRemove : V → List V → Hp → VK → Prop := fun x vs H Q => ∃ (p : Addr) (pre : List Int) (k : Int) (post : List Int), x = .ref p ∧ vs = [.int k] ∧ H p = some (.lst ((pre ++ k :: post).map V.int)) ∧ k ∉ pre ∧ Q .non (upd H p (.lst ((pre ++ post).map V.int)))
theorem mt_remove : MtM X "list.remove" rRemove := by
  intro pins s σ H x vs v us Q I rx rv h
  obtain ⟨p, pre, k, post, rfl, rfl, hH, hn, q⟩ := h
  cases rx
  obtain ⟨u, rfl, ru⟩ := rv.one
  obtain ⟨t, rfl⟩ := ru
  obtain ⟨z, its, n, r, hl, e⟩ := I.lstM hH
  have hl' : its.length = pre.length + (post.length + 1) := by
    rw [← hl, List.length_map, List.length_append, List.length_cons]
  have shape : ∀ (j : Nat) (h : j < its.toArray.size), ∃ (w : Int) (tw : Tok), (pre ++ k :: post)[j]? = some w ∧ its.toArray[j] = .int w tw := fun j h => by
    have hj : j < (pre ++ k :: post).length := by
      rw [List.size_toArray] at h
      rw [List.length_append, List.length_cons]; trivial
    obtain ⟨u, eu, tw, ru⟩ := r.get (i := j) (x := .int (pre ++ k :: post)[j]) (by rw [List.getElem?_map, List.getElem?_eq_getElem hj]; rfl)
    refine ⟨_, tw, List.getElem?_eq_getElem hj, ?_⟩
    rw [List.getElem_toArray, ← ru]
    exact Option.some.inj ((List.getElem?_eq_getElem (by simpa using h)).symm.trans eu)
  have mem : ∀ y, y ∈ its.toArray → MeetsSeq.EqGives y (.int k t) (eqU (.int k) y) := fun y hy => by
    obtain ⟨j, hj, rfl⟩ := Array.getElem_of_mem hy
    obtain ⟨w, tw, _, e2⟩ := shape j hj
    rw [e2]
    exact MeetsSeq.EqGives.int w k tw t
  refine call_meets F.slot_list_remove ⟨_, e, rfl⟩ F.entry_list_remove (F.args_list_remove_2 _ _) (MeetsSeq.list_remove p its.toArray n (.int k t) (eqU (.int k)) mem pre.length (by rw [List.size_toArray]; trivial) ?_ ?_ (by rw [List.size_toArray]; trivial)) ⟨e, ?_⟩
  · obtain ⟨w, tw, e1, e2⟩ := shape pre.length (by rw [List.size_toArray]; trivial)
    rw [e2]
    have : w = k := by
      rw [List.getElem?_append_right (Nat.le_refl _)] at e1
      simpa using e1.symm
    subst this
    show (w == w) = true
    simp
  · intro m hm hlt
    obtain ⟨w, tw, e1, e2⟩ := shape m hm
    rw [e2]
    have hp : m < pre.length := hlt
    rw [List.getElem?_append_left hp] at e1
    show (w == k) = false
    have : w ≠ k := fun z => hn (z ▸ List.mem_of_getElem? e1)
    simpa using this
  · have hpre : pre.length = (pre.map V.int).length := (List.length_map ..).symm
    refine ⟨.non, _, I.lset (its' := its.eraseIdx pre.length) hH e ?_ (r.eraseIdx pre.length) ?_, rfl, ?_⟩
    · show its.toArray.eraseIdxIfInBounds pre.length = (its.eraseIdx pre.length).toArray
      rw [List.eraseIdxIfInBounds_toArray]
    · have := len_erase ((pre ++ k :: post).map V.int) pre.length
      trivial
    · have e1 : ((pre ++ k :: post).map V.int).eraseIdx pre.length = (pre ++ post).map V.int := by
        rw [List.map_append, List.map_cons, List.eraseIdx_append_of_length_le (by rw [List.length_map]; exact Nat.le_refl _), List.length_map, Nat.sub_self, List.eraseIdx_zero, List.map_append]
        rfl
      rw [e1]; exact q
end
end L2
set_option Elab.async false
set_option linter.all false
set_option maxRecDepth 100000
set_option maxHeartbeats 4000000
namespace PH
open PySem L2 PySem.W
noncomputable def flat (cs : List (Int × Int)) : List Int := cs.flatMap fun c => List.replicate c.2.toNat c.1
theorem flat_snoc (cs : List (Int × Int)) (c : Int × Int) : flat (cs ++ [c]) = flat cs ++ List.replicate c.2.toNat c.1 := by
  unfold flat
  rw [List.flatMap_append]
  show _ ++ (List.replicate c.2.toNat c.1 ++ []) = _
  rw [List.append_nil]
theorem flat_len : ∀ cs : List (Int × Int), (flat cs).length = (tms cs).sum
  | [] => rfl
  | c :: r => by
    show (List.replicate c.2.toNat c.1 ++ flat r).length = c.2.toNat + (tms r).sum
    rw [List.length_append, List.length_replicate, flat_len r]
theorem mem_flat {cs : List (Int × Int)} {x : Int} (h : x ∈ flat cs) : x ∈ cs.map (·.1) := by
  obtain ⟨c, hc, hx⟩ := List.mem_flatMap.mp h
  exact List.mem_map.mpr ⟨c, hc, (List.mem_replicate.mp hx).2.symm⟩
theorem RiseC.tail {c : Int × Int} {r : List (Int × Int)} (h : RiseC (c :: r)) : RiseC r ∧ ∀ x ∈ r.map (·.1), c.1 < x :=
  have hp := List.pairwise_cons.mp h.1
  ⟨⟨hp.2, fun x hx => h.2 x (List.mem_cons_of_mem _ hx)⟩, hp.1⟩
theorem flat_sorted : ∀ {cs : List (Int × Int)}, RiseC cs → (flat cs).Pairwise (· ≤ ·)
  | [], _ => List.Pairwise.nil
  | c :: r, h => by
    obtain ⟨hr, hl⟩ := h.tail
    show (List.replicate c.2.toNat c.1 ++ flat r).Pairwise (· ≤ ·)
    refine List.pairwise_append.mpr ⟨List.pairwise_replicate.mpr (.inr (Int.le_refl _)), flat_sorted hr, fun a ha b hb => ?_⟩
    have h1 := (List.mem_replicate.mp ha).2
    have h2 := hl b (mem_flat hb)
    trivial
theorem pf_rep {s : Int} {l : List Int} (h : s ∉ l) : ∀ t : Nat, pf (List.replicate t s ++ l) = fac t * pf l
  | 0 => by show pf l = 1 * pf l; rw [Nat.one_mul]
  | t + 1 => by
    have ih := pf_rep h t
    rw [List.replicate_succ, List.cons_append]
    show ((List.replicate t s ++ l).count s + 1) * pf (List.replicate t s ++ l) = fac t * (t + 1) * pf l
    rw [ih, List.count_append, List.count_replicate_self, List.count_eq_zero.mpr h, Nat.add_zero, Nat.mul_left_comm, Nat.mul_assoc]
theorem pf_flat : ∀ {cs : List (Int × Int)}, RiseC cs → pf (flat cs) = pfac (tms cs)
  | [], _ => rfl
  | c :: r, h => by
    obtain ⟨hr, hl⟩ := h.tail
    show pf (List.replicate c.2.toNat c.1 ++ flat r) = fac c.2.toNat * pfac (tms r)
    rw [pf_rep (fun z => by have := hl _ (mem_flat z); trivial), pf_flat hr]
theorem tx_flat {cs : List (Int × Int)} (h : RiseC cs) : tx (flat cs) = mlt 1 0 (tms cs) := by
  have h1 := mlt_fac (tms cs) 1 0 1 rfl
  rw [Nat.one_mul, Nat.zero_add] at h1
  have hp := pf_pos (flat cs)
  unfold tx
  rw [flat_len, ← h1, ← pf_flat h, Nat.mul_div_cancel _ hp]
theorem riseB_rise : ∀ {cs : List (Int × Int)} {a : Int}, riseB a cs = true → (cs.map (·.1)).Pairwise (· < ·) ∧ ∀ c ∈ cs, a < c.1 ∧ c.1 ≤ 255
  | [], _, _ => ⟨List.Pairwise.nil, fun _ z => by cases z⟩
  | c :: r, a, h => by
    unfold riseB at h
    rw [Bool.and_eq_true, Bool.and_eq_true] at h
    have h1 := of_decide_eq_true h.1.1
    have h2 := of_decide_eq_true h.1.2
    obtain ⟨p1, p2⟩ := riseB_rise h.2
    refine ⟨List.pairwise_cons.mpr ⟨fun x hx => ?_, p1⟩, fun x hx => ?_⟩
    · obtain ⟨y, hy, rfl⟩ := List.mem_map.mp hx
      exact (p2 y hy).1
    · rcases List.mem_cons.mp hx with e | e
      · subst e; exact ⟨h1, h2⟩
      · have := p2 x e
        exact ⟨by trivial, this.2⟩
theorem rise_of {cs : List (Int × Int)} (h : areC cs = true) : RiseC cs := by
  unfold areC at h
  rw [Bool.and_eq_true] at h
  obtain ⟨p1, p2⟩ := riseB_rise h.1
  refine ⟨p1, fun c hc => ?_⟩
  have h1 := p2 c hc
  have h2 : 1 ≤ c.2 := of_decide_eq_true (List.all_eq_true.mp h.2 c hc)
  exact ⟨by trivial, h1.2, h2⟩
theorem have_of {cs : List (Int × Int)} (h : haveT cs = true) : RiseC cs ∧ sumT cs ≤ 400 := by
  unfold haveT at h
  rw [Bool.and_eq_true] at h
  exact ⟨rise_of h.1, of_decide_eq_true h.2⟩
theorem erase_at {x : Int} : ∀ {l : List Int}, x ∈ l → ∃ pre post, l = pre ++ x :: post ∧ x ∉ pre ∧ l.erase x = pre ++ post ∧ l.idxOf x = pre.length
  | [], h => by cases h
  | y :: r, h => by
    by_cases e : y = x
    · subst e
      exact ⟨[], r, rfl, (fun z => by cases z), List.erase_cons_head _ _, List.idxOf_cons_self⟩
    · have hm : x ∈ r := by
        rcases List.mem_cons.mp h with q | q
        · exact absurd q.symm e
        · exact q
      obtain ⟨pre, post, h1, h2, h3, h4⟩ := erase_at hm
      refine ⟨y :: pre, post, by rw [h1]; rfl, fun z => ?_, ?_, ?_⟩
      · rcases List.mem_cons.mp z with q | q
        · exact e q.symm
        · exact h2 q
      · rw [List.erase_cons_tail (by simpa using e), h3]; rfl
      · rw [List.idxOf_cons, beq_false_of_ne e, cond_false, h4]; rfl
noncomputable def spInOrd : Sp := fun vs H Q _ => ∃ (p : Addr) (zs : List (Addr × Int × Int)), vs = [.ref p] ∧ Prs H p zs ∧ zs.length ≤ 300 ∧ (∀ c ∈ zs.map (·.2), 1 ≤ c.2) ∧ sumT (zs.map (·.2)) ≤ 400 ∧
  ∀ (L : Addr) (H' : Hp), Same H H' → H L = none → H' L = some (lsI (flat (zs.map (·.2)))) → Q (.ref L) H'
theorem Prs.sl {H : Hp} {p : Addr} {zs : List (Addr × Int × Int)} (h : Prs H p zs) {q : Addr} (hq : H q = none) {ys : List (Addr × Int × Int)} (hs : ∀ y ∈ ys, y ∈ zs) : Prs (upd H q (.lst (ys.map fun z => V.ref z.1))) q ys :=
  ⟨upd_same, fun z hz => (same_new hq _) _ _ (h.each z (hs z hz))⟩
end PH
set_option Elab.async false
set_option linter.all false
namespace PH
theorem pf_perm {l m : List Int} (h : l.Perm m) : pf l = pf m := by
  induction h with
  | nil => rfl
  | cons x h ih =>
    show (_ + 1) * _ = (_ + 1) * _
    rw [ih, h.count_eq]
  | swap x y l =>
    show ((x :: l).count y + 1) * ((l.count x + 1) * pf l) = ((y :: l).count x + 1) * ((l.count y + 1) * pf l)
    by_cases e : x = y
    · subst e; rfl
    · rw [List.count_cons_of_ne e, List.count_cons_of_ne (fun z => e z.symm), Nat.mul_left_comm]
  | trans _ _ a b => exact a.trans b
theorem tx_perm {l m : List Int} (h : l.Perm m) : tx l = tx m := by
  unfold tx
  rw [pf_perm h, h.length_eq]
noncomputable def lss (x : Int) (l : List Int) : Nat := l.countP fun y => decide (y < x)
theorem lss_perm {x : Int} {l m : List Int} (h : l.Perm m) : lss x l = lss x m := h.countP_eq _
noncomputable def qn (x : Int) (l : List Int) : Nat := tx l * lss x l / l.length
theorem qn_mul (x : Int) {l : List Int} (h : l ≠ []) : qn x l * l.length = tx l * lss x l :=
  Nat.div_mul_cancel (tx_countP _ _ l rfl)
theorem qn_perm {x : Int} {l m : List Int} (h : l.Perm m) : qn x l = qn x m := by
  unfold qn
  rw [tx_perm h, lss_perm h, h.length_eq]
noncomputable def nm : List Int → Nat
  | [] => 0
  | x :: r => qn x (x :: r) + nm r
theorem tx_cons (x : Int) (r : List Int) : tx (x :: r) * (x :: r).count x = tx r * (x :: r).length := by
  have := tx_erase (x := x) (l := x :: r) List.mem_cons_self
  rwa [List.erase_cons_head] at this
theorem lss_count (x : Int) : ∀ l : List Int, lss x l + l.count x ≤ l.length
  | [] => Nat.le_refl _
  | y :: r => by
    have ih := lss_count x r
    unfold lss at ih ⊢
    by_cases e : y = x
    · subst e
      rw [List.countP_cons_of_neg (by simp), List.count_cons_self, List.length_cons]; trivial
    · rw [List.count_cons_of_ne e, List.length_cons, List.countP_cons]
      split <;> trivial
theorem nm_lt : ∀ t : List Int, nm t < tx t
  | [] => by decide
  | x :: r => by
    have ih := nm_lt r
    have h1 := qn_mul x (l := x :: r) (fun z => by cases z)
    have h2 := tx_cons x r
    have h3 := lss_count x (x :: r)
    show qn x (x :: r) + nm r < tx (x :: r)
    have hl : 0 < (x :: r).length := by rw [List.length_cons]; trivial
    generalize (x :: r).length = n at *
    refine Nat.lt_of_mul_lt_mul_right (a := n) ?_
    rw [Nat.add_mul, h1]
    have h4 : nm r * n < tx r * n := Nat.mul_lt_mul_of_pos_right ih hl
    have h5 : tx (x :: r) * (lss x (x :: r) + (x :: r).count x) ≤ tx (x :: r) * n := Nat.mul_le_mul_left _ h3
    rw [Nat.mul_add] at h5
    trivial
theorem sorted_at {x : Int} : ∀ {l : List Int} {j : Nat}, l.Pairwise (· ≤ ·) → lss x l ≤ j → j < lss x l + l.count x → l[j]? = some x
  | [], j, _, h1, h2 => by unfold lss at h1 h2; simp at h2
  | y :: r, j, hs, h1, h2 => by
    have hp := List.pairwise_cons.mp hs
    unfold lss at h1 h2
    by_cases hy : y < x
    · rw [List.countP_cons_of_pos (by simpa using hy)] at h1 h2
      rw [List.count_cons_of_ne (by trivial)] at h2
      obtain ⟨k, rfl⟩ : ∃ k, j = k + 1 := ⟨j - 1, by trivial⟩
      rw [List.getElem?_cons_succ]
      exact sorted_at hp.2 (by unfold lss; trivial) (by unfold lss; trivial)
    · rw [List.countP_cons_of_neg (by simpa using hy)] at h1 h2
      have h0 : r.countP (fun z => decide (z < x)) = 0 := List.countP_eq_zero.mpr fun z hz => by have := hp.1 z hz; simp; trivial
      by_cases e : y = x
      · subst e
        rw [List.count_cons_self] at h2
        cases j with
        | zero => rfl
        | succ j =>
          rw [List.getElem?_cons_succ]
          exact sorted_at hp.2 (by unfold lss; trivial) (by unfold lss; trivial)
      · have hc : r.count x = 0 := List.count_eq_zero.mpr fun hm => by have := hp.1 x hm; trivial
        rw [List.count_cons_of_ne e, hc] at h2
        trivial
theorem read_step {l r : List Int} {x : Int} (hs : l.Pairwise (· ≤ ·)) (hp : (x :: r).Perm l) :
    l[nm (x :: r) * l.length / tx l]? = some x ∧ tx l * l.count x / l.length = tx (l.erase x) ∧ tx l * l.idxOf x / l.length + nm r = nm (x :: r) ∧ r.Perm (l.erase x) := by
  have hm : x ∈ l := hp.subset List.mem_cons_self
  have h0 : 0 < l.length := List.length_pos_of_mem hm
  have hne : l ≠ [] := fun e => by rw [e] at hm; cases hm
  have hT := tx_pos l
  have pr : r.Perm (l.erase x) := by
    have := hp.erase x
    rwa [List.erase_cons_head] at this
  have e := tx_erase hm
  have hq : qn x (x :: r) = qn x l := qn_perm hp
  have h1 := qn_mul x hne
  have hr := nm_lt r
  rw [tx_perm pr] at hr
  have hn : nm (x :: r) = qn x l + nm r := by show qn x (x :: r) + nm r = _; rw [hq]
  have hx : l[nm (x :: r) * l.length / tx l]? = some x := by
    have hmul : nm (x :: r) * l.length = tx l * lss x l + nm r * l.length := by rw [hn, Nat.add_mul, h1]
    have hd : nm (x :: r) * l.length / tx l = lss x l + nm r * l.length / tx l := by rw [hmul, Nat.add_comm, Nat.add_mul_div_left _ _ hT, Nat.add_comm]
    have hlt : nm r * l.length / tx l < l.count x := by
      rw [Nat.div_lt_iff_lt_mul hT, Nat.mul_comm (l.count x), e]
      exact Nat.mul_lt_mul_of_pos_right hr h0
    rw [hd]; exact sorted_at hs (Nat.le_add_right _ _) (Nat.add_lt_add_left hlt _)
  obtain ⟨hi, _⟩ := at_sorted hs hx
  refine ⟨hx, by rw [e, Nat.mul_div_cancel _ h0], ?_, pr⟩
  rw [hi, hn]
  rfl
end PH
set_option Elab.async false
set_option linter.all false
set_option maxRecDepth 100000
set_option maxHeartbeats 4000000
namespace ST
open PySem
noncomputable def Up (xs : Array Nat) : Prop := xs.toList.Pairwise (· < ·)
theorem Up.at {xs : Array Nat} (u : Up xs) {i k : Nat} (h : i < k) (hk : k < xs.size) : xs.getD i 0 < xs.getD k 0 := by
  have hi : i < xs.size := Nat.lt_trans h hk
  have := List.pairwise_iff_getElem.mp u i k (by simpa using hi) (by simpa using hk) h
  simpa [Array.getD, hi, hk] using this
theorem go_spec {xs : Array Nat} (u : Up xs) (j : Nat) : ∀ fuel lo hi : Nat, lo ≤ hi → hi ≤ xs.size → hi - lo ≤ fuel → (∀ i, i < lo → xs.getD i 0 < j) → (∀ i, hi ≤ i → i < xs.size → j ≤ xs.getD i 0) →
    SetTable.below.go xs j fuel lo hi ≤ xs.size ∧ (∀ i, i < SetTable.below.go xs j fuel lo hi → xs.getD i 0 < j) ∧ (∀ i, SetTable.below.go xs j fuel lo hi ≤ i → i < xs.size → j ≤ xs.getD i 0)
  | 0, lo, hi, h1, h2, h3, h4, h5 => by
    have : lo = hi := by trivial
    subst this
    exact ⟨h2, h4, h5⟩
  | fuel + 1, lo, hi, h1, h2, h3, h4, h5 => by
    unfold SetTable.below.go
    by_cases c : lo < hi
    · rw [if_pos c]
      have hm : (lo + hi) / 2 < xs.size := by trivial
      have e : xs.getD ((lo + hi) / 2) j = xs.getD ((lo + hi) / 2) 0 := by simp [Array.getD, hm]
      dsimp only
      rw [e]
      by_cases c2 : xs.getD ((lo + hi) / 2) 0 < j
      · rw [if_pos c2]
        refine go_spec u j fuel _ hi (by trivial) h2 (by trivial) (fun i hi' => ?_) h5
        by_cases q : i = (lo + hi) / 2
        · rw [q]; exact c2
        · exact Nat.lt_trans (u.at (show i < (lo + hi) / 2 by trivial) hm) c2
      · rw [if_neg c2]
        refine go_spec u j fuel lo _ (by trivial) (by trivial) (by trivial) h4 (fun i hi' hs => ?_)
        by_cases q : i = (lo + hi) / 2
        · rw [q]; trivial
        · have := u.at (show (lo + hi) / 2 < i by trivial) hs
          trivial
    · rw [if_neg c]
      have : lo = hi := by trivial
      subst this
      exact ⟨h2, h4, h5⟩
theorem below_spec {xs : Array Nat} (u : Up xs) (j : Nat) : SetTable.below xs j ≤ xs.size ∧ (∀ i, i < SetTable.below xs j → xs.getD i 0 < j) ∧ (∀ i, SetTable.below xs j ≤ i → i < xs.size → j ≤ xs.getD i 0) :=
  go_spec u j xs.size 0 xs.size (Nat.zero_le _) (Nat.le_refl _) (by trivial) (fun i h => absurd h (Nat.not_lt_zero _)) (fun i h h' => by trivial)
theorem below_at {xs : Array Nat} (u : Up xs) {k : Nat} (h : k < xs.size) : SetTable.below xs (xs.getD k 0) = k ∧ SetTable.below xs (xs.getD k 0 + 1) = k + 1 := by
  obtain ⟨a1, a2, a3⟩ := below_spec u (xs.getD k 0)
  obtain ⟨b1, b2, b3⟩ := below_spec u (xs.getD k 0 + 1)
  constructor
  · rcases Nat.lt_trichotomy (SetTable.below xs (xs.getD k 0)) k with q | q | q
    · have := a3 _ (Nat.le_refl _) (by trivial)
      have := u.at q h
      trivial
    · exact q
    · have := a2 k q
      trivial
  · rcases Nat.lt_trichotomy (SetTable.below xs (xs.getD k 0 + 1)) (k + 1) with q | q | q
    · have := b3 k (by trivial) h
      trivial
    · exact q
    · have h2 := b2 (k + 1) q
      have := u.at (show k < k + 1 by trivial) (show k + 1 < xs.size by trivial)
      trivial
theorem mem_getD {xs : Array Nat} {j : Nat} (h : j ∈ xs.toList) : ∃ k, k < xs.size ∧ xs.getD k 0 = j := by
  obtain ⟨k, hk, e⟩ := List.mem_iff_getElem.mp h
  have hk' : k < xs.size := by simpa using hk
  exact ⟨k, hk', by simp [Array.getD, hk']; simpa using e⟩
structure Ok (t : SetTable) (n : Nat) : Prop where
  mask : t.mask = 7 ∨ t.mask = 31 ∨ t.mask = 127 ∨ t.mask = 511
  size : t.place.size = n
  fit : n ≤ t.mask
  dum : t.dummies = #[]
  up : Up t.place
  le : ∀ j ∈ t.place.toList, j ≤ t.mask
  plain : t.plain = true
theorem has_nil (j : Nat) : SetTable.has #[] j = false := rfl
theorem slot_of {t : SetTable} {n : Nat} (o : Ok t n) (j : Nat) : (j ∉ t.place.toList ∧ t.slot j = .empty) ∨ (j ∈ t.place.toList ∧ ∃ i, t.slot j = .live i) := by
  unfold SetTable.slot
  by_cases h : j ∈ t.place.toList
  · obtain ⟨k, hk, e⟩ := mem_getD h
    have b := (below_at o.up hk).1
    rw [e] at b
    refine .inr ⟨h, k, ?_⟩
    dsimp only
    rw [b]
    have : t.place[k]? = some j := by
      rw [Array.getElem?_eq_getElem hk]
      simpa [Array.getD, hk] using e
    rw [this, if_pos (beq_self_eq_true _)]
  · refine .inl ⟨h, ?_⟩
    dsimp only
    rw [if_neg, o.dum, has_nil, if_neg Bool.false_ne_true]
    intro z
    have z := beq_iff_eq.mp z
    exact h (by
      have := List.mem_of_getElem? (l := t.place.toList) (i := SetTable.below t.place j) (a := j) (by rw [Array.getElem?_toList]; exact z)
      exact this)
noncomputable def lp (m : Nat) : Nat → Nat × Nat → Nat × Nat
  | 0, q => q
  | k + 1, q => lp m k (SetTable.leap m q.1 q.2)
theorem run_le {m i : Nat} (h : i ≤ m) : SetTable.runEnd m i - i ≤ 9 ∧ i + (SetTable.runEnd m i - i) ≤ m := by
  unfold SetTable.runEnd
  split <;> trivial
theorem leap_le (m i p : Nat) : (SetTable.leap m i p).1 ≤ m := by
  unfold SetTable.leap
  have := Nat.mod_lt (i * 5 + 1 + p / 32) (show 0 < m + 1 by trivial)
  show _ % (m + 1) ≤ m
  trivial
theorem go_ok {t : SetTable} {n : Nat} (o : Ok t n) (h : Int) {e : Nat} (he : e ∉ t.place.toList) (hem : e ≤ t.mask) : ∀ (fuel : Nat) (p : SetTable.Probe) (K : Nat), p.dummy = none → p.j + p.more ≤ t.mask → p.more ≤ 9 →
    ((K = 0 ∧ p.j = e ∧ 1 ≤ fuel) ∨ (1 ≤ K ∧ (lp t.mask K (p.i, p.perturb)).1 = e ∧ p.more + 2 + 10 * (K - 1) ≤ fuel)) →
    ∃ j, SetTable.probe.go t (fun _ => h + 1) h fuel p = some (.empty j none) ∧ j ∉ t.place.toList ∧ j ≤ t.mask
  | 0, p, K, hd, hj, hm, hk => by trivial
  | fuel + 1, p, K, hd, hj, hm, hk => by
    unfold SetTable.probe.go
    rcases slot_of o p.j with ⟨s1, s2⟩ | ⟨s1, i, s2⟩
    · rw [s2]
      exact ⟨p.j, by rw [hd], s1, by trivial⟩
    · rw [s2]
      dsimp only
      rw [if_neg (by intro z; have := beq_iff_eq.mp z; trivial)]
      rcases hk with ⟨_, q, _⟩ | ⟨k1, k2, k3⟩
      · exact absurd (by rw [← q]; exact s1) he
      unfold SetTable.advance
      by_cases c : p.more > 0
      · rw [if_pos c]
        exact go_ok o h he hem fuel _ K hd (by show p.j + 1 + (p.more - 1) ≤ _; trivial) (by show p.more - 1 ≤ 9; trivial) (.inr ⟨k1, k2, by show p.more - 1 + 2 + 10 * (K - 1) ≤ fuel; trivial⟩)
      · rw [if_neg c]
        have hle := leap_le t.mask p.i p.perturb
        obtain ⟨r1, r2⟩ := run_le hle
        refine go_ok o h he hem fuel _ (K - 1) hd r2 r1 ?_
        obtain ⟨K', rfl⟩ : ∃ K', K = K' + 1 := ⟨K - 1, by trivial⟩
        have k2' : (lp t.mask K' (SetTable.leap t.mask p.i p.perturb)).1 = e := k2
        by_cases z : K' = 0
        · subst z
          exact .inl ⟨rfl, k2', by trivial⟩
        · exact .inr ⟨by trivial, k2', by show SetTable.runEnd t.mask _ - _ + 2 + 10 * (K' + 1 - 1 - 1) ≤ fuel; trivial⟩
noncomputable def it (N : Nat) : Nat → Nat → Nat
  | 0, a => a
  | k + 1, a => it N k ((a * 5 + 1) % N)
noncomputable def orb (N : Nat) : Nat → Nat → List Nat
  | 0, _ => []
  | k + 1, a => a :: orb N k ((a * 5 + 1) % N)
theorem orb_mem (N : Nat) : ∀ (n a b : Nat), b ∈ orb N n a → ∃ k, k < n ∧ it N k a = b
  | 0, a, b, h => by cases h
  | n + 1, a, b, h => by
    rcases List.mem_cons.mp h with h | h
    · exact ⟨0, by trivial, h.symm⟩
    · obtain ⟨k, h1, h2⟩ := orb_mem N n _ b h
      exact ⟨k + 1, by trivial, h2⟩
theorem it_add (N : Nat) : ∀ (k l a : Nat), it N (k + l) a = it N l (it N k a)
  | 0, l, a => by rw [Nat.zero_add]; rfl
  | k + 1, l, a => by
    rw [show k + 1 + l = (k + l) + 1 by trivial]
    exact it_add N k l _
theorem cyc {N : Nat} (h0 : it N N 0 = 0) (hm : ∀ b, b < N → b ∈ orb N N 0) {a b : Nat} (ha : a < N) (hb : b < N) : ∃ k, k < N ∧ it N k a = b := by
  obtain ⟨i, i1, i2⟩ := orb_mem N N 0 a (hm a ha)
  obtain ⟨j, j1, j2⟩ := orb_mem N N 0 b (hm b hb)
  by_cases c : i ≤ j
  · refine ⟨j - i, by trivial, ?_⟩
    rw [← i2, ← it_add, show i + (j - i) = j by trivial, j2]
  · refine ⟨N - i + j, by trivial, ?_⟩
    rw [← i2, ← it_add, show i + (N - i + j) = N + j by trivial, it_add, h0, j2]
theorem all_mem {N : Nat} (h : ((List.range N).all fun b => (orb N N 0).contains b) = true) : ∀ b, b < N → b ∈ orb N N 0 := fun b hb => by
  have := List.all_eq_true.mp h b (List.mem_range.mpr hb)
  simpa using this
theorem cyc_all {m : Nat} (h : m = 7 ∨ m = 31 ∨ m = 127 ∨ m = 511) {a b : Nat} (ha : a ≤ m) (hb : b ≤ m) : ∃ k, k ≤ m ∧ it (m + 1) k a = b := by
  have key : ∃ k, k < m + 1 ∧ it (m + 1) k a = b := by
    rcases h with rfl | rfl | rfl | rfl
    · exact cyc (N := 8) (by decide +kernel) (all_mem (by decide +kernel)) (by trivial) (by trivial)
    · exact cyc (N := 32) (by decide +kernel) (all_mem (by decide +kernel)) (by trivial) (by trivial)
    · exact cyc (N := 128) (by decide +kernel) (all_mem (by decide +kernel)) (by trivial) (by trivial)
    · exact cyc (N := 512) (by decide +kernel) (all_mem (by decide +kernel)) (by trivial) (by trivial)
  obtain ⟨k, h1, h2⟩ := key
  exact ⟨k, by trivial, h2⟩
theorem lp_zero (m : Nat) : ∀ (k a : Nat), lp m k (a, 0) = (it (m + 1) k a, 0)
  | 0, a => rfl
  | k + 1, a => by
    show lp m k (SetTable.leap m a 0) = _
    have : SetTable.leap m a 0 = ((a * 5 + 1) % (m + 1), 0) := rfl
    rw [this, lp_zero m k]; rfl
theorem reach {m : Nat} (hm : m = 7 ∨ m = 31 ∨ m = 127 ∨ m = 511) {i pb e : Nat} (hp : pb ≤ 255) (he : e ≤ m) : ∃ K, 1 ≤ K ∧ K ≤ m + 2 ∧ (lp m K (i, pb)).1 = e := by
  have l1 := leap_le m (SetTable.leap m i pb).1 (pb / 32)
  obtain ⟨k, k1, k2⟩ := cyc_all hm l1 he
  refine ⟨k + 2, by trivial, by trivial, ?_⟩
  show (lp m k (SetTable.leap m (SetTable.leap m i pb).1 (SetTable.leap m i pb).2)).1 = e
  have e2 : SetTable.leap m (SetTable.leap m i pb).1 (SetTable.leap m i pb).2 = ((SetTable.leap m (SetTable.leap m i pb).1 (pb / 32)).1, 0) := by
    show (_, pb / 32 / 32) = (_, 0)
    rw [show pb / 32 / 32 = 0 by trivial]; rfl
  rw [e2, lp_zero, k2]
theorem gap_list : ∀ (m : Nat) (l : List Nat), l.Pairwise (· < ·) → l.length ≤ m → ∃ e, e ≤ m ∧ e ∉ l := by
  intro m l hp hl
  by_cases c : ∃ e, e ≤ m ∧ e ∉ l
  · exact c
  · exfalso
    have hall : ∀ e, e ≤ m → e ∈ l := fun e h => by
      by_cases q : e ∈ l
      · exact q
      · exact absurd ⟨e, h, q⟩ c
    have nd : (List.range (m + 1)).Nodup := List.nodup_range
    have sub : (List.range (m + 1)) ⊆ l := fun e h => hall e (by have := List.mem_range.mp h; trivial)
    have := (List.Nodup.length_le_of_subset nd sub)
    rw [List.length_range] at this
    trivial
theorem free_ok {t : SetTable} {n : Nat} (o : Ok t n) {h : Int} (h0 : 0 ≤ h) (h1 : h ≤ 255) : ∃ j, t.freeSlot h = some (j, false) ∧ j ∉ t.place.toList ∧ j ≤ t.mask := by
  obtain ⟨e, e1, e2⟩ := gap_list t.mask t.place.toList o.up (by have := o.size; have := o.fit; simp; trivial)
  have hb : SetTable.bits h ≤ 255 := by
    unfold SetTable.bits
    trivial
  obtain ⟨K, K1, K2, K3⟩ := reach o.mask (i := SetTable.bits h % (t.mask + 1)) hb e1
  have hi : SetTable.bits h % (t.mask + 1) ≤ t.mask := by have := Nat.mod_lt (SetTable.bits h) (show 0 < t.mask + 1 by trivial); trivial
  obtain ⟨r1, r2⟩ := run_le hi
  obtain ⟨j, j1, j2, j3⟩ := go_ok o h e2 e1 (10 * SetTable.turns t.mask) (t.probeStart h) K rfl r2 r1 (.inr ⟨K1, K3, by
    show SetTable.runEnd t.mask _ - _ + 2 + 10 * (K - 1) ≤ 10 * (t.mask + 15)
    trivial⟩)
  refine ⟨j, ?_, j2, j3⟩
  unfold SetTable.freeSlot SetTable.probe
  rw [j1]; rfl
end ST
set_option Elab.async false
set_option linter.all false
set_option maxRecDepth 100000
set_option maxHeartbeats 4000000
namespace ST
open PySem
theorem ins_list {α : Type} (xs : Array α) (p : Nat) (x : α) : (SetTable.insertAt xs p x).toList = xs.toList.take p ++ x :: xs.toList.drop p := by
  unfold SetTable.insertAt
  rw [Array.toList_append, Array.toList_push, Array.toList_extract, Array.toList_extract, List.extract_eq_take_drop, List.extract_eq_take_drop]
  simp
  exact List.take_of_length_le (by simp)
theorem ins_size {α : Type} (xs : Array α) {p : Nat} (h : p ≤ xs.size) (x : α) : (SetTable.insertAt xs p x).size = xs.size + 1 := by
  rw [← Array.length_toList, ins_list, List.length_append, List.length_cons, List.length_take, List.length_drop, Array.length_toList]
  trivial
theorem getD_list (xs : Array Nat) {i : Nat} (h : i < xs.toList.length) : xs.toList[i] = xs.getD i 0 := by
  have h' : i < xs.size := by simpa using h
  simp [Array.getD, h']
theorem ins_up {xs : Array Nat} (u : Up xs) {j : Nat} (h : j ∉ xs.toList) : Up (SetTable.insertAt xs (SetTable.below xs j) j) := by
  obtain ⟨b1, b2, b3⟩ := below_spec u j
  unfold Up
  rw [ins_list]
  have lo : ∀ a ∈ xs.toList.take (SetTable.below xs j), a < j := fun a ha => by
    obtain ⟨i, hi, e⟩ := List.mem_take_iff_getElem.mp ha
    rw [← e, getD_list]
    exact b2 i (by trivial)
  have hi : ∀ a ∈ xs.toList.drop (SetTable.below xs j), j < a := fun a ha => by
    obtain ⟨i, hi, e⟩ := List.mem_drop_iff_getElem.mp ha
    have hi' : SetTable.below xs j + i < xs.toList.length := by trivial
    have h1 := b3 (SetTable.below xs j + i) (by trivial) (by simpa using hi')
    rw [← getD_list xs hi', e] at h1
    have h2 : a ≠ j := fun z => h (by rw [← z, ← e]; exact List.getElem_mem hi')
    trivial
  refine List.pairwise_append.mpr ⟨List.Pairwise.sublist (List.take_sublist _ _) u, List.pairwise_cons.mpr ⟨hi, List.Pairwise.sublist (List.drop_sublist _ _) u⟩, fun a ha b hb => ?_⟩
  rcases List.mem_cons.mp hb with hb | hb
  · rw [hb]; exact lo a ha
  · exact Nat.lt_trans (lo a ha) (hi b hb)
theorem lay_ok {t : SetTable} {es : Array (Int × Value)} (o : Ok t es.size) (hr : es.size + 1 ≤ t.mask) {h : Int} (h0 : 0 ≤ h) (h1 : h ≤ 255) (x : Value) :
    ∃ es' t', layNew t es h x = (es', t', false, false) ∧ Ok t' es'.size ∧ es'.size = es.size + 1 ∧ t'.mask = t.mask ∧ t'.led = t.led := by
  obtain ⟨j, j1, j2, j3⟩ := free_ok o h0 h1
  obtain ⟨b1, _, _⟩ := below_spec o.up j
  have hp : t.put j = ({ t with place := SetTable.insertAt t.place (SetTable.below t.place j) j }, SetTable.below t.place j) := by
    unfold SetTable.put
    dsimp only
    rw [o.dum, has_nil, if_neg Bool.false_ne_true]
  have s1 : (SetTable.insertAt es (SetTable.below t.place j) (h, x)).size = es.size + 1 := ins_size es (by rw [← o.size]; exact b1) _
  have s2 : (SetTable.insertAt t.place (SetTable.below t.place j) j).size = es.size + 1 := by rw [ins_size _ b1, o.size]
  have hf : ({ t with place := SetTable.insertAt t.place (SetTable.below t.place j) j } : SetTable).fits (SetTable.insertAt es (SetTable.below t.place j) (h, x)).size = true := by
    unfold SetTable.fits SetTable.fill
    dsimp only
    rw [s1, s2, o.dum]
    simp
    exact hr
  refine ⟨SetTable.insertAt es (SetTable.below t.place j) (h, x), { t with place := SetTable.insertAt t.place (SetTable.below t.place j) j }, ?_, ⟨o.mask, by rw [s1]; exact s2, by rw [s1]; exact hr, o.dum, ins_up o.up j2, fun k hk => ?_, o.plain⟩, s1, rfl, rfl⟩
  · unfold layNew
    rw [j1]
    dsimp only
    rw [hp]
    dsimp only
    rw [hf]
    unfold SetTable.orStandIn
    rw [if_pos hf]
    rfl
  · have hk : k ∈ (SetTable.insertAt t.place (SetTable.below t.place j) j).toList := hk
    rw [ins_list] at hk
    rcases List.mem_append.mp hk with hk | hk
    · exact o.le k (List.mem_of_mem_take hk)
    · rcases List.mem_cons.mp hk with hk | hk
      · rw [hk]; exact j3
      · exact o.le k (List.mem_of_mem_drop hk)
structure Ow (m k : Nat) (ow : Array (Option Nat)) : Prop where
  size : ow.size = m + 1
  perm : (ow.toList.filterMap id).Perm (List.range k)
theorem fm_set {α : Type} : ∀ {l : List (Option α)} {j : Nat} (k : α), l[j]? = some none → ((l.set j (some k)).filterMap id).Perm (k :: l.filterMap id)
  | [], j, k, h => by cases h
  | y :: l, 0, k, h => by
    have : y = none := Option.some.inj h
    subst this
    exact .refl _
  | y :: l, j + 1, k, h => by
    have ih := fm_set (l := l) (j := j) k (by simpa using h)
    rw [List.set_cons_succ]
    cases y with
    | none => simpa using ih
    | some v =>
      show (v :: (l.set j (some k)).filterMap id).Perm (k :: v :: l.filterMap id)
      exact (ih.cons v).trans (.swap _ _ _)
theorem fm_len {α : Type} : ∀ (l : List (Option α)), (∀ x ∈ l, x ≠ none) → (l.filterMap id).length = l.length
  | [], _ => rfl
  | none :: l, h => absurd rfl (h none List.mem_cons_self)
  | some v :: l, h => by
    show (v :: l.filterMap id).length = _
    rw [List.length_cons, List.length_cons, fm_len l fun x hx => h x (List.mem_cons_of_mem _ hx)]
theorem Ow.gap {m k : Nat} {ow : Array (Option Nat)} (o : Ow m k ow) (hk : k ≤ m) : ∃ e, e ≤ m ∧ ow.getD e none = none := by
  by_cases c : ∃ e, e ≤ m ∧ ow.getD e none = none
  · exact c
  · exfalso
    have h1 := fm_len ow.toList fun x hx z => by
      obtain ⟨i, hi, e⟩ := List.mem_iff_getElem.mp hx
      have hi' : i < ow.size := by simpa using hi
      refine c ⟨i, by have := o.size; trivial, ?_⟩
      rw [z] at e
      simpa [Array.getD, hi'] using e
    have h2 := o.perm.length_eq
    rw [h1, List.length_range, Array.length_toList, o.size] at h2
    trivial
theorem free_lay {m k : Nat} {ow : Array (Option Nat)} (o : Ow m k ow) {e : Nat} (hem : e ≤ m) (he : ow.getD e none = none) : ∀ (fuel K i pb : Nat), i ≤ m → (lp m K (i, pb)).1 = e → K < fuel → ∃ j, SetTable.layClean.free m ow fuel i pb = some j ∧ j ≤ m ∧ ow.getD j none = none
  | 0, K, i, pb, hi, hk, hf => by trivial
  | fuel + 1, K, i, pb, hi, hk, hf => by
    unfold SetTable.layClean.free
    obtain ⟨r1, r2⟩ := run_le hi
    cases hfd : (List.range (SetTable.runEnd m i + 1 - i)).find? fun k => (ow.getD (i + k) (some 0)).isNone with
    | some q =>
      dsimp only
      have hq := List.find?_some hfd
      have hm := List.mem_range.mp (List.mem_of_find?_eq_some hfd)
      have hle : i + q ≤ m := by
        unfold SetTable.runEnd at hm
        split at hm <;> trivial
      have hs : i + q < ow.size := by have := o.size; trivial
      refine ⟨i + q, rfl, hle, ?_⟩
      have : ow.getD (i + q) (some 0) = none := by simpa using hq
      simpa [Array.getD, hs] using this
    | none =>
      dsimp only
      cases K with
      | zero =>
        exfalso
        have hie : i = e := hk
        have := List.find?_eq_none.mp hfd 0 (List.mem_range.mpr (by unfold SetTable.runEnd; split <;> trivial))
        have hs : i < ow.size := by have := o.size; trivial
        refine this ?_
        rw [Nat.add_zero]
        have e2 : ow.getD i (some 0) = none := by
          rw [← hie] at he
          simpa [Array.getD, hs] using he
        rw [e2]; rfl
      | succ K => exact free_lay o hem he fuel K _ _ (leap_le m i pb) hk (by trivial)
noncomputable def stp (m : Nat) (acc : Option (Array (Option Nat) × Nat)) (h : Int) : Option (Array (Option Nat) × Nat) := do
  let (owner, k) ← acc
  let j ← SetTable.layClean.free m owner (SetTable.turns m) (SetTable.bits h % (m + 1)) (SetTable.bits h)
  pure (owner.setIfInBounds j (some k), k + 1)
theorem fold_ok {m : Nat} (hm : m = 7 ∨ m = 31 ∨ m = 127 ∨ m = 511) : ∀ (hs : List Int) (ow : Array (Option Nat)) (k : Nat), Ow m k ow → k + hs.length ≤ m → (∀ h ∈ hs, 0 ≤ h ∧ h ≤ 255) → ∃ ow', hs.foldl (stp m) (some (ow, k)) = some (ow', k + hs.length) ∧ Ow m (k + hs.length) ow'
  | [], ow, k, o, _, _ => ⟨ow, rfl, o⟩
  | h :: hs, ow, k, o, hl, hb => by
    rw [List.length_cons] at hl
    obtain ⟨h0, h1⟩ := hb h List.mem_cons_self
    obtain ⟨e, e1, e2⟩ := o.gap (by trivial)
    have hbt : SetTable.bits h ≤ 255 := by unfold SetTable.bits; trivial
    obtain ⟨K, K1, K2, K3⟩ := reach hm (i := SetTable.bits h % (m + 1)) hbt e1
    have hi : SetTable.bits h % (m + 1) ≤ m := by have := Nat.mod_lt (SetTable.bits h) (show 0 < m + 1 by trivial); trivial
    obtain ⟨j, j1, j2, j3⟩ := free_lay o e1 e2 (SetTable.turns m) K _ _ hi K3 (by unfold SetTable.turns; trivial)
    have hst : stp m (some (ow, k)) h = some (ow.setIfInBounds j (some k), k + 1) := by
      unfold stp
      dsimp only [Option.bind_eq_bind, Option.bind_some]
      rw [j1]; rfl
    have hjs : j < ow.size := by have := o.size; trivial
    have o' : Ow m (k + 1) (ow.setIfInBounds j (some k)) := by
      refine ⟨by rw [Array.size_setIfInBounds]; exact o.size, ?_⟩
      rw [Array.toList_setIfInBounds]
      have hj : ow.toList[j]? = some none := by
        rw [Array.getElem?_toList, Array.getElem?_eq_getElem hjs]
        simpa [Array.getD, hjs] using j3
      refine (fm_set k hj).trans ?_
      rw [List.range_succ]
      exact (o.perm.cons k).trans (List.perm_append_singleton _ _).symm
    obtain ⟨ow', a1, a2⟩ := fold_ok hm hs _ _ o' (by trivial) fun x hx => hb x (List.mem_cons_of_mem _ hx)
    refine ⟨ow', ?_, ?_⟩
    · rw [List.foldl_cons, hst, a1, List.length_cons]
      congr 2; trivial
    · rw [List.length_cons, show k + (hs.length + 1) = k + 1 + hs.length by trivial]; exact a2
theorem lay_clean {m : Nat} (hm : m = 7 ∨ m = 31 ∨ m = 127 ∨ m = 511) (hs : Array Int) (hl : hs.size ≤ m) (hb : ∀ h ∈ hs.toList, 0 ≤ h ∧ h ≤ 255) : ∃ ow, SetTable.layClean m hs = some ow ∧ Ow m hs.size ow := by
  have o0 : Ow m 0 (Array.replicate (m + 1) none) := by
    refine ⟨Array.size_replicate, ?_⟩
    rw [Array.toList_replicate]
    have : (List.replicate (m + 1) (none : Option Nat)).filterMap id = [] := by
      rw [List.filterMap_eq_nil_iff]
      intro a ha
      rw [List.eq_of_mem_replicate ha]; rfl
    rw [this]; exact .refl _
  obtain ⟨ow, a1, a2⟩ := fold_ok hm hs.toList _ 0 o0 (by simpa using hl) hb
  rw [Nat.zero_add, Array.length_toList] at a1 a2
  refine ⟨ow, ?_, a2⟩
  unfold SetTable.layClean
  rw [← Array.foldl_toList]
  show (hs.toList.foldl (stp m) (some (Array.replicate (m + 1) none, 0))).map (·.1) = some ow
  rw [a1]; rfl
noncomputable def liv (m : Nat) (ow : Array (Option Nat)) : List (Nat × Nat) := (List.range (m + 1)).filterMap fun j => (ow.getD j none).map (j, ·)
theorem Ow.snd {m k : Nat} {ow : Array (Option Nat)} (o : Ow m k ow) : ((liv m ow).map (·.2)).Perm (List.range k) := by
  have e1 : (liv m ow).map (·.2) = (List.range (m + 1)).filterMap fun j => ow.getD j none := by
    unfold liv
    rw [List.map_filterMap]
    congr 1
    funext j
    rw [Option.map_map]
    cases ow.getD j none <;> rfl
  have e2 : ow.toList.filterMap id = (List.range (m + 1)).filterMap fun j => ow.getD j none := by
    have : ow.toList = (List.range (m + 1)).map fun j => ow.getD j none := by
      apply List.ext_getElem
      · rw [List.length_map, List.length_range, Array.length_toList, o.size]
      · intro i h1 h2
        have h1' : i < ow.size := by simpa using h1
        rw [List.getElem_map, List.getElem_range]
        simp [Array.getD, h1']
    rw [this, List.filterMap_map]; rfl
  rw [e1, ← e2]
  exact o.perm
theorem liv_up (m : Nat) (ow : Array (Option Nat)) : ((liv m ow).map (·.1)).Pairwise (· < ·) ∧ ∀ j ∈ (liv m ow).map (·.1), j ≤ m := by
  constructor
  · rw [List.pairwise_map]
    unfold liv
    rw [List.pairwise_filterMap]
    refine List.pairwise_lt_range.imp ?_
    intro a b hab x hx y hy
    obtain ⟨u, _, rfl⟩ := Option.map_eq_some_iff.mp hx
    obtain ⟨v, _, rfl⟩ := Option.map_eq_some_iff.mp hy
    exact hab
  · intro j hj
    obtain ⟨p, hp, rfl⟩ := List.mem_map.mp hj
    obtain ⟨a, ha, e⟩ := List.mem_filterMap.mp hp
    obtain ⟨u, _, rfl⟩ := Option.map_eq_some_iff.mp e
    have := List.mem_range.mp ha
    show a ≤ m
    trivial
theorem len_fm {α β : Type} (f : α → Option β) : ∀ (l : List α), (∀ x ∈ l, (f x).isSome = true) → (l.filterMap f).length = l.length
  | [], _ => rfl
  | x :: l, h => by
    obtain ⟨b, hb⟩ := Option.isSome_iff_exists.mp (h x List.mem_cons_self)
    rw [List.filterMap_cons_some hb, List.length_cons, List.length_cons, len_fm f l fun y hy => h y (List.mem_cons_of_mem _ hy)]
theorem relay_ok {t : SetTable} {es : Array (Int × Value)} (o : Ok t es.size) (hfull : t.tooFull = true) (hn : es.size ≤ 256) (hprev : (es.size - 1) * 5 < t.mask * 3) (hb : ∀ e ∈ es.toList, 0 ≤ e.1 ∧ e.1 ≤ 255) :
    ∃ es' t', relayAll t es (SetTable.grown es.size) = (es', t', false) ∧ Ok t' es'.size ∧ es'.size = es.size ∧ es'.size * 5 < t'.mask * 3 ∧ t'.led = t.led := by
  have hf : es.size * 5 ≥ t.mask * 3 := by
    unfold SetTable.tooFull SetTable.fill at hfull
    have := of_decide_eq_true hfull
    rw [o.size, o.dum] at this
    simpa using this
  obtain ⟨m', hm', hmm, hr⟩ : ∃ m', SetTable.sizeAbove (SetTable.grown es.size) - 1 = m' ∧ (m' = 7 ∨ m' = 31 ∨ m' = 127 ∨ m' = 511) ∧ es.size * 5 < m' * 3 := by
    have hg : SetTable.grown es.size = es.size * 4 := by unfold SetTable.grown; rw [if_neg (by trivial)]
    rw [hg]
    rcases o.mask with q | q | q | q <;> rw [q] at hf hprev
    · have : es.size = 5 := by trivial
      rw [this]
      exact ⟨31, by decide, by decide, by decide⟩
    · have : es.size = 19 := by trivial
      rw [this]
      exact ⟨127, by decide, by decide, by decide⟩
    · have : es.size = 77 := by trivial
      rw [this]
      exact ⟨511, by decide, by decide, by decide⟩
    · trivial
  obtain ⟨ow, w1, w2⟩ := lay_clean hmm (es.map (·.1)) (by rw [Array.size_map]; trivial) (fun h hh => by
    rw [Array.toList_map] at hh
    obtain ⟨e, he, rfl⟩ := List.mem_map.mp hh
    exact hb e he)
  rw [Array.size_map] at w2
  have hsn := w2.snd
  obtain ⟨u1, u2⟩ := liv_up m' ow
  have hll : (liv m' ow).length = es.size := by
    have := hsn.length_eq
    rw [List.length_map, List.length_range] at this
    exact this
  have hre : t.relaid (es.map (·.1)) (SetTable.grown es.size) = some ({ mask := m', place := ((liv m' ow).map (·.1)).toArray, dummies := #[], finger := t.finger, led := t.led, moves := t.movedTo m', plain := t.plain }, ((liv m' ow).map (·.2)).toArray) := by
    unfold SetTable.relaid SetTable.laid
    rw [hm', w1]; rfl
  have hes : (((liv m' ow).map (·.2)).toArray.filterMap (es[·]?)).size = es.size := by
    rw [← Array.length_toList, Array.toList_filterMap, len_fm]
    · rw [List.length_map]; exact hll
    · intro i hi
      have hi := List.mem_range.mp (hsn.mem_iff.mp hi)
      rw [Array.getElem?_eq_getElem hi]; rfl
  have hfit : ({ mask := m', place := ((liv m' ow).map (·.1)).toArray, dummies := #[], finger := t.finger, led := t.led, moves := t.movedTo m', plain := t.plain } : SetTable).fits (((liv m' ow).map (·.2)).toArray.filterMap (es[·]?)).size = true := by
    unfold SetTable.fits SetTable.fill
    dsimp only
    rw [hes]
    simp [hll]
    trivial
  have hcov : coversAll ((liv m' ow).map (·.2)).toArray es.size = true := by
    unfold coversAll
    rw [List.isPerm_iff]
    exact hsn
  refine ⟨((liv m' ow).map (·.2)).toArray.filterMap (es[·]?), { mask := m', place := ((liv m' ow).map (·.1)).toArray, dummies := #[], finger := t.finger, led := t.led, moves := t.movedTo m', plain := t.plain }, ?_, ⟨hmm, ?_, ?_, rfl, ?_, ?_, o.plain⟩, hes, by rw [hes]; exact hr, rfl⟩
  · unfold relayAll
    rw [hre]
    dsimp only
    rw [hcov, hfit]
    rfl
  · rw [hes]; simp [hll]
  · rw [hes]; show es.size ≤ m'; trivial
  · exact u1
  · exact u2
end ST
set_option Elab.async false
set_option linter.all false
set_option maxRecDepth 100000
set_option maxHeartbeats 4000000
namespace ST
open PySem PyProof.Rows
noncomputable def kOf (e : Int × Value) : Int := match e.2 with | .int k _ => k | _ => 0
noncomputable def Good (e : Int × Value) : Prop := ∃ k t, e = (hashInt k, .int k t) ∧ 0 ≤ k ∧ k ≤ 255
theorem hash_small {k : Int} (h0 : 0 ≤ k) (h1 : k ≤ 255) : hashInt k = k := by
  obtain ⟨n, rfl⟩ : ∃ n : Nat, k = (n : Int) := ⟨k.toNat, by trivial⟩
  have : ∀ n : Nat, n < 256 → hashInt (n : Int) = (n : Int) := by decide +kernel
  exact this n (by trivial)
structure W (h : Heap) (a : Addr) (led : Bool) (ns : List Int) : Prop where
  ex : ∃ o es ep t, h.get? a = some o ∧ o.ExactSet ∧ o.data = .set es ep t ∧ (∀ e ∈ es.toList, Good e) ∧ (es.toList.map kOf).Perm ns ∧ Ok t es.size ∧ es.size * 5 < t.mask * 3 ∧ t.led = led
  nd : ns.Nodup
  rg : ∀ k ∈ ns, 0 ≤ k ∧ k ≤ 255
theorem small_len {ns : List Int} (nd : ns.Nodup) (rg : ∀ k ∈ ns, 0 ≤ k ∧ k ≤ 255) : ns.length ≤ 256 := by
  have nd2 : (ns.map Int.toNat).Nodup := by
    unfold List.Nodup at nd ⊢
    rw [List.pairwise_map]
    refine List.Pairwise.imp_of_mem ?_ nd
    intro a b ha hb hab z
    have := rg a ha
    have := rg b hb
    exact hab (by trivial)
  have sub : ns.map Int.toNat ⊆ List.range 256 := fun x hx => by
    obtain ⟨k, hk, rfl⟩ := List.mem_map.mp hx
    have := rg k hk
    exact List.mem_range.mpr (by trivial)
  have := List.Nodup.length_le_of_subset nd2 sub
  rw [List.length_map, List.length_range] at this
  exact this
section
variable {prog : Program} {w : World} {A : Around} {E : Value → Shared → Prop} {s : Shared}
theorem elems {es : List (Int × Value)} (g : ∀ e ∈ es, Good e) : ElemsOf (intKind prog w) es := fun e he => by
  obtain ⟨k, t, rfl, _⟩ := g e he
  exact ⟨⟨k, intKind_is _ _ _ _, rfl⟩, rfl⟩
theorem add_W {a : Addr} {led : Bool} {ns : List Int} {k : Int} {tk : Tok} {Q : Bool → Shared → Prop} (hW : W s.heap a led ns) (h0 : 0 ≤ k) (h1 : k ≤ 255)
    (hQ : ∀ b h', Heap.SameBut a s.heap h' → W h' a led (if k ∈ ns then ns else k :: ns) → Q b { s with heap := h' }) :
    wpAny (model prog w) A (setAddHashed a (.int k tk) (hashInt k)) Q E s := by
  obtain ⟨⟨ob, es, ep, t, go, gx, gd, gg, gp, gk, gr, gl⟩, nd, rg⟩ := hW
  have gf : t.fits es.size = true := by
    unfold SetTable.fits SetTable.fill
    rw [gk.size, gk.dum]
    have := gk.fit
    simp
    exact this
  have gl2 := gp.length_eq
  rw [List.length_map, Array.length_toList] at gl2
  have gs : es.size ≤ 256 := by rw [gl2]; exact small_len nd rg
  have hel : ElemsOf (intKind prog w) es.toList := elems gg
  unfold setAddHashed setAddHashedIn
  refine wpAny_holding (wpAny_bind (wpAny_setState_of go gd gf ?_))
  dsimp only
  rw [byScan_of (knd := intKind prog w) rfl (by unfold scanBound; trivial) hel]
  simp only [↓reduceIte]
  unfold setAddByScan
  refine wpAny_bind ?_
  refine wpAny_bind (wpAny_rule ?_)
  refine wpAny_bind (wpAny_setScan_of (knd := intKind prog w) (k := k) (intKind_is _ _ _ _) go gd gf hel ?_)
  have mem_iff : (∃ e ∈ es.toList, (intKind prog w).is k e.2 = true) ↔ k ∈ ns := by
    constructor
    · rintro ⟨e, he, hk⟩
      obtain ⟨k', t', rfl, _⟩ := gg e he
      have : k = k' := (intKind prog w).inj _ _ _ hk (intKind_is _ _ _ _)
      rw [this]
      exact gp.mem_iff.mp (List.mem_map.mpr ⟨_, he, rfl⟩)
    · intro hk
      obtain ⟨e, he, e2⟩ := List.mem_map.mp (gp.mem_iff.mpr hk)
      obtain ⟨k', t', rfl, _⟩ := gg e he
      have e2 : k' = k := e2
      subst e2
      exact ⟨_, he, intKind_is _ _ _ _⟩
  cases hr : List.findIdx? (fun e => (intKind prog w).is k e.2) es.toList with
  | some j =>
    dsimp only
    obtain ⟨hj, hpj, _⟩ := List.findIdx?_eq_some_iff_getElem.mp hr
    have hk : k ∈ ns := mem_iff.mp ⟨_, List.getElem_mem hj, hpj⟩
    refine wpAny_pure (wpAny_pure ?_)
    have := hQ false s.heap (Heap.SameBut.refl a s.heap) (by rw [if_pos hk]; exact ⟨⟨ob, es, ep, t, go, gx, gd, gg, gp, gk, gr, gl⟩, nd, rg⟩)
    exact this
  | none =>
    dsimp only
    have hk : k ∉ ns := fun z => by
      obtain ⟨e, he, hp⟩ := mem_iff.mpr z
      have := List.findIdx?_eq_none_iff.mp hr e he
      rw [hp] at this; cases this
    have nd2 : (k :: ns).Nodup := List.nodup_cons.mpr ⟨hk, nd⟩
    have rg2 : ∀ x ∈ k :: ns, 0 ≤ x ∧ x ≤ 255 := fun x hx => by
      rcases List.mem_cons.mp hx with h | h
      · rw [h]; exact ⟨h0, h1⟩
      · exact rg x h
    have hlen := small_len nd2 rg2
    rw [List.length_cons] at hlen
    have hh := hash_small h0 h1
    obtain ⟨es1, t1, l1, l2, l3, l4, l5⟩ := lay_ok gk (by rcases gk.mask with q | q | q | q <;> rw [q] at gr ⊢ <;> trivial) (h := hashInt k) (by rw [hh]; exact h0) (by rw [hh]; exact h1) (.int k tk)
    have lp := layNew_perm t es (hashInt k) (.int k tk)
    rw [l1] at lp ⊢
    dsimp only at lp ⊢
    rw [Array.toList_push] at lp
    have gg1 : ∀ e ∈ es1.toList, Good e := fun e he => by
      rcases List.mem_append.mp (lp.mem_iff.mp he) with h | h
      · exact gg e h
      · rw [List.mem_singleton.mp h]; exact ⟨k, tk, rfl, h0, h1⟩
    have gp1 : (es1.toList.map kOf).Perm (k :: ns) := by
      refine (lp.map kOf).trans ?_
      rw [List.map_append]
      exact (List.perm_append_singleton _ _).trans (gp.cons k)
    have go1 : (s.heap.update a (Obj.putSet es1 t1)).get? a = some { ob with data := .set es1 (ep + 1) t1 } := by
      have q := Heap.get?_update_self (Obj.putSet es1 t1) go (by rw [putSet_of es1 t1 gd]; rfl)
      rw [putSet_of es1 t1 gd] at q
      exact q
    have sb1 := Heap.SameBut.update s.heap a (Obj.putSet es1 t1)
    refine wpAny_bind (wpAny_pure ?_)
    rw [if_pos l2.plain]
    refine wpAny_bind ?_
    rw [hashByValue_scannable 8 rfl]
    refine wpAny_pure ?_
    simp only [plainKind, ↓reduceIte]
    refine wpAny_bind (wpAny_storeSet_of go gd ?_ (fits_of_scanBound (by unfold scanBound; trivial)))
    rw [if_neg hk] at hQ
    by_cases full : t1.tooFull = true
    · rw [full]
      simp only [Bool.not_false, Bool.and_self, ↓reduceIte]
      obtain ⟨es2, t2, r1, r2, r3, r4, r5⟩ := relay_ok l2 full (by trivial) (by rw [l3, l4]; simpa using gr) (fun e he => by
        obtain ⟨k', t', rfl, b0, b1⟩ := gg1 e he
        show 0 ≤ hashInt k' ∧ hashInt k' ≤ 255
        rw [hash_small b0 b1]; exact ⟨b0, b1⟩)
      have rp := relayAll_perm t1 es1 (SetTable.grown es1.size)
      rw [r1] at rp ⊢
      dsimp only at rp ⊢
      refine wpAny_bind (wpAny_pure ?_)
      have go2 : ((s.heap.update a (Obj.putSet es1 t1)).update a (Obj.putSet es2 t2)).get? a = some { ob with data := .set es2 (ep + 1 + 1) t2 } := by
        have q := Heap.get?_update_self (Obj.putSet es2 t2) go1 (by rw [putSet_of es2 t2 rfl]; rfl)
        rw [putSet_of es2 t2 rfl] at q
        exact q
      refine wpAny_bind (wpAny_storeSet_of go1 rfl ?_ (fits_of_scanBound (by unfold scanBound; trivial)))
      refine wpAny_pure (wpAny_pure ?_)
      exact hQ true _ (sb1.trans (Heap.SameBut.update _ a _)) ⟨⟨_, es2, _, t2, go2, gx, rfl, fun e he => gg1 e (rp.mem_iff.mp he), (rp.map kOf).trans gp1, r2, r4, by rw [r5, l5]; exact gl⟩, nd2, rg2⟩
    · have full' : t1.tooFull = false := by simpa using full
      rw [full']
      simp only [Bool.not_false, Bool.and_false, Bool.false_eq_true, ↓reduceIte]
      refine wpAny_pure (wpAny_pure ?_)
      refine hQ true _ sb1 ⟨⟨_, es1, _, t1, go1, gx, rfl, gg1, gp1, l2, ?_, by rw [l5]; exact gl⟩, nd2, rg2⟩
      unfold SetTable.tooFull SetTable.fill at full'
      have := of_decide_eq_false full'
      rw [l2.size, l2.dum] at this
      simp at this
      trivial
end
end ST
set_option Elab.async false
set_option linter.all false
set_option maxRecDepth 100000
set_option maxHeartbeats 4000000
namespace ST
open PySem PyProof.Rows
noncomputable def led0 (w : World) : Bool := !w.params.followText "set-order"
noncomputable def newO (w : World) : Obj := { cls := .type "set", dict := none, data := .set #[] 0 (.fresh 0 0 (led0 w)) }
theorem W.at {h h' : Heap} {a : Addr} {led : Bool} {ns : List Int} (x : W h a led ns) (k : ∀ o, h.get? a = some o → h'.get? a = some o) : W h' a led ns := by
  obtain ⟨⟨o, es, ep, t, go, r⟩, nd, rg⟩ := x
  exact ⟨⟨o, es, ep, t, k _ go, r⟩, nd, rg⟩
theorem W.new {w : World} {h : Heap} {a : Addr} (e : h.get? a = some (newO w)) : W h a (led0 w) [] :=
  ⟨⟨_, #[], 0, _, e, ⟨rfl, rfl, rfl⟩, rfl, (fun e he => by cases he), .refl _, ⟨.inl rfl, rfl, Nat.zero_le _, rfl, List.Pairwise.nil, (fun j hj => by cases hj), rfl⟩, (show 0 * 5 < 7 * 3 by decide), rfl⟩, List.nodup_nil, fun k hk => by cases hk⟩
section
variable {prog : Program} {w : World} {A : Around} {R : Result → Shared → Prop} {I : Addr} {fp wr : List Addr} {G : Array GenState → Array GenState → Prop} {n : Nat} {P : Nat → Value → Prop} {St : Nat → Shared → Prop}
theorem loop_W (Wk : WalksS prog w A.in1 I fp wr G n P St) (S : Addr) (hSf : S ∉ fp) (led : Bool) (val : Nat → Int) (hval : ∀ i v, P i v → ∃ t, v = .int (val i) t) (hrg : ∀ i, i < n → 0 ≤ val i ∧ val i ≤ 255) :
    ∀ (k i : Nat) (s : Shared) (ns : List Int), n - i = k → i ≤ n → St i s → W s.heap S led ns →
      (∀ s' ns', Moved (S :: wr) G s s' → W s'.heap S led ns' → (∀ x, x ∈ ns' ↔ x ∈ ns ∨ ∃ j, i ≤ j ∧ j < n ∧ x = val j) → R (.ok (.ret .none)) s') →
      codeAny (model prog w) A (.builtin "set.update.loop" ⟨[.ref S, .ref I], []⟩) R s := by
  have nw : S ∉ wr := fun z => hSf (Wk.sub _ z)
  have sub : ∀ b ∈ wr, b ∈ S :: wr := fun b z => List.mem_cons_of_mem _ z
  intro k
  induction k with
  | zero =>
    intro i s ns hk hi st hW hR
    have e : i = n := by trivial
    subst e
    refine codeAny_builtin PyProof.Rows.F.entry_set_update_loop ?_
    rw [Around.under_plainId PyProof.Rows.F.plain_set_update_loop _]
    show wpAny _ A.in1 (pyNext (.ref I) >>= _) _ _ s
    refine wpAny_bind (Wk.done s _ _ st fun s' mv => ?_)
    exact wpAny_pure (hR s' ns (mv.mono sub) (hW.at fun o e => mv.heap S _ nw e) fun x => ⟨.inl, fun z => z.elim id fun ⟨j, a, b, _⟩ => by trivial⟩)
  | succ k ih =>
    intro i s ns hk hi st hW hR
    have lt : i < n := by trivial
    refine codeAny_builtin PyProof.Rows.F.entry_set_update_loop ?_
    rw [Around.under_plainId PyProof.Rows.F.plain_set_update_loop _]
    show wpAny _ A.in1 (pyNext (.ref I) >>= _) _ _ s
    refine wpAny_bind (Wk.item i s _ _ lt st fun v s' hp st' mv => ?_)
    obtain ⟨tk, rfl⟩ := hval i v hp
    obtain ⟨v0, v1⟩ := hrg i lt
    have hW' : W s'.heap S led ns := hW.at fun o e => mv.heap S _ nw e
    show wpAny _ A.in1 (holding [Value.int (val i) tk] (setAdd S (.int (val i) tk)) >>= _) _ _ s'
    refine wpAny_bind (wpAny_holding ?_)
    unfold setAdd
    refine wpAny_holding ?_
    refine wpAny_bind ((intKind prog w).pyHash (k := val i) (intKind_is _ _ _ _) ?_)
    refine add_W (s := { s' with toks := s'.toks + 1 }) hW' v0 v1 fun b h' sb hW2 => ?_
    refine wpAny_pure ⟨plainId_quiet PyProof.Rows.F.plain_set_update_loop _, ih (i + 1) _ _ (by trivial) lt (Wk.frame _ s' _ _ st' (Nat.le_succ _) fun c hc o e => ?_) hW2 fun s'' ns' mv2 hW3 hx => ?_⟩
    · rw [sb.2 c fun z : c = S => hSf (by rw [← z]; exact hc)]; exact e
    · refine hR s'' ns' (Moved.trans Wk.gtrans ((mv.mono sub).then_heap (Nat.le_succ _) fun c o hc e => ?_) mv2) hW3 fun x => ?_
      · rw [sb.2 c fun z : c = S => hc (by rw [z]; exact List.mem_cons_self)]; exact e
      · rw [hx x]
        constructor
        · rintro (z | ⟨j, a, b, c⟩)
          · by_cases q : val i ∈ ns
            · rw [if_pos q] at z; exact .inl z
            · rw [if_neg q] at z
              rcases List.mem_cons.mp z with z | z
              · exact .inr ⟨i, Nat.le_refl _, lt, z⟩
              · exact .inl z
          · exact .inr ⟨j, by trivial, b, c⟩
        · rintro (z | ⟨j, a, b, c⟩)
          · left
            split
            · exact z
            · exact List.mem_cons_of_mem _ z
          · by_cases q : j = i
            · left
              subst q
              rw [c]
              split
              · assumption
              · exact List.mem_cons_self
            · exact .inr ⟨j, by trivial, b, c⟩
end
section
variable {prog : Program} {w : World} {A : Around} {E : Value → Shared → Prop} {s : Shared}
theorem new_W (a : Value) {Q1 : Value → Shared → Prop} (q : Q1 (.ref s.heap.objs.size) { s with heap := s.heap.push (newO w) }) :
    codeAny (model prog w) A (.call (.builtin "set.__new__") ⟨[.type "set", a], []⟩) (wants Q1 E) s := by
  refine codeAny_of_tree ?_
  show wpAny _ A.in1 (do checkBuiltinCall "set.__new__" ⟨[.type "set", a], []⟩; again (.builtin "set.__new__" ⟨[.type "set", a], []⟩)) _ _ s
  refine wpAny_bind (wpAny_of_eq (PySem.F.newCall_set_1 a) (wpAny_pure ⟨plainId_quiet PySem.F.plain_set_new _, codeAny_builtin PySem.F.entry_set_new ?_⟩))
  rw [Around.under_plainId PySem.F.plain_set_new _]
  unfold Builtin.«set.__new__» Builtin.Frozenset.newClass
  have su := sub_set_self
  obtain ⟨hp, g, d, tk, os⟩ := s
  dsimp only
  wp_walk
  refine wpAny_askSetting (wpAny_pure ?_)
  dsimp only
  simp only [newObj]
  refine wpAny_bind (wpAny_alloc (wpAny_pure ?_))
  exact wpAny_pure q
theorem call_W {l : Addr} {items : Array Value} {ns : List Int} {Q : Value → Shared → Prop} (hh : A.handled = none) (hl : s.heap.IsList l items) (hi : IntsAre items.toList ns) (hr : ∀ x ∈ ns, 0 ≤ x ∧ x ≤ 255)
    (q : ∀ (h' : Heap) (tk : Nat) (ks : List Int), W h' s.heap.objs.size (led0 w) ks → (∀ x, x ∈ ks ↔ x ∈ ns) → (∀ b o, b < s.heap.objs.size → s.heap.get? b = some o → h'.get? b = some o) → Q (.ref s.heap.objs.size) { s with heap := h', toks := tk }) :
    wpAny (model prog w) A (call (.type "set") [.ref l]) Q E s := by
  obtain ⟨c, tl, hmro⟩ := PySem.F.called_set.mro
  have hmade := PySem.F.called_set.made
  have hsub := PySem.F.called_set.sub
  refine wpAny_call (codeAny_of_tree ?_)
  show wpAny _ _ (callAny (.type "set") _) _ _ _
  refine wpAny_pure ⟨Code.quiet_builtin _ (by decide +kernel), codeAny_builtin PySem.F.entry_type_call ?_⟩
  rw [Around.under_plain (weight_type_call_type "set" [.ref l] []) rfl]
  have c1 := PySem.F.called_set.notType
  have c2 := PySem.F.called_set.canCreate
  have c3 := PySem.F.typeCall_set_1 (.ref l)
  repeat (any_goals (first | assumption | wp_step))
  refine codeAny_mono (new_W (.ref l) (E := E) (Q1 := fun obj s1 => obj = .ref s.heap.objs.size ∧ s1 = { s with heap := s.heap.push (newO w) }) ⟨rfl, rfl⟩) fun r s1 hr1 => ?_
  cases r with
  | error e => exact hr1
  | ok fl =>
    cases fl with
    | ret obj =>
      obtain ⟨rfl, rfl⟩ := hr1
      have gS : (s.heap.push (newO w)).get? s.heap.objs.size = some (newO w) := Heap.get?_push_size _ rfl
      have gT : Shared.TypeIs { s with heap := s.heap.push (newO w) } (.ref s.heap.objs.size) "set" := ⟨_, gS, rfl⟩
      have c4 := PySem.F.called_set.init.lookup
      have c5 := PySem.F.called_set.init.bind (.ref s.heap.objs.size)
      repeat (any_goals (first | assumption | wp_step))
      refine codeAny_mono (codeAny_call_builtin (R := wants (fun r s2 => r = .none ∧ ∃ h' tk ks, s2 = { s with heap := h', toks := tk } ∧ W h' s.heap.objs.size (led0 w) ks ∧ (∀ x, x ∈ ks ↔ x ∈ ns) ∧ (∀ b o, b < s.heap.objs.size → s.heap.get? b = some o → h'.get? b = some o)) E)
        PySem.F.called_set.init.plain PySem.F.entry_set_init (check_set_init_1 gT ?_)) fun r2 s2 hr2 => ?_
      · obtain ⟨ol, gol, ocl, nl, odl⟩ := hl
        obtain ⟨ocls, odict, odata, oslots⟩ := ol
        simp only at ocl odl
        subst ocl; subst odl
        have gol' : (s.heap.push (newO w)).get? l = some { cls := .type "list", dict := odict, data := .seq items nl, slots := oslots } := Heap.get?_push_of_some _ gol
        have d1 := PySem.F.sub_list_set
        have d2 := PySem.F.sub_list_frozenset
        have d3 : (Value.type "list" == Value.type "dict") = false := by decide
        have isl : (s.heap.push (newO w)).IsList l items := ⟨_, gol', rfl, nl, rfl⟩
        unfold Builtin.«set.__init__» noKeywords Builtin.Frozenset.updateFrom
        generalize hPI : pyIter = PI
        wp_walk
        subst hPI
        refine wpAny_pyIter_list isl ?_
        refine wpAny_bind (wpAny_runValue ?_)
        have ltS : l < s.heap.objs.size := Heap.lt_size gol
        have hh3 : A.in1.in1.in1.handled = none := by simp [hh]
        have neI : l ≠ (s.heap.push (newO w)).objs.size := by rw [Heap.size_push]; exact Nat.ne_of_lt (Nat.lt_succ_of_lt ltS)
        have nfp : s.heap.objs.size ∉ [(s.heap.push (newO w)).objs.size, l] := by
          rw [Heap.size_push]
          simp only [List.mem_cons, List.not_mem_nil, or_false, not_or]
          exact ⟨Nat.ne_of_lt (Nat.lt_succ_self _), Nat.ne_of_gt ltS⟩
        have lenE : items.size = ns.length := by
          have := (L2.intsAre_vals hi).length
          rw [List.length_map, Array.length_toList] at this
          exact this.symm
        have isv : ∀ (i : Nat) (v : Value), items[i]? = some v → ∃ t, v = .int (ns.getD i 0) t := fun i v e => IntsAre.int_at hi i v (by rw [Array.getElem?_toList]; exact e)
        refine loop_W ((Walks.list hh3 _ l neI items).toS) s.heap.objs.size nfp (led0 w) (fun i => ns.getD i 0) isv (fun i hi' => ?_) (items.size - 0) 0 _ [] (by trivial) (Nat.zero_le _)
          ⟨⟨_, Heap.get?_push_size _ rfl, rfl, rfl⟩, (isl.push _)⟩ (W.new (Heap.get?_push_of_some _ gS)) ?_
        · rw [lenE] at hi'
          have : ns.getD i 0 ∈ ns := by
            rw [List.getD_eq_getElem?_getD, List.getElem?_eq_getElem hi']
            exact List.getElem_mem hi'
          exact hr _ this
        intro s' ks mv hW hx
        obtain ⟨h', g', d', tk', os'⟩ := s'
        have eg : g' = s.gens := mv.gens
        have ed : d' = s.drawn := mv.drawn
        have eo : os' = s.os := mv.os
        subst eg; subst ed; subst eo
        show wpAny _ _ _ _ _ _
        refine wpAny_pure ?_
        refine wpAny_pure ⟨rfl, h', tk', ks, rfl, hW, fun x => ?_, fun b o hb e => ?_⟩
        · rw [hx x]
          constructor
          · rintro (z | ⟨j, _, b, e⟩)
            · cases z
            · rw [lenE] at b
              rw [e, List.getD_eq_getElem?_getD, List.getElem?_eq_getElem b]
              exact List.getElem_mem b
          · intro z
            obtain ⟨j, hj, e⟩ := List.mem_iff_getElem.mp z
            refine .inr ⟨j, Nat.zero_le _, by trivial, ?_⟩
            rw [List.getD_eq_getElem?_getD, List.getElem?_eq_getElem hj]
            exact e.symm
        · have nb1 : b ≠ s.heap.objs.size := Nat.ne_of_lt hb
          have nb2 : b ≠ (s.heap.push (newO w)).objs.size := by rw [Heap.size_push]; exact Nat.ne_of_lt (Nat.lt_succ_of_lt hb)
          exact mv.heap b o (by simp only [List.mem_cons, List.not_mem_nil, or_false, not_or]; exact ⟨nb1, nb2⟩) (Heap.get?_push_of_some _ (Heap.get?_push_of_some _ e))
      · cases r2 with
        | error e => exact hr2
        | ok fl2 =>
          cases fl2 with
          | ret r =>
            obtain ⟨rfl, h', tk, ks, rfl, hW, hx, hk'⟩ := hr2
            repeat (any_goals (first | assumption | wp_step))
            exact q _ _ ks hW hx hk'
          | _ => exact hr2.elim
    | _ => exact hr1.elim
end
end ST
set_option Elab.async false
set_option linter.all false
set_option maxRecDepth 100000
set_option maxHeartbeats 4000000
namespace ST
open PySem PyProof.Rows
theorem slot_nx : Slot "set_iterator" "__next__" "set_iterator.__next__" :=
  .of (owner := "set_iterator") (n := "__next__") (by rw [typeLookup_type, builtinLookup_eq_fast]; kernel_rfl) (by decide +kernel) (by decide +kernel) (by decide +kernel) (by first | exact .inl (by decide +kernel) | exact .inr (by decide +kernel)) (by rw [isSubtype_type]; kernel_rfl)
theorem slot_it : Slot "set_iterator" "__iter__" "set_iterator.__iter__" :=
  .of (owner := "set_iterator") (n := "__iter__") (by rw [typeLookup_type, builtinLookup_eq_fast]; kernel_rfl) (by decide +kernel) (by decide +kernel) (by decide +kernel) (by first | exact .inl (by decide +kernel) | exact .inr (by decide +kernel)) (by rw [isSubtype_type]; kernel_rfl)
theorem ent_nx : entryFor table "set_iterator.__next__" = some Builtin.«set_iterator.__next__» := entryFor_of_fast (by kernel_rfl)
theorem ent_it : entryFor table "set_iterator.__iter__" = some Builtin.«dict_keyiterator.__iter__» := entryFor_alias (id' := "dict_keyiterator.__iter__") (by kernel_rfl) rfl (by decide +kernel) (by kernel_rfl)
theorem ent_si : entryFor table "set.__iter__" = some Builtin.«frozenset.__iter__» := entryFor_alias (id' := "frozenset.__iter__") (by kernel_rfl) rfl (by decide +kernel) (by kernel_rfl)
theorem args_nx (a : Value) : argsOk "set_iterator.__next__" ⟨[a], []⟩ := by unfold argsOk; kernel_rfl
theorem args_it (a : Value) : argsOk "set_iterator.__iter__" ⟨[a], []⟩ := by unfold argsOk; kernel_rfl
theorem cons_erase {α : Type} : ∀ {l : List α} {i : Nat} (h : i < l.length), (l[i] :: l.eraseIdx i).Perm l
  | x :: l, 0, _ => .refl _
  | x :: l, i + 1, h => by
    have ih := cons_erase (l := l) (i := i) (by simpa using h)
    exact (List.Perm.swap _ _ _).trans (ih.cons x)
theorem pick_perm {α : Type} (nx : Nat → Nat) : ∀ (fuel k : Nat) (left : List α) (out : Array α), left.length ≤ fuel → (pickOrder.go nx fuel k left out).toList.Perm (out.toList ++ left)
  | 0, k, left, out, h => by
    have : left = [] := List.length_eq_zero_iff.mp (by trivial)
    subst this
    rw [List.append_nil]; exact .refl _
  | fuel + 1, k, left, out, h => by
    unfold pickOrder.go
    by_cases c : left = []
    · subst c
      rw [List.append_nil]; exact .refl _
    · have hl : nx k % left.length < left.length := Nat.mod_lt _ (List.length_pos_iff.mpr c)
      rw [List.getElem?_eq_getElem hl]
      dsimp only
      refine (pick_perm nx fuel (k + 1) _ _ (by rw [List.length_eraseIdx, if_pos hl]; trivial)).trans ?_
      rw [Array.toList_push, List.append_assoc]
      exact List.Perm.append_left _ (cons_erase hl)
noncomputable def ord (w : World) (S : Addr) (ep : Nat) (es : Array (Int × Value)) : Array (Int × Value) := if w.params.followText "set-order" = true then pickOrder (w.params.setOrder S ep) es else es
theorem ord_perm (w : World) (S : Addr) (ep : Nat) (es : Array (Int × Value)) : (ord w S ep es).toList.Perm es.toList := by
  unfold ord
  split
  · have := pick_perm (w.params.setOrder S ep) es.size 0 es.toList #[] (by simp)
    simpa [pickOrder] using this
  · exact .refl _
noncomputable def sl (w : World) (t : SetTable) (i : Nat) : Nat := if w.params.followText "set-order" = true then 0 else if i = 0 then 0 else t.place.getD (i - 1) 0 + 1
structure Fx (w : World) (o : Obj) (es : Array (Int × Value)) (ep : Nat) (t : SetTable) : Prop where
  ex : o.ExactSet
  dt : o.data = .set es ep t
  ok : Ok t es.size
  led : t.led = led0 w
theorem Fx.fits {w : World} {o : Obj} {es : Array (Int × Value)} {ep : Nat} {t : SetTable} (x : Fx w o es ep t) : t.fits es.size = true := by
  unfold SetTable.fits SetTable.fill
  rw [x.ok.size, x.ok.dum]
  have := x.ok.fit
  simp
  exact this
noncomputable def It (w : World) (S : Addr) (es : Array (Int × Value)) (ep : Nat) (t : SetTable) (I : Addr) (i : Nat) (h : Heap) : Prop :=
  ∃ o, h.get? I = some o ∧ o.cls = .type "set_iterator" ∧ o.data = .fields #[.int (sl w t i : Nat) 0, .int (i : Nat) 0, .ref S, .int (es.size : Nat) 0, .int (ep : Nat) 0]
section
variable {prog : Program} {w : World} {A : Around} {E : Value → Shared → Prop} {s : Shared} {S I : Addr} {o : Obj} {es : Array (Int × Value)} {ep : Nat} {t : SetTable}
theorem It.ty {i : Nat} (x : It w S es ep t I i s.heap) : s.TypeIs (.ref I) "set_iterator" := by
  obtain ⟨o, e, c, _⟩ := x
  exact ⟨o, e, c⟩
theorem next_W {i : Nat} {Q : Option (Value × Nat) → Shared → Prop} (x : Fx w o es ep t) (ho : s.heap.get? S = some o) (hi : i ≤ es.size)
    (q : Q (((ord w S ep es)[i]?).map fun e => (e.2, sl w t (i + 1))) s) : wpAny (model prog w) A (setNext S (sl w t i) i ep) Q E s := by
  unfold setNext
  refine wpAny_bind (wpAny_setState_of ho x.dt x.fits ?_)
  dsimp only
  unfold setsByText
  refine wpAny_bind (wpAny_bind (wpAny_askSetting (wpAny_pure ?_)))
  show wpAny (model prog w) A (if w.params.followText "set-order" = true then _ else _) Q E s
  by_cases c : w.params.followText "set-order" = true
  · have e1 : ord w S ep es = pickOrder (w.params.setOrder S ep) es := by unfold ord; rw [if_pos c]
    have e2 : ∀ k, sl w t k = 0 := fun k => by unfold sl; rw [if_pos c]
    rw [e1, e2] at q
    rw [e2, if_pos c, if_neg (by simp)]
    refine wpAny_bind ?_
    unfold setWalk
    refine wpAny_bind (wpAny_setState_of ho x.dt x.fits ?_)
    dsimp only
    unfold setsByText
    refine wpAny_bind (wpAny_bind (wpAny_askSetting (wpAny_pure ?_)))
    show wpAny (model prog w) A (if w.params.followText "set-order" = true then _ else _) _ E s
    rw [if_pos c]
    refine wpAny_bind (wpAny_askSetting (wpAny_pure ?_))
    exact wpAny_pure q
  · have e1 : ord w S ep es = es := by unfold ord; rw [if_neg c]
    have e2 : sl w t (i + 1) = t.place.getD i 0 + 1 := by unfold sl; rw [if_neg c, if_neg (by trivial)]; rfl
    have e3 : SetTable.below t.place (sl w t i) = i := by
      unfold sl
      rw [if_neg c]
      cases i with
      | zero =>
        rw [if_pos rfl]
        obtain ⟨_, b, _⟩ := below_spec x.ok.up 0
        rcases Nat.eq_zero_or_pos (SetTable.below t.place 0) with z | z
        · exact z
        · have := b 0 z
          trivial
      | succ k =>
        rw [if_neg (by trivial)]
        exact (below_at x.ok.up (by rw [x.ok.size]; trivial)).2
    rw [if_neg c, if_neg (fun z => by
      have z' : (!t.plain && decide (es.size > 1)) = true := z
      rw [x.ok.plain] at z'
      cases z')]
    refine wpAny_bind ?_
    show wpAny (model prog w) A (if (!t.led && !es.isEmpty) = true then _ else pure ()) _ E s
    rw [if_neg (by rw [x.led]; unfold led0; rw [Bool.eq_false_iff.mpr c]; exact Bool.false_ne_true)]
    refine wpAny_pure (wpAny_pure ?_)
    rw [e3]
    rw [e1, e2] at q
    by_cases hl : i < es.size
    · have hp : t.place[i]? = some (t.place.getD i 0) := by
        have h' : i < t.place.size := by rw [x.ok.size]; exact hl
        rw [Array.getElem?_eq_getElem h']
        simp [Array.getD, h']
      rw [Array.getElem?_eq_getElem hl] at q ⊢
      rw [hp]
      exact q
    · have : es[i]? = none := Array.getElem?_eq_none (by trivial)
      rw [this] at q ⊢
      exact q
theorem head_W {i : Nat} {Q : Option Value → Shared → Prop} (x : Fx w o es ep t) (ho : s.heap.get? S = some o) (y : It w S es ep t I i s.heap) (hi : i ≤ es.size)
    (q : match (ord w S ep es)[i]? with
      | some e => ∀ h', It w S es ep t I (i + 1) h' → Heap.SameBut I s.heap h' → Q (some e.2) { s with heap := h' }
      | none => A.handled = none ∧ ∀ h', Heap.ExtBut I s.heap h' → Q none { s with heap := h' }) : wpAny (model prog w) A (pyNext (.ref I)) Q E s := by
  obtain ⟨oi, gi, ci, di⟩ := id y
  unfold pyNext
  refine wpAny_bind (wpAny_attempt (wpAny_callSpecial?_slot (name := Str.ofString "__next__") y.ty slot_nx (wpAny_call_entry slot_nx y.ty ent_nx ?_ (args_nx _))))
  show wpAny _ _ (fieldsOf (.ref I) >>= _) _ _ s
  refine wpAny_bind (wpAny_fieldsOf gi di ?_)
  show wpAny _ _ (setEntries S >>= _) _ _ s
  refine wpAny_bind (wpAny_setEntries_of ho x.dt x.fits ?_)
  show wpAny _ _ (if (((es.size : Nat) : Int) != ((es.size : Nat) : Int)) = true then _ else _) _ _ s
  rw [if_neg (by simp)]
  show wpAny _ _ (setNext S (Int.toNat ((sl w t i : Nat) : Int)) (Int.toNat ((i : Nat) : Int)) (Int.toNat ((ep : Nat) : Int)) >>= _) _ _ s
  rw [Int.toNat_natCast, Int.toNat_natCast, Int.toNat_natCast]
  refine wpAny_bind (next_W x ho hi ?_)
  cases he : (ord w S ep es)[i]? with
  | some e =>
    rw [he] at q
    show wpAny _ _ (setField (.ref I) 0 (rawInt ((sl w t (i + 1) : Nat) : Int)) >>= _) _ _ s
    refine wpAny_bind (wpAny_setField gi di (by simp) ?_)
    have d1 := Obj.data_mapFields di (·.setIfInBounds 0 (rawInt ((sl w t (i + 1) : Nat) : Int)))
    have g1 := Heap.get?_update_self (Obj.mapFields (·.setIfInBounds 0 (rawInt ((sl w t (i + 1) : Nat) : Int)))) gi (Obj.isFreed_of_fields d1)
    have c1 : (Obj.mapFields (·.setIfInBounds 0 (rawInt ((sl w t (i + 1) : Nat) : Int))) oi).cls = .type "set_iterator" := (Obj.cls_mapFields ..).trans ci
    have b1 := Heap.SameBut.update s.heap I (Obj.mapFields (·.setIfInBounds 0 (rawInt ((sl w t (i + 1) : Nat) : Int))))
    generalize s.heap.update I (Obj.mapFields (·.setIfInBounds 0 (rawInt ((sl w t (i + 1) : Nat) : Int)))) = h1 at g1 b1 ⊢
    generalize Obj.mapFields (·.setIfInBounds 0 (rawInt ((sl w t (i + 1) : Nat) : Int))) oi = o1 at d1 g1 c1
    show wpAny _ _ (setField (.ref I) 1 (rawInt ((i : Int) + 1)) >>= _) _ _ _
    refine wpAny_bind (wpAny_setField g1 d1 (by simp) ?_)
    have d2 := Obj.data_mapFields d1 (·.setIfInBounds 1 (rawInt ((i : Int) + 1)))
    have g2 := Heap.get?_update_self (Obj.mapFields (·.setIfInBounds 1 (rawInt ((i : Int) + 1)))) g1 (Obj.isFreed_of_fields d2)
    refine wpAny_pure ⟨e.2, rfl, wpAny_pure (q _ ⟨_, g2, (Obj.cls_mapFields ..).trans c1, ?_⟩ (b1.trans (Heap.SameBut.update ..)))⟩
    rw [d2]
    simp [rawInt]
  | none =>
    rw [he] at q
    obtain ⟨hh, q⟩ := q
    show wpAny _ _ (setField (.ref I) 2 Value.none >>= _) _ _ s
    refine wpAny_bind (wpAny_setField gi di (by simp) ?_)
    show wpAny _ _ (newExc (.type "StopIteration") [] >>= _) _ _ _
    refine wpAny_bind ?_
    simp only [newExc, newTuple]
    refine wpAny_bind (wpAny_newObj_type ?_ (by size_fits))
    refine wpAny_bind (m := firstArgMember _ _) (wpAny_of_eq (a := Value.none) (by first | rfl | (simp only [firstArgMember]; rfl)) ?_)
    refine wpAny_newObj_type ?_ (by size_fits)
    simp only [raiseNew]
    refine wpAny_bind (wpAny_handled ?_)
    rw [show A.in1.handled = none from hh]
    refine wpAny_bind (wpAny_pure (wpAny_throw ?thr))
    refine wpAny_bind (wpAny_isInstance (T := "StopIteration") (b := true) ⟨_, Heap.get?_push_size _ rfl, rfl⟩ isSubtype_stop ?_)
    exact wpAny_pure (q _ (((Heap.SameBut.update ..).extBut.push _).push _))
theorem walk_W (hh : A.handled = none) (x : Fx w o es ep t) (ne : S ≠ I) :
    Walks prog w A I [I, S] [I] es.size (fun i v => ∃ e, (ord w S ep es)[i]? = some e ∧ v = e.2) (fun i h => It w S es ep t I i h ∧ h.get? S = some o) where
  sub := fun b hb => by simp at hb; simp [hb]
  frame := fun i h h' st k => by
    obtain ⟨⟨oi, gi, r⟩, go⟩ := st
    exact ⟨⟨oi, k I (by simp) _ gi, r⟩, k S (by simp) _ go⟩
  item := fun i s Q E hi st hQ => by
    have hs : (ord w S ep es).size = es.size := by
      have := (ord_perm w S ep es).length_eq
      simpa using this
    have hl : i < (ord w S ep es).size := by trivial
    refine head_W x st.2 st.1 (Nat.le_of_lt hi) ?_
    rw [Array.getElem?_eq_getElem hl]
    intro h' y b
    exact hQ _ h' s.toks ⟨_, by rw [Array.getElem?_eq_getElem hl], rfl⟩ ⟨y, by rw [b.2 S ne]; exact st.2⟩ fun c u hc e => by rw [b.2 c fun z => hc (by simp [z])]; exact e
  done := fun s Q E st hQ => by
    have hs : (ord w S ep es).size = es.size := by
      have := (ord_perm w S ep es).length_eq
      simpa using this
    refine head_W x st.2 st.1 (Nat.le_refl _) ?_
    rw [Array.getElem?_eq_none (by trivial)]
    exact ⟨hh, fun h' b => hQ h' s.toks fun c u hc e => b c u (fun z => hc (by simp [z])) e⟩
  self := fun i s Q E st q => by
    refine wpAny_pyIter_slot st.1.ty slot_it (wpAny_call_entry slot_it st.1.ty ent_it ?_ (args_it _))
    show wpAny _ _ (ret (.ref I)) _ _ s
    exact wpAny_pure ⟨_, rfl, "set_iterator", _, st.1.ty, slot_nx.lookup, q⟩
theorem ty_W (x : Fx w o es ep t) (ho : s.heap.get? S = some o) : s.TypeIs (.ref S) "set" := ⟨o, ho, x.ex.1⟩
theorem iter_W {Q : Value → Shared → Prop} (x : Fx w o es ep t) (ho : s.heap.get? S = some o)
    (q : Q (.ref s.heap.objs.size) { s with heap := s.heap.push { cls := .type "set_iterator", data := .fields #[.int 0 0, .int 0 0, .ref S, .int (es.size : Nat) 0, .int (ep : Nat) 0] } }) : wpAny (model prog w) A (pyIter (.ref S)) Q E s := by
  refine wpAny_pyIter_slot (ty_W x ho) PySem.F.slot_set_iter (wpAny_call_entry PySem.F.slot_set_iter (ty_W x ho) ent_si ?_ (PySem.F.args_set_iter_1 _))
  have nd : (!w.params.followText "set-order" && (!t.plain && decide (es.size > 1))) = false := by rw [x.ok.plain]; cases w.params.followText "set-order" <;> rfl
  show wpAny _ _ (Builtin.Frozenset.sizeOf S >>= _) _ _ s
  unfold Builtin.Frozenset.sizeOf
  refine wpAny_bind (wpAny_bind (wpAny_setEntries_of ho x.dt x.fits (wpAny_pure ?_)))
  unfold setDrawn
  refine wpAny_bind (wpAny_bind (wpAny_setState_of ho x.dt x.fits ?_))
  unfold setsByText
  refine wpAny_bind (wpAny_bind (wpAny_askSetting (wpAny_pure (wpAny_pure ?_))))
  show wpAny (model prog w) A.in1 (if (!w.params.followText "set-order" && (!t.plain && decide (es.size > 1))) = true then _ else _) _ _ s
  rw [nd, if_neg Bool.false_ne_true]
  refine wpAny_bind (wpAny_pure ?_)
  refine wpAny_bind (wpAny_setEpoch_of ho x.dt x.fits ?_)
  exact wpAny_bind (wpAny_newObj_type (wpAny_pure ⟨_, rfl, "set_iterator", _, ⟨_, Heap.get?_push_size _ rfl, rfl⟩, slot_nx.lookup, q⟩))
theorem hint_W {r : Addr} {Q : Bool → Shared → Prop} (hT : s.TypeIs (.ref r) "set") (h : Q false s) : wpAny (model prog w) A (Builtin.List.listLengthHint (.ref r)) Q E s := by
  unfold Builtin.List.listLengthHint
  refine wpAny_bind (wpAny_specialOf hT PySem.F.slot_set_len.lookup ?_)
  generalize hid : ("set.__len__" : String) = id0
  wp_delta
  rw [show splitId id0 = some ("set", "__len__") from by subst hid; decide +kernel]
  subst hid
  refine wpAny_bind (wpAny_isInstance (T := "set") (b := true) hT (by rw [isSubtype_type]; kernel_rfl) ?_)
  refine wpAny_ite_split (fun z => absurd z (by decide)) (fun _ => ?_)
  refine wpAny_ite_split (fun _ => ?_) (fun z => absurd (by decide +kernel) z)
  refine wpAny_bind (wpAny_typeOf hT ?_)
  exact wpAny_pure h
theorem src_W (x : Fx w o es ep t) : PySem.W.KdlSrc prog w "set" S S es.size (fun i v => ∃ e, (ord w S ep es)[i]? = some e ∧ v = e.2) (fun h => h.get? S = some o) where
  type := fun s ho => ty_W x ho
  there := fun h ho => ⟨Heap.lt_size ho, Heap.lt_size ho⟩
  keep := fun h h' ho k => k S (.inl rfl) o ho
  notList := by decide
  notTuple := by decide
  hint := fun A E s Q ho q => hint_W (ty_W x ho) q
  iter := fun A s hh ho => ⟨_, _, (fun E Q q => iter_W x ho q), walk_W hh x (Nat.ne_of_lt (Heap.lt_size ho)), ⟨⟨_, Heap.get?_push_size _ rfl, rfl, by show _ = Data.fields #[.int ((sl w t 0 : Nat) : Int) 0, _, _, _, _]; rw [show sl w t 0 = 0 by unfold sl; split <;> rfl]; rfl⟩, Heap.get?_push_of_some _ ho⟩⟩
end
end ST
set_option Elab.async false
set_option linter.all false
set_option maxRecDepth 100000
set_option maxHeartbeats 4000000
namespace L2
open PySem PySem.Spec PyProof.Rows PySem.W
section
variable {X : Cx}
noncomputable def rSortS (ns : List Int) (H : Hp) (Q : VK) : Prop := ∀ (ns' : List Int) (p : Addr), ns'.Pairwise (· < ·) → (∀ x, x ∈ ns' ↔ x ∈ ns) → H p = none → Q (.ref p) (upd H p (.lst (ns'.map V.int)))
noncomputable def tSortS (K : Frag) (te : TE) : TE := fun σ H Q => te σ H fun x H1 => ∃ (a : Addr) (ns : List Int), x = .ref a ∧ SqL K H1 a (ns.map V.int) ∧ (∀ z ∈ ns, 0 ≤ z ∧ z ≤ 255) ∧ rSortS ns H1 Q
theorem lt_of_le_nd : ∀ {l : List Int}, l.Pairwise (· ≤ ·) → l.Nodup → l.Pairwise (· < ·) := fun {l} h nd => (h.and nd).imp fun {a b} ⟨x, y⟩ => by trivial
theorem ints_of : ∀ {l : List (Int × Value)}, (∀ e ∈ l, ST.Good e) → IntsAre (l.map (·.2)) (l.map ST.kOf)
  | [], _ => .nil
  | e :: l, h => by
    obtain ⟨k, t, rfl, _⟩ := h e List.mem_cons_self
    exact .cons k t (ints_of fun x hx => h x (List.mem_cons_of_mem _ hx))
theorem sorted_set_end {pins : List (Addr × Obj)} {s : Shared} {σ : St} {H : Hp} {Q : VK} {ns ks : List Int} {S : Addr} (I : Inv X pins σ H s) (hh : X.A.in1.handled = none) (hW : ST.W s.heap S (ST.led0 X.w) ks) (hx : ∀ x, x ∈ ks ↔ x ∈ ns)
    (q : rSortS ns H Q) : wpAny (model X.prog X.w) X.A (call (.builtin "sorted") [.ref S]) (EP X pins σ Q) X.xe s := by
  obtain ⟨⟨o, es, ep, t, go, gx, gd, gg, gp, gk, gr, gl⟩, nd, rg⟩ := hW
  have fx : ST.Fx X.w o es ep t := ⟨gx, gd, gk, gl⟩
  have hks := ST.small_len nd rg
  have lenOf : ∀ {vs : List Value} {ms : List Int}, IntsAre vs ms → vs.length = ms.length := fun {vs ms} h => by
    have := (intsAre_vals h).length
    rw [List.length_map] at this
    exact this.symm
  have op := ST.ord_perm X.w S ep es
  have hol : (ST.ord X.w S ep es).size = es.size := by have := op.length_eq; simpa using this
  have hes : es.size ≤ 256 := by
    have := gp.length_eq
    rw [List.length_map, Array.length_toList] at this
    trivial
  have good : ∀ e ∈ (ST.ord X.w S ep es).toList, ST.Good e := fun e he => gg e (op.mem_iff.mp he)
  have hin := ints_of good
  have kp : ((ST.ord X.w S ep es).toList.map ST.kOf).Perm ks := (op.map _).trans gp
  have big : (256 : Nat) ≤ sizeLine := by decide
  refine TS.sorted_gen (kd := oneType') (O := TS.intOrd) (ky := TS.intKy) (S := fun p => ∃ n t, p.1 = .int n t) (V := fun vs => ∃ ms, IntsAre vs ms ∧ ms.Perm ks) (fun vs ⟨ms, hI, hp⟩ => by rw [lenOf hI, hp.length_eq]; trivial) (fun vs ⟨ms, hI, _⟩ v hv => hI.all v hv) (fun {E R} k => ?_) (fun vs s' ⟨ms, hI, _⟩ h2 _ {_ _ _} qq => kk_ints hI h2 qq) (fun s' _ => TS.cmp_int) (fun h1 h' tk vs out n ⟨ms, hI, hp⟩ k1 k2 e p rr => ?_)
  · refine kdu_collect (ST.src_W fx) hh go (by trivial) fun h' tk acc kk hacc => k h' tk acc.toList ?_ kk
    have ea : acc.toList = (ST.ord X.w S ep es).toList.map (·.2) := by
      apply List.ext_getElem
      · rw [List.length_map, Array.length_toList, Array.length_toList, hacc.1, hol]
      · intro i h1 h2
        have h1' : i < acc.size := by simpa using h1
        obtain ⟨e, e1, e2⟩ := hacc.2 i _ (Array.getElem?_eq_getElem h1')
        rw [List.getElem_map]
        have e3 : (ST.ord X.w S ep es).toList[i]? = some e := by rw [Array.getElem?_toList]; exact e1
        rw [List.getElem?_eq_getElem (by simpa using h2)] at e3
        rw [Option.some.inj e3, ← e2]
        simp
    exact ⟨_, by rw [ea]; exact hin, kp⟩
  · obtain ⟨ns', a1, a2, a3⟩ := TS.rises_ints hI p rr
    have I1 : Inv X pins σ H { s with heap := h1 } := I.kept (t' := s.toks) k1
    have pp := a2.trans hp
    refine ⟨.ref h1.objs.size, _, I1.laid (a := h1.objs.size) (o := .lst (ns'.map V.int)) (t' := tk) k2 (Nat.le_refl _) ?_, rfl, q ns' _ (lt_of_le_nd a3 (pp.nodup_iff.mpr nd)) (fun x => by rw [pp.mem_iff]; exact hx x) (I1.hok.fresh (Nat.le_refl _))⟩
    exact ⟨by rw [List.length_map, pp.length_eq]; trivial, out.toList, n, intsAre_vals a1, by rw [Array.toArray_toList]; exact e⟩
theorem boot_srt : bootBuiltins "sorted" = some (.builtin "sorted") := by decide +kernel
theorem boot_set' : bootBuiltins "set" = some (.type "set") := by decide +kernel
theorem pe_sortset {e : Expr} {te : TE} {p1 p2 pos1 pos2 : Pos} (hc : X.calm = true) (hg1 : Gl X "sorted") (hm1 : X.mg "sorted" = none) (hg2 : Gl X "set") (hm2 : X.mg "set" = none) (he : PE X e te)
    (h1 : starEach [.Call (.Name "set" p2) [e] [] pos2] X.env = (false, eval (.Call (.Name "set" p2) [e] [] pos2) X.env) :: starEach [] X.env := by rfl) (h2 : (backTo pos1 (starEach [] X.env)).any (·.1) = false := by rfl)
    (h3 : starEach [e] X.env = (false, eval e X.env) :: starEach [] X.env := by rfl) (h4 : (backTo pos2 (starEach [] X.env)).any (·.1) = false := by rfl) :
    PE X (.Call (.Name "sorted" p1) [.Call (.Name "set" p2) [e] [] pos2] [] pos1) (tSortS X.K te) := by
  intro pins s σ H Q I h
  have hh : X.A.in1.handled = none := I.ok.hd hc
  refine wpAny_Call_Name_kw (ld_blt I hg1 hm1 boot_srt ?_ (by decide) (by decide))
  refine PyProof.Rows.callWith_builtin1 ?_ h1 h2
  rw [h1]
  show wpAny _ _ (spliced ((false, eval (.Call (.Name "set" p2) [e] [] pos2) X.env) :: backTo pos1 (starEach [] X.env))) _ _ s
  refine Calls.spliced_cons ?_
  refine wpAny_Call_Name_kw (ld_blt I hg2 hm2 boot_set' ?_ (by decide) (by decide))
  refine PyProof.Rows.callWith_type1 ?_ h3 h4
  rw [h3]
  show wpAny _ _ (spliced ((false, eval e X.env) :: backTo pos2 (starEach [] X.env))) _ _ s
  refine Calls.spliced_cons (thn (he pins s σ H _ I h) fun u s1 ⟨x, H1, I1, r1, q1⟩ => ?_)
  refine Calls.spliced_nil ?_
  obtain ⟨a, ns, rfl, hq, hr, q⟩ := q1
  cases r1
  obtain ⟨its, r', pl, hz⟩ := I1.list hq
  refine ST.call_W (items := its.toArray) (ns := ns) hh pl.isList (by simpa using vals_intsAre r') hr fun h' tk ks hW hx hk => ?_
  refine Calls.spliced_nil ?_
  have kk : ∀ b o, s1.heap.get? b = some o → h'.get? b = some o := fun b o e => hk b o (Heap.lt_size e) e
  exact sorted_set_end (s := { s1 with heap := h', toks := tk }) (I1.kept kk) hh hW hx q
end
end L2
set_option Elab.async false
set_option linter.all false
set_option maxRecDepth 100000
namespace HT
open PySem PyProof.Rows
open AutoSeq1 (wpAny_loadPart')
open MeetsSeq MeetsSeq3 SeqAt
section
variable {prog : Program} {w : World} {A : Around} {E : Value → Shared → Prop} {s : Shared}
end
end HT
namespace L2
open PySem PySem.Spec PyProof.Rows PySem.W
section
variable {X : Cx}
end
end L2
set_option Elab.async false
set_option linter.all false
set_option maxRecDepth 100000
namespace L2
open PySem PySem.Spec PyProof.Rows PySem.W PySem.Calls Att
open PySem.Builtin.Int (intBits)
section
variable {X : Cx}
end
end L2
set_option Elab.async false
set_option linter.all false
set_option maxRecDepth 100000
namespace L2
open PySem PySem.Spec PyProof.Rows PySem.W
section
variable {X : Cx}
end
end L2
set_option Elab.async false
set_option linter.all false
set_option maxRecDepth 100000
namespace L2
open PySem PySem.Spec PyProof.Rows PySem.W
section
variable {X : Cx}
end
theorem atI_neg {α : Type} {xs : List α} {d : Nat} {i : Int} {v : α} (hi : i = -(d : Int)) (h1 : 1 ≤ d) (h2 : d ≤ xs.length) (h : xs[xs.length - d]? = some v) : atI xs i = some v := by
  have e : ixN xs.length i = some (xs.length - d) := by
    unfold ixN
    rw [if_neg (by trivial), if_pos (by trivial)]
    congr 1
    trivial
  unfold atI; rw [e]; exact h
end L2
namespace PH
open PySem L2 PySem.W
end PH
set_option Elab.async false
set_option linter.all false
set_option maxRecDepth 100000
namespace L2
open PySem PySem.Spec PyProof.Rows PySem.W
section
variable {X : Cx}
end
end L2
namespace L2
open PySem PySem.Spec PyProof.Rows PySem.W
section
variable {prog : Program} {w : World} {A : Around} {E : Value → Shared → Prop} {s : Shared}
end
section
variable {X : Cx} {pos : Pos}
end
end L2
set_option Elab.async false
set_option linter.all false
set_option maxRecDepth 100000
set_option maxHeartbeats 4000000
namespace PH
open PySem L2 PySem.W
theorem count_flat {f : Int → Nat} {x : Int} : ∀ {ks : List Int}, ks.Nodup → (flat (ks.map fun k => (k, ((f k : Nat) : Int)))).count x = if x ∈ ks then f x else 0
  | [], _ => by simp [flat]
  | k :: r, nd => by
    have nd' := List.nodup_cons.mp nd
    have ih := count_flat (f := f) (x := x) nd'.2
    show (List.replicate ((f k : Nat) : Int).toNat k ++ flat (r.map fun k => (k, ((f k : Nat) : Int)))).count x = _
    rw [List.count_append, ih, Int.toNat_natCast, List.count_replicate]
    by_cases e : k = x
    · subst e
      rw [if_neg nd'.1, if_pos (by simp), if_pos List.mem_cons_self]; rfl
    · rw [if_neg (by simpa using e)]
      by_cases h : x ∈ r
      · rw [if_pos h, if_pos (List.mem_cons_of_mem _ h), Nat.zero_add]
      · rw [if_neg h, if_neg (fun z => by rcases List.mem_cons.mp z with q | q; exact e q.symm; exact h q)]
theorem flat_cnts {ns : List Int} (hb : ∀ x ∈ ns, 0 ≤ x ∧ x ≤ 255) : (flat (cnts ns)).Perm ns := by
  rw [List.perm_iff_count]
  intro x
  rw [cnts_ks, count_flat (f := fun k => ns.count k) (ks_sorted ns).2]
  by_cases h : x ∈ ns
  · rw [if_pos ((mem_ks hb x).mpr h)]
  · rw [if_neg (fun z => h ((mem_ks hb x).mp z)), List.count_eq_zero.mpr h]
theorem cnts_rise {ns : List Int} (hb : ∀ x ∈ ns, 0 ≤ x ∧ x ≤ 255) : RiseC (cnts ns) := by
  rw [cnts_ks]
  refine ⟨?_, fun c hc => ?_⟩
  · rw [List.map_map]
    have : (ksOf ns).map ((fun c : Int × Int => c.1) ∘ fun k => (k, ((ns.count k : Nat) : Int))) = ksOf ns := by
      conv => rhs; rw [← List.map_id (ksOf ns)]
      rfl
    rw [this]
    exact strict (ks_sorted ns).1 (ks_sorted ns).2
  · obtain ⟨k, hk, rfl⟩ := List.mem_map.mp hc
    have hm := (mem_ks hb k).mp hk
    have h1 := hb k hm
    have h2 := List.count_pos_iff.mpr hm
    exact ⟨h1.1, h1.2, by show (1 : Int) ≤ ((ns.count k : Nat) : Int); trivial⟩
theorem cnts_sum {ns : List Int} (hb : ∀ x ∈ ns, 0 ≤ x ∧ x ≤ 255) : (tms (cnts ns)).sum = ns.length := by
  rw [← flat_len, (flat_cnts hb).length_eq]
theorem cnts_sumT {ns : List Int} (hb : ∀ x ∈ ns, 0 ≤ x ∧ x ≤ 255) : sumT (cnts ns) = (ns.length : Int) := by
  rw [sumT_nat (cnts_rise hb).ge, cnts_sum hb]
theorem cnts_tx {ns : List Int} (hb : ∀ x ∈ ns, 0 ≤ x ∧ x ≤ 255) : mlt 1 0 (tms (cnts ns)) = tx ns := by
  rw [← tx_flat (cnts_rise hb), tx_perm (flat_cnts hb)]
theorem cnts_have {ns : List Int} (hb : ∀ x ∈ ns, 0 ≤ x ∧ x ≤ 255) (hl : ns.length ≤ 400) : haveT (cnts ns) = true := by
  unfold haveT
  rw [areC_of (cnts_rise hb), decide_eq_true (by rw [cnts_sumT hb]; trivial)]; rfl
theorem cnts_few {ns : List Int} (hb : ∀ x ∈ ns, 0 ≤ x ∧ x ≤ 255) : (cnts ns).length ≤ 256 := by
  rw [cnts_ks, List.length_map]
  refine ST.small_len (ks_sorted ns).2 fun k hk => hb k ((mem_ks hb k).mp hk)
noncomputable def spShare : Sp := fun vs H Q _ => ∃ (a : Addr) (ns : List Int), vs = [.ref a] ∧ H a = some (lsI ns) ∧ ns.length ≤ 400 ∧ (∀ x ∈ ns, 0 ≤ x ∧ x ≤ 255) ∧
  ∀ (T C : Addr) (zs : List (Addr × Int × Int)) (H' : Hp), Same H H' → H' T = some (.tup [.ref C, .int (nm ns : Nat)]) → H C = none → Prs H' C zs → zs.map (·.2) = cnts ns → Q (.ref T) H'
noncomputable def spTbsN : Sp := fun vs H Q _ => ∃ (p : Addr) (zs : List (Addr × Int × Int)) (t : List Int), vs = [.ref p, .int (nm t : Nat)] ∧ Prs H p zs ∧ zs.length ≤ 300 ∧ haveT (zs.map (·.2)) = true ∧ t.Perm (flat (zs.map (·.2))) ∧
  ∀ (T : Addr) (H' : Hp), Same H H' → H T = none → H' T = some (lsI t) → Q (.ref T) H'
end PH
namespace PH
end PH
set_option Elab.async false
set_option linter.all false
set_option maxRecDepth 100000
namespace L2
open PySem PySem.Spec PyProof.Rows
section
variable {X : Cx}
end
end L2
set_option Elab.async false
set_option linter.all false
set_option maxRecDepth 100000
namespace L2
open PySem PySem.Spec PyProof.Rows PySem.W
section
variable {prog : Program} {w : World} {A : Around} {E : Value → Shared → Prop} {s : Shared} {a it : Addr} {es : Array DictEntry} {ep i : Nat}
noncomputable def RawD (h : Heap) (a : Addr) (es : Array DictEntry) (ep : Nat) : Prop := ∃ o, h.get? a = some o ∧ o.ExactDict ∧ o.data = .dict es ep
theorem iter_raw {Q : Value → Shared → Prop} (hs : (a == sysModules) = false) (x : RawD s.heap a es ep)
    (q : Q (.ref s.heap.objs.size) { s with heap := s.heap.push { cls := .type "dict_keyiterator", data := .fields #[.ref a, .int 0 0, .int es.size 0, .int ep 0] } }) : wpAny (model prog w) A (pyIter (.ref a)) Q E s := by
  obtain ⟨o, ho, hc, dat⟩ := x
  have T : s.TypeIs (.ref a) "dict" := ⟨o, ho, hc.1⟩
  refine wpAny_pyIter_slot T F.slot_dict_iter (wpAny_call_entry F.slot_dict_iter T F.entry_dict_iter ?_ (F.args_dict_iter_1 _))
  unfold Builtin.«dict.__iter__»
  refine wpAny_bind ?_
  unfold Builtin.Dict.dictSlotNone
  refine wpAny_bind (wpAny_notOrdered_dict T ?_)
  show wpAny _ _ (pure (Value.ref a)) _ _ s
  refine wpAny_pure ?_
  show wpAny _ _ (Builtin.Dict.showsAll a >>= _) _ _ s
  unfold Builtin.Dict.showsAll
  rw [if_neg (by rw [hs]; exact Bool.false_ne_true)]
  refine wpAny_bind (wpAny_pure (wpAny_bind (wpAny_dictEntries ho dat (wpAny_bind (wpAny_dictEpoch ho dat ?_)))))
  refine wpAny_bind (wpAny_newObj_type (wpAny_pure ?_))
  refine ⟨_, rfl, "dict_keyiterator", _, ⟨_, Heap.get?_push_size _ rfl, rfl⟩, F.slot_dict_keyiterator_next.lookup, ?_⟩
  simpa [rawInt] using q
theorem next_raw {Q : Option Value → Shared → Prop} (k : s.heap.IsKeyIter it a i es.size ep) (x : RawD s.heap a es ep) (hi : i < es.size)
    (q : ∀ h', h'.IsKeyIter it a (i + 1) es.size ep → Heap.SameBut it s.heap h' → Q (some es[i].key) { s with heap := h' }) : wpAny (model prog w) A (pyNext (.ref it)) Q E s := by
  obtain ⟨o, ho, hc, dat⟩ := id k
  obtain ⟨od, hod, _, dd⟩ := x
  have T := k.typeIs
  unfold pyNext
  refine wpAny_bind (wpAny_attempt (wpAny_callSpecial?_slot (name := Str.ofString "__next__") T F.slot_dict_keyiterator_next (wpAny_call_entry F.slot_dict_keyiterator_next T F.entry_dict_keyiterator_next ?_ (F.args_dict_keyiterator_next_1 _))))
  refine wpAny_bind (wpAny_pure (wpAny_bind (wpAny_bind ?_)))
  first
    | refine wpAny_bind (wpAny_typeNameOfWhole_keyiter T (wpAny_pure ?_))
    | refine wpAny_bind (wpAny_typeNameOf_keyiter T (wpAny_pure ?_))
  refine wpAny_bind (wpAny_fieldsOf ho dat ?_)
  have ow : Builtin.Dict_items.ownsTuple "dict_keyiterator" = false := by decide
  simp only [ow, Bool.false_eq_true, if_false]
  show wpAny _ _ (if (Value.ref a == Value.none) = true then _ else _) _ _ s
  rw [if_neg (show ¬ ((Value.ref a == Value.none) = true) from Bool.false_ne_true)]
  refine wpAny_bind (wpAny_pure (wpAny_bind (wpAny_dictEntries hod dd ?_)))
  rw [if_neg (by simp)]
  refine wpAny_bind (wpAny_pure (wpAny_bind (wpAny_dictEpoch hod dd ?_)))
  rw [if_neg (by simp)]
  refine wpAny_pure ?_
  simp only [show ¬ ((i : Int) < 0) from by trivial, if_false, Int.toNat_natCast, Array.getElem?_eq_getElem hi]
  refine wpAny_bind ?_
  first
    | refine wpAny_bind (wpAny_typeNameOfWhole_keyiter T (wpAny_pure ?_))
    | refine wpAny_bind (wpAny_typeNameOf_keyiter T (wpAny_pure ?_))
  refine wpAny_bind (wpAny_isOneOf_keyiter T ?_)
  show wpAny _ _ (setField (.ref it) 1 (rawInt ((i : Int) + 1)) >>= fun _ => _) _ _ s
  refine wpAny_bind (wpAny_setField ho dat (by simp) ?_)
  have k' : (s.heap.update it (Obj.mapFields (·.setIfInBounds 1 (rawInt ((i : Int) + 1))))).IsKeyIter it a (i + 1) es.size ep := by
    refine ⟨_, Heap.get?_update_self _ ho (Obj.isFreed_of_fields (Obj.data_mapFields dat _)), (Obj.cls_mapFields ..).trans hc, ?_⟩
    rw [Obj.data_mapFields dat]; simp [rawInt]
  refine wpAny_bind (wpAny_holding (wpAny_bind ?_))
  refine wpAny_isOneOf_keyiter (s := { s with heap := s.heap.update it (Obj.mapFields (·.setIfInBounds 1 (rawInt ((i : Int) + 1)))) }) k'.typeIs ?_
  show wpAny _ _ (pure es[i].key) _ _ _
  exact wpAny_pure (wpAny_pure ⟨_, rfl, wpAny_pure (q _ k' (Heap.SameBut.update ..))⟩)
theorem end_raw {Q : Option Value → Shared → Prop} (hh : A.handled = none) (k : s.heap.IsKeyIter it a i es.size ep) (x : RawD s.heap a es ep) (hi : es.size ≤ i)
    (q : ∀ h', Heap.ExtBut it s.heap h' → Q none { s with heap := h' }) : wpAny (model prog w) A (pyNext (.ref it)) Q E s := by
  obtain ⟨o, ho, hc, dat⟩ := id k
  obtain ⟨od, hod, _, dd⟩ := x
  have T := k.typeIs
  unfold pyNext
  refine wpAny_bind (wpAny_attempt (wpAny_callSpecial?_slot (name := Str.ofString "__next__") T F.slot_dict_keyiterator_next (wpAny_call_entry F.slot_dict_keyiterator_next T F.entry_dict_keyiterator_next ?_ (F.args_dict_keyiterator_next_1 _))))
  refine wpAny_bind (wpAny_pure (wpAny_bind (wpAny_bind ?_)))
  first
    | refine wpAny_bind (wpAny_typeNameOfWhole_keyiter T (wpAny_pure ?_))
    | refine wpAny_bind (wpAny_typeNameOf_keyiter T (wpAny_pure ?_))
  refine wpAny_bind (wpAny_fieldsOf ho dat ?_)
  have ow : Builtin.Dict_items.ownsTuple "dict_keyiterator" = false := by decide
  simp only [ow, Bool.false_eq_true, if_false]
  show wpAny _ _ (if (Value.ref a == Value.none) = true then _ else _) _ _ s
  rw [if_neg (show ¬ ((Value.ref a == Value.none) = true) from Bool.false_ne_true)]
  refine wpAny_bind (wpAny_pure (wpAny_bind (wpAny_dictEntries hod dd ?_)))
  rw [if_neg (by simp)]
  refine wpAny_bind (wpAny_pure (wpAny_bind (wpAny_dictEpoch hod dd ?_)))
  rw [if_neg (by simp)]
  refine wpAny_pure ?_
  simp only [show ¬ ((i : Int) < 0) from by trivial, if_false, Int.toNat_natCast, Array.getElem?_eq_none hi]
  refine wpAny_bind ?_
  first
    | refine wpAny_bind (wpAny_typeNameOfWhole_keyiter T (wpAny_pure ?_))
    | refine wpAny_bind (wpAny_typeNameOf_keyiter T (wpAny_pure ?_))
  show wpAny _ _ (setField (.ref it) 0 .none >>= fun _ => _) _ _ s
  refine wpAny_bind (wpAny_setField ho dat (by simp) ?_)
  show wpAny _ _ (newExc (.type "StopIteration") [] >>= fun _ => _) _ _ _
  refine wpAny_bind ?_
  simp only [newExc, newTuple]
  refine wpAny_bind (wpAny_newObj_type ?_ (by size_fits))
  refine wpAny_bind (m := firstArgMember _ _) (wpAny_of_eq (a := Value.none) (by first | rfl | (simp only [firstArgMember]; rfl)) (wpAny_newObj_type ?_ (by size_fits)))
  simp only [raiseNew]
  refine wpAny_bind (wpAny_handled ?_)
  rw [show A.in1.handled = none from hh]
  refine wpAny_bind (wpAny_pure (wpAny_throw ?_))
  refine wpAny_bind (wpAny_isInstance (T := "StopIteration") (b := true) (by exact ⟨_, Heap.get?_push_size _ rfl, rfl⟩) isSubtype_stop ?_)
  exact wpAny_pure (q _ (((Heap.SameBut.update ..).extBut.push _).push _))
end
section
variable {X : Cx} {pins : List (Addr × Obj)} {σ : St} {H : Hp} {s : Shared}
theorem Inv.freezeT {a : Addr} {kvs : List (List Key × V)} (I : Inv X pins σ H s) (e : H a = some (.dT kvs)) : ∃ o, s.heap.get? a = some o ∧ Inv X pins σ (upd H a (.frz o (.dT kvs))) s := by
  have ok := I.hok a _ e
  obtain ⟨o, ho⟩ := ok.obj
  refine ⟨o, ho, ?_⟩
  have := I.write (x := a) (e := a) (o := .frz o (.dT kvs)) (h' := s.heap) (t' := s.toks) (by rw [e]; exact True.intro) (.inl rfl) (fun b u _ q => q) ⟨o, ho⟩ ?_
  · exact this
  · refine ⟨ho, ok.stay (fun b u _ q => q) (fun b q => ?_) fun b xs q => ?_⟩
    · by_cases hb : b = a
      · rw [hb, e] at q; cases q
      · rw [upd_ne hb]; exact q
    · by_cases hb : b = a
      · rw [hb, e] at q; cases q
      · rw [upd_ne hb]; exact q
noncomputable def ItdT (a : Addr) (o : Obj) (kvs : List (List Key × V)) : It :=
  ⟨fun i H => i < kvs.length ∧ H a = some (.frz o (.dT kvs)), fun i H x H' => H' = H ∧ ∃ k v b, kvs[i]? = some (k, v) ∧ x = .ref b ∧ H b = some (.tup (k.map kV)), fun i H => kvs.length ≤ i ∧ H a = some (.frz o (.dT kvs))⟩
theorem KT.get {kvs : List (List Key × V)} {xs : List (List Key × Addr × Value)} (r : KT H kvs xs) : ∀ {i : Nat} {k : List Key} {v : V}, kvs[i]? = some (k, v) → ∃ q, xs[i]? = some q ∧ H q.2.1 = some (.tup (k.map kV)) := by
  induction r with
  | nil => intro i k v h; simp at h
  | @cons p q ps qs h t ih =>
    intro i k v e
    cases i with
    | zero =>
      have e' : p = (k, v) := by simpa using e
      subst e'
      exact ⟨q, rfl, h.2.1⟩
    | succ i =>
      obtain ⟨q', e1, e2⟩ := ih (i := i) (k := k) (v := v) (by simpa using e)
      exact ⟨q', by simpa using e1, e2⟩
theorem frzT_at {P : Program} {w : World} {h : Heap} {a : Addr} {o : Obj} {kvs : List (List Key × V)} (ok : HOk P w H h) (e : H a = some (.frz o (.dT kvs))) {es : Array DictEntry} {ep : Nat} (hd : o.data = .dict es ep) :
    ∃ xs, KT H kvs xs ∧ es.toList = xs.map (entryOfKey (tupleKind (mixKind P w))) ∧ RawD h a es ep := by
  obtain ⟨ho, _, _, xs, rel, o', es', ep', h1, h2, h3, h4, _⟩ := ok a _ e
  rw [ho] at h1
  cases h1
  rw [hd] at h3
  cases h3
  exact ⟨xs, rel, h4, o, ho, h2, hd⟩
theorem turn_dictT {P : Program} {w : World} {K : PySem.W.Frag} {tg : Expr} (a it : Addr) (o : Obj) (kvs : List (List Key × V)) {es : Array DictEntry} {ep : Nat} (hd : o.data = .dict es ep) (hsz : es.size = kvs.length) : Turn P w K tg (ItdT a o kvs) [it] it (fun i h => h.IsKeyIter it a i es.size ep) where
  mem := by simp
  obj := fun i h st b hb => by
    have e : b = it := by simpa using hb
    subst e
    obtain ⟨o, e, c, d⟩ := st
    exact ⟨o, e, fun v z => by rw [d] at z; cases z⟩
  keep := fun i h h' st k => by
    obtain ⟨o, e, c⟩ := st
    exact ⟨o, k it (by simp) o e, c⟩
  item := by
    intro X hP hw hK hc i pins s σ H E I hf st hg
    subst hP hw hK
    obtain ⟨hlt, ha⟩ := hg
    obtain ⟨f0, f1, f2, f3, f4, f5⟩ := hf it (by simp)
    obtain ⟨xs, rel, he, raw⟩ := frzT_at I.hok ha hd
    obtain ⟨⟨k, x⟩, hx⟩ : ∃ p, kvs[i]? = some p := ⟨_, List.getElem?_eq_getElem hlt⟩
    obtain ⟨q, hq, hb⟩ := rel.get hx
    have hes := entry_at he i
    rw [hq] at hes
    have hi : i < es.size := by trivial
    have hkey : es[i].key = .ref q.2.1 := by
      have h1 := (Array.getElem?_eq_getElem hi).symm.trans hes
      have h2 := Option.some.inj h1
      rw [h2]; rfl
    refine next_raw st raw hi fun h' st' sb => ?_
    rw [hkey]
    have I1 : Inv X pins σ H { s with heap := h' } := I.turned (t' := s.toks) (fun b o hb e => (sb.2 b hb).trans e) f0 f1 f3 f4 f5
    obtain ⟨o, e, c, d⟩ := id st'
    exact ⟨.ref q.2.1, rfl, go_of (s := { s with heap := h' }) e c d (by decide) ⟨.ref q.2.1, H, I1, rfl, ⟨rfl, k, x, q.2.1, hx, rfl, hb⟩, st', fun b hb => (hf b hb).1⟩⟩
  done := by
    intro X hP hw hK hc i pins s σ H E I hf st hg
    subst hP hw hK
    obtain ⟨hle, ha⟩ := hg
    obtain ⟨f0, f1, f2, f3, f4, f5⟩ := hf it (by simp)
    obtain ⟨xs, rel, he, raw⟩ := frzT_at I.hok ha hd
    exact end_raw (I.ok.hd hc) st raw (by trivial) fun h' eb => ⟨rfl, I.turned (t' := s.toks) (fun b o hb e => eb b o hb e) f0 f1 f3 f4 f5⟩
  self := fun _ _ _ _ _ st h => wpAny_pyIter_keyiter st h
noncomputable def iDictT (td : TE) : TI := fun σ H R => td σ H fun x H1 => ∃ a kvs, x = .ref a ∧ H1 a = some (.dT kvs) ∧ ∀ o, R (ItdT a o kvs) (upd H1 a (.frz o (.dT kvs)))
theorem pi_dictT {tg l : Expr} {td : TE} (hl : PE X l td) : PI X tg l (iDictT td) := by
  intro pins s σ H R I h
  refine thn (hl pins s σ H _ I h) fun v s1 ⟨x, H1, I1, r1, q1⟩ => ?_
  obtain ⟨a, kvs, rfl, ha, q⟩ := q1
  cases r1
  obtain ⟨o, ho, I2⟩ := I1.freezeT ha
  obtain ⟨z, hs, xs, rel, o', es, ep, h1, h2, h3, h4, h5⟩ := I1.hok a _ ha
  rw [ho] at h1
  cases h1
  have raw : RawD s1.heap a es ep := ⟨o, ho, h2, h3⟩
  have hsz : es.size = kvs.length := by rw [size_of_entries h4]; exact (Paired.length rel).symm
  refine iter_raw hs raw ?_
  have I3 : Inv X pins σ (upd H1 a (.frz o (.dT kvs))) { s1 with heap := s1.heap.push { cls := .type "dict_keyiterator", data := .fields #[.ref a, .int 0 0, .int es.size 0, .int ep 0] } } := I2.kept (t' := s1.toks) fun b ob q => Heap.get?_push_of_some _ q
  refine ⟨s1.heap.objs.size, [s1.heap.objs.size], _, ItdT a o kvs, _, rfl, I3, turn_dictT a _ o kvs h3 hsz, ⟨_, Heap.get?_push_size _ rfl, rfl, rfl⟩, fun b hb => ?_, q o⟩
  have e : b = s1.heap.objs.size := by simpa using hb
  subst e
  exact I2.fpOk (Nat.le_refl _) (I2.hok.fresh (Nat.le_refl _))
end
theorem for_dictT {a : Addr} {o : Obj} {kvs : List (List Key × V)} {g : TG} {tb : TS} {D : Ends} {σ : St} {H : Hp} (Pv : Nat → St → Hp → Prop) (h0 : Pv 0 σ H) (hl : ∀ i σ H, i ≤ kvs.length → Pv i σ H → H a = some (.frz o (.dT kvs)))
    (hs : ∀ i k v b σ H, kvs[i]? = some (k, v) → Pv i σ H → H b = some (.tup (k.map kV)) → g (.ref b) σ H fun σ2 H2 => tb { D with nx := Pv (i + 1), ct := Pv (i + 1), bk := D.nx } σ2 H2) (hd : ∀ σ H, Pv kvs.length σ H → D.nx σ H) :
    ∃ W : Nat → Nat → St → Hp → Prop, (∃ m, W 0 m σ H) ∧ ∀ i m σ H, W i m σ H →
      ((ItdT a o kvs).stop i H ∧ D.nx σ H) ∨ ((ItdT a o kvs).go i H ∧ ∃ N : St → Hp → Prop, (∀ σ' H', N σ' H' → ∃ m', m' < m ∧ W (i + 1) m' σ' H') ∧ ∀ x H', (ItdT a o kvs).yld i H x H' → g x σ H' fun σ2 H2 => tb { D with nx := N, ct := N, bk := D.nx } σ2 H2) := by
  refine ⟨fun i m σ H => m = kvs.length - i ∧ i ≤ kvs.length ∧ Pv i σ H, ⟨kvs.length, by simp, Nat.zero_le _, h0⟩, ?_⟩
  rintro i m σ H ⟨rfl, hi, p⟩
  have q := hl i σ H hi p
  by_cases hlt : i < kvs.length
  · refine .inr ⟨⟨hlt, q⟩, Pv (i + 1), fun σ' H' p' => ⟨kvs.length - (i + 1), by trivial, rfl, hlt, p'⟩, fun x H' y => ?_⟩
    obtain ⟨rfl, k, v, b, e1, rfl, e2⟩ := y
    exact hs i k v b σ _ e1 p e2
  · have e : i = kvs.length := by trivial
    subst e
    exact .inl ⟨⟨Nat.le_refl _, q⟩, hd σ H p⟩
end L2
set_option Elab.async false
set_option linter.all false
set_option maxRecDepth 100000
namespace L2
open PySem PySem.Spec PyProof.Rows PySem.W
section
variable {X : Cx}
end
end L2
set_option Elab.async false
set_option linter.all false
set_option maxRecDepth 100000
namespace L2
open PySem PySem.Spec PyProof.Rows PySem.W
section
variable {X : Cx}
end
end L2
set_option Elab.async false
set_option linter.all false
set_option maxRecDepth 100000
set_option maxHeartbeats 4000000
namespace PH
open PySem L2 PySem.W
noncomputable def tN : Nat → List Int → Nat → List Int
  | 0, _, _ => []
  | n + 1, l, k => match l[k * l.length / tx l]? with
    | none => []
    | some x => x :: tN n (l.erase x) (k - tx l * l.idxOf x / l.length)
theorem tN_ok : ∀ (n : Nat) {l : List Int} {k : Nat}, l.length = n → l.Pairwise (· ≤ ·) → k < tx l → (tN n l k).Perm l ∧ nm (tN n l k) = k
  | 0, l, k, hl, _, hk => by
    have := List.eq_nil_of_length_eq_zero hl
    subst this
    have : tx [] = 1 := by decide
    rw [this] at hk
    exact ⟨List.Perm.refl _, by show 0 = k; trivial⟩
  | n + 1, l, k, hl, hs, hk => by
    obtain ⟨hj, hst⟩ := share_step hs (by trivial) hk
    obtain ⟨x, hx⟩ : ∃ x, l[k * l.length / tx l]? = some x := ⟨_, List.getElem?_eq_getElem hj⟩
    obtain ⟨e1, e2, e3⟩ := hst x hx
    have hm := List.mem_of_getElem? hx
    have ih := tN_ok n (l := l.erase x) (k := k - tx l * l.idxOf x / l.length) (by rw [List.length_erase_of_mem hm]; trivial) (hs.sublist List.erase_sublist) e3
    have ed : tN (n + 1) l k = x :: tN n (l.erase x) (k - tx l * l.idxOf x / l.length) := by
      show (match l[k * l.length / tx l]? with | none => [] | some x => x :: tN n (l.erase x) (k - tx l * l.idxOf x / l.length)) = _
      rw [hx]
    rw [ed]
    have hp : (x :: tN n (l.erase x) (k - tx l * l.idxOf x / l.length)).Perm l := (ih.1.cons x).trans (List.perm_cons_erase hm).symm
    refine ⟨hp, ?_⟩
    have := (read_step hs hp).2.2.1
    rw [ih.2] at this
    generalize tx l * l.idxOf x / l.length = q at e2 this
    trivial
end PH
set_option Elab.async false
set_option linter.all false
namespace PH
open PySem L2
theorem lss_mono {x y : Int} (hxy : x < y) : ∀ l : List Int, lss x l + l.count x ≤ lss y l
  | [] => Nat.le_refl _
  | z :: r => by
    have ih := lss_mono hxy r
    unfold lss at ih ⊢
    by_cases e : z = x
    · subst e
      rw [List.countP_cons_of_neg (by simp), List.count_cons_self, List.countP_cons_of_pos (by simpa using hxy)]; trivial
    · rw [List.count_cons_of_ne e]
      by_cases h : z < x
      · rw [List.countP_cons_of_pos (by simpa using h), List.countP_cons_of_pos (by simp; trivial)]; trivial
      · rw [List.countP_cons_of_neg (by simpa using h), List.countP_cons]; trivial
theorem nm_lex : ∀ {t u : List Int}, t.Perm u → HT.lexLt t u = true → nm t < nm u
  | [], u, hp, h => by
    have := hp.symm.eq_nil
    subst this
    rw [HT.lexLt_nil_nil] at h; cases h
  | x :: r, [], hp, h => by cases hp.eq_nil
  | x :: r, y :: s, hp, h => by
    rw [HT.lexLt_cons] at h
    show qn x (x :: r) + nm r < qn y (y :: s) + nm s
    by_cases e : x = y
    · subst e
      rw [if_pos rfl] at h
      have ih := nm_lex (List.perm_cons x |>.mp hp) h
      rw [qn_perm hp]; trivial
    · rw [if_neg e] at h
      have hxy := of_decide_eq_true h
      have h0 := nm_lt r
      have h1 := qn_mul x (l := x :: r) (fun z => by cases z)
      have h2 := tx_cons x r
      have h3 := qn_mul y (l := x :: r) (fun z => by cases z)
      have h4 := lss_mono hxy (x :: r)
      rw [← qn_perm hp]
      have hl : 0 < (x :: r).length := by rw [List.length_cons]; trivial
      generalize (x :: r).length = n at *
      have h5 : qn x (x :: r) + tx r ≤ qn y (x :: r) := by
        refine Nat.le_of_mul_le_mul_right (c := n) ?_ hl
        rw [Nat.add_mul, h1, ← h2, h3, ← Nat.mul_add]
        exact Nat.mul_le_mul_left _ h4
      trivial
theorem rise_range {l : List Nat} {N : Nat} (h : l.Pairwise (· < ·)) (hm : ∀ k, k ∈ l ↔ k < N) : l = List.range N := by
  have nd : l.Nodup := h.imp fun {a b} w => Nat.ne_of_lt w
  have hp : l.Perm (List.range N) := (List.perm_ext_iff_of_nodup nd List.nodup_range).mpr fun k => by rw [hm, List.mem_range]
  exact hp.eq_of_pairwise (fun a b _ _ h1 h2 => absurd (Nat.lt_trans h1 h2) (Nat.lt_irrefl _)) h List.pairwise_lt_range
theorem rows_nm {text : List Int} {rs : List (List Int)} (hs : rs.Pairwise (fun a b => HT.lexLt a b = true)) (hm : ∀ t, t ∈ rs ↔ t.Perm text) : rs.map nm = List.range (tx text) := by
  refine rise_range ?_ fun k => ?_
  · rw [List.pairwise_map]
    refine (List.Pairwise.and_mem.mp hs).imp fun {a b} h => ?_
    exact nm_lex (((hm a).mp h.1).trans ((hm b).mp h.2.1).symm) h.2.2
  · constructor
    · intro h
      obtain ⟨t, ht, rfl⟩ := List.mem_map.mp h
      have hp := (hm t).mp ht
      rw [← tx_perm hp]
      exact nm_lt t
    · intro h
      obtain ⟨l, hl, hp⟩ : ∃ l : List Int, l.Pairwise (· ≤ ·) ∧ l.Perm text := by
        refine ⟨text.mergeSort (fun a b => decide (a ≤ b)), ?_, List.mergeSort_perm _ _⟩
        have := List.pairwise_mergeSort (le := fun a b : Int => decide (a ≤ b)) (fun a b c h1 h2 => by have := of_decide_eq_true h1; have := of_decide_eq_true h2; exact decide_eq_true (by trivial)) (fun a b => by
          by_cases q : a ≤ b
          · rw [decide_eq_true q]; rfl
          · rw [decide_eq_true (show b ≤ a by trivial), Bool.or_true]) text
        exact this.imp fun {a b} q => of_decide_eq_true q
      have ok := tN_ok _ (l := l) (k := k) rfl hl (by rw [tx_perm hp]; exact h)
      exact List.mem_map.mpr ⟨_, (hm _).mpr (ok.1.trans hp), ok.2⟩
theorem rows_at {text : List Int} {rs : List (List Int)} (hs : rs.Pairwise (fun a b => HT.lexLt a b = true)) (hm : ∀ t, t ∈ rs ↔ t.Perm text) {j : Nat} {t : List Int} (h : rs[j]? = some t) : nm t = j := by
  have e := rows_nm hs hm
  have h1 : (rs.map nm)[j]? = some (nm t) := by rw [List.getElem?_map, h]; rfl
  rw [e] at h1
  obtain ⟨a, b⟩ := List.getElem?_eq_some_iff.mp h1
  rw [← b, List.getElem_range]
theorem rows_len {text : List Int} {rs : List (List Int)} (hs : rs.Pairwise (fun a b => HT.lexLt a b = true)) (hm : ∀ t, t ∈ rs ↔ t.Perm text) : rs.length = tx text := by
  have := congrArg List.length (rows_nm hs hm)
  rwa [List.length_map, List.length_range] at this
theorem perm_ins {pre t : List Int} {s : Int} : t.Perm (pre ++ [s]) ↔ ∃ (u : List Int) (k : Nat), u.Perm pre ∧ k ≤ u.length ∧ t = u.take k ++ [s] ++ u.drop k := by
  constructor
  · intro h
    have hm : s ∈ t := h.symm.subset (by simp)
    obtain ⟨a, b, rfl⟩ := List.append_of_mem hm
    have h1 : (s :: (a ++ b)).Perm (s :: pre) := List.perm_middle.symm.trans (h.trans (List.perm_append_comm (l₁ := pre) (l₂ := [s])))
    refine ⟨a ++ b, a.length, (List.perm_cons s).mp h1, by rw [List.length_append]; trivial, ?_⟩
    rw [List.take_left, List.drop_left]
    simp
  · rintro ⟨u, k, hu, hk, rfl⟩
    have h1 : (u.take k ++ [s] ++ u.drop k).Perm (s :: (u.take k ++ u.drop k)) := by
      rw [List.append_assoc]
      exact List.perm_middle
    rw [List.take_append_drop] at h1
    exact h1.trans ((hu.cons s).trans (List.perm_append_comm (l₁ := [s]) (l₂ := pre)))
end PH
set_option Elab.async false
set_option linter.all false
set_option maxRecDepth 100000
set_option maxHeartbeats 4000000
namespace L2
open PySem PySem.Spec PyProof.Rows PySem.W
theorem ints_inj : ∀ {a b : List Int}, a.map V.int = b.map V.int → a = b
  | [], [], _ => rfl
  | [], _ :: _, h => by cases h
  | _ :: _, [], h => by cases h
  | x :: xs, y :: ys, h => by
    injection h with h1 h2
    injection h1 with h1
    rw [h1, ints_inj h2]
theorem lex_irr : ∀ a : List Int, HT.lexLt a a = false
  | [] => rfl
  | x :: xs => by rw [HT.lexLt_cons, if_pos rfl]; exact lex_irr xs
theorem lex_trans : ∀ a b c : List Int, HT.lexLt a b = true → HT.lexLt b c = true → HT.lexLt a c = true
  | _, [], c, h, h2 => by
    rename_i a
    cases a with
    | nil => rw [HT.lexLt_nil_nil] at h; cases h
    | cons _ _ => rw [HT.lexLt_cons_nil] at h; cases h
  | _, _ :: _, [], _, h2 => by rw [HT.lexLt_cons_nil] at h2; cases h2
  | [], _ :: _, _ :: _, _, _ => rfl
  | x :: xs, y :: ys, z :: zs, h, h2 => by
    rw [HT.lexLt_cons] at h h2 ⊢
    by_cases e1 : x = y
    · by_cases e2 : y = z
      · rw [if_pos e1] at h
        rw [if_pos e2] at h2
        rw [if_pos (e1.trans e2)]
        exact lex_trans xs ys zs h h2
      · rw [if_neg e2] at h2
        rw [if_neg (fun c => e2 (e1 ▸ c)), e1]
        exact h2
    · rw [if_neg e1] at h
      have h := of_decide_eq_true h
      by_cases e2 : y = z
      · rw [if_neg (fun c => e1 (by trivial))]
        exact decide_eq_true (by trivial)
      · rw [if_neg e2] at h2
        have h2 := of_decide_eq_true h2
        rw [if_neg (by trivial)]
        exact decide_eq_true (by trivial)
theorem lex_total : ∀ a b : List Int, HT.lexLt a b = false → HT.lexLt b a = false → a = b
  | [], [], _, _ => rfl
  | [], _ :: _, h, _ => by rw [HT.lexLt_nil_cons] at h; cases h
  | _ :: _, [], _, h => by rw [HT.lexLt_nil_cons] at h; cases h
  | x :: xs, y :: ys, h, h2 => by
    rw [HT.lexLt_cons] at h h2
    by_cases e : x = y
    · rw [if_pos e] at h
      rw [if_pos e.symm] at h2
      rw [e, lex_total xs ys h h2]
    · rw [if_neg e] at h
      rw [if_neg (Ne.symm e)] at h2
      have := of_decide_eq_false h
      have := of_decide_eq_false h2
      trivial
noncomputable def listOrd : KeyOrd where
  α := List Int
  blt := HT.lexLt
  irrefl := lex_irr
  trans := lex_trans
  negTrans := fun a b c h => by
    cases h1 : HT.lexLt a b with
    | true => exact .inl rfl
    | false =>
      refine .inr ?_
      cases h2 : HT.lexLt b c with
      | true => rfl
      | false =>
        exfalso
        cases h3 : HT.lexLt b a with
        | true => rw [lex_trans b a c h3 h] at h2; cases h2
        | false => rw [lex_total a b h1 h3, h2] at h; cases h
  total := lex_total
section
variable {prog : Program} {w : World} {A : Around} {E : Value → Shared → Prop} {s : Shared}
end
noncomputable def fky {α : Type} (d : α) (zs : List (Addr × α)) (p : Keyed) : α := match p.1 with
  | .ref a => ((zs.find? fun z => decide (z.1 = a)).map (·.2)).getD d
  | _ => d
theorem fky_at {α : Type} {d : α} {zs : List (Addr × α)} (same : ∀ z ∈ zs, ∀ y ∈ zs, z.1 = y.1 → z.2 = y.2) {z : Addr × α} (hz : z ∈ zs) (v : Value) : fky d zs (.ref z.1, v) = z.2 := by
  show ((zs.find? fun y => decide (y.1 = z.1)).map (·.2)).getD d = z.2
  cases e : zs.find? fun y => decide (y.1 = z.1) with
  | none =>
    have := List.find?_eq_none.mp e z hz
    simp at this
  | some y =>
    have h1 := List.mem_of_find?_eq_some e
    have h2 : y.1 = z.1 := by simpa using List.find?_some e
    exact same y h1 z hz h2
theorem vals_refsA {α : Type} : ∀ {zs : List (Addr × α)} {us : List Value}, Vals (zs.map fun z => V.ref z.1) us → us = zs.map fun z => Value.ref z.1
  | [], _, r => by
    rw [List.map_nil] at r
    cases r; rfl
  | z :: zs, _, r => by
    rw [List.map_cons] at r
    cases r with
    | cons h t =>
      have h' : _ = Value.ref z.1 := h
      rw [h', vals_refsA t]; rfl
theorem refs_valsA {α : Type} : ∀ (zs : List (Addr × α)), Vals (zs.map fun z => V.ref z.1) (zs.map fun z => Value.ref z.1)
  | [] => .nil
  | z :: zs => .cons rfl (refs_valsA zs)
section
variable {X : Cx}
end
section
variable {X : Cx}
end
end L2
set_option Elab.async false
set_option linter.all false
set_option maxRecDepth 100000
set_option maxHeartbeats 4000000
namespace HT
open PySem PyProof.Rows
theorem getItem_tuple_whole {prog : Program} {w : World} {A : Around} {E : Value → Shared → Prop} {s : Shared} {t sl : Addr} {items : Array Value} {vl vu : Value} {lo hi : Option Int} {Q : Value → Shared → Prop} (ht : IsTup s.heap t items) (hs : s.heap.IsSliceOf sl vl vu .none) (pl : IsPart vl lo) (pu : IsPart vu hi)
    (hw : sIx items.size 0 lo = 0 ∧ sIx items.size items.size hi = items.size) (h : Q (.ref t) s) : wpAny (model prog w) A (getItem (.ref t) (.ref sl)) Q E s := by
  have hj : sIx items.size items.size hi ≤ items.size := sIx_le _ _ (Nat.le_refl _) hi
  obtain ⟨os, hos, hcs, hds⟩ := id hs
  have hTs : s.TypeIs (.ref sl) "slice" := ⟨os, hos, hcs⟩
  unfold getItem
  try with_reducible refine wpAny_holding ?_
  first | refine wpAny_bind (wpAny_pure ?_) | skip
  refine wpAny_bind (wpAny_sequenceKey ht.typeIs (by decide) ?_)
  refine wpAny_bind (wpAny_callSpecial?_slot (name := Str.ofString "__getitem__") ht.typeIs PyProof.Rows.slot_tuple_getitem
    (wpAny_call_entry PyProof.Rows.slot_tuple_getitem ht.typeIs entry_tuple_getitem ?_ (args_tuple_getitem _ _)))
  show wpAny _ _ (Builtin.Tuple.tupleItemsOf (.ref t) >>= _) _ _ s
  refine wpAny_bind (tupleItemsOf_ ht ?_)
  refine wpAny_bind (wpAny_typeOf hTs ?_)
  rw [if_pos (by decide)]
  refine wpAny_bind (sliceApplied_gen hs pl pu ?_)
  have hyes : (((sIx items.size 0 lo : Nat) : Int) == 0 && (1 : Int) == 1 && (sIx items.size items.size hi - sIx items.size 0 lo) == items.size) = true := by
    rw [hw.1, hw.2]; simp
  show wpAny _ _ (if (((sIx items.size 0 lo : Nat) : Int) == 0 && (1 : Int) == 1 && (sIx items.size items.size hi - sIx items.size 0 lo) == items.size) = true then _ else _) _ _ s
  rw [if_pos hyes]
  refine wpAny_bind ?_
  unfold Builtin.Tuple.tupleIsExact
  refine wpAny_bind (wpAny_typeOf ht.typeIs ?_)
  refine wpAny_pure ?_
  rw [if_pos (by decide)]
  refine wpAny_bind (wpAny_rule ?_)
  exact wpAny_pure ⟨_, rfl, wpAny_pure h⟩
end HT
namespace L2
open PySem PySem.Spec PyProof.Rows PySem.W
section
variable {X : Cx}
noncomputable def rCatTA (K : Frag) : R2 := fun x y H Q => ∃ a b xs ys, x = .ref a ∧ y = .ref b ∧ SqT K H a xs ∧ SqT K H b ys ∧ xs.length + ys.length ≤ sizeLine ∧
  (xs = [] → Q (.ref b) H) ∧ (xs ≠ [] → ys = [] → Q (.ref a) H) ∧ (xs ≠ [] → ys ≠ [] → ∀ p, H p = none → Q (.ref p) (upd H p (.tup (xs ++ ys))))
theorem op_catTA : OpR X (binaryOp .Add) (rCatTA X.K) := by
  intro pins s σ H x y v u Q I rx ry h
  obtain ⟨a, b, xs, ys, rfl, rfl, ha, hb, hz, q0, q1, q2⟩ := h
  by_cases hx : xs = []
  · cases rx
    cases ry
    obtain ⟨its, r1, p1, _⟩ := I.tuple ha
    obtain ⟨its2, r2, p2, _⟩ := I.tuple hb
    have hv : its = [] := r1.nil_iff.mpr hx
    obtain ⟨⟨cls, dd, data, sl⟩, ho, hc, n, hd⟩ := id p1
    obtain ⟨⟨cls2, dd2, data2, sl2⟩, ho2, hc2, n2, hd2⟩ := id p2
    simp only at hc hd hc2 hd2
    subst hc hd hc2 hd2
    exact concat_meets ⟨_, ho, rfl⟩ ⟨_, ho2, rfl⟩ noFill_tuple_add seq_tuple_add PySem.F.slot_tuple_add PySem.F.entry_tuple_add (PySem.F.args_tuple_add_2 _ _)
      (tuple_addW0 a b its.toArray its2.toArray n n2 dd dd2 sl sl2 (by simp [hv])) ⟨ho, ho2, ⟨.ref b, H, I, rfl, q0 hx⟩⟩
  · exact op_catT pins s σ H _ _ v u Q I rx ry ⟨a, b, xs, ys, rfl, rfl, ha, hb, hx, hz, q1 hx, q2 hx⟩
noncomputable def rSlTA (K : Frag) : V → Option Int → Option Int → Hp → VK → Prop := fun x lo hi H Q => ∃ a xs, x = .ref a ∧ SqT K H a xs ∧
  ((HT.sIx xs.length 0 lo = 0 ∧ HT.sIx xs.length xs.length hi = xs.length) → Q (.ref a) H) ∧ (¬ (HT.sIx xs.length 0 lo = 0 ∧ HT.sIx xs.length xs.length hi = xs.length) → ∀ p, H p = none → Q (.ref p) (upd H p (.tup (cutV xs lo hi))))
theorem sl_tupA : SlR X (rSlTA X.K) := by
  intro pins s σ H x v vl vu lo hi sl Q I rx hs pl pu h
  obtain ⟨a, xs, rfl, hx, q1, q2⟩ := h
  by_cases hw : HT.sIx xs.length 0 lo = 0 ∧ HT.sIx xs.length xs.length hi = xs.length
  · cases rx
    obtain ⟨its, r, ht, hz⟩ := I.tuple hx
    have hlen : its.toArray.size = xs.length := by rw [List.size_toArray]; exact r.length.symm
    refine ⟨"tuple", _, PyProof.Rows.slot_tuple_getitem.lookup, ht.typeIs, ?_⟩
    exact HT.getItem_tuple_whole ht hs pl pu (by rw [hlen]; exact hw) ⟨.ref a, H, I, rfl, q1 hw⟩
  · exact sl_tup pins s σ H _ v vl vu lo hi sl Q I rx hs pl pu ⟨a, xs, rfl, hx, hw, q2 hw⟩
noncomputable def rIndexTT (K : Frag) : V → List V → Hp → VK → Prop := fun x vs H Q => ∃ (p a : Addr) (zs : List (Addr × List Int)) (t : List Int) (j : Nat), x = .ref p ∧ vs = [.ref a] ∧ SqL K H p (zs.map fun z => V.ref z.1) ∧ (∀ z ∈ zs, SqT K H z.1 (z.2.map V.int)) ∧ SqT K H a (t.map V.int) ∧
  (zs.map (·.2))[j]? = some t ∧ (∀ m < j, (zs.map (·.2))[m]? ≠ some t) ∧ Q (.int (j : Int)) H
theorem eqD_tups (a b : List Int) : eqD (.tup (a.map DV.int)) (.tup (b.map DV.int)) = decide (a = b) := by
  unfold eqD; rw [eqDs_ints]
theorem hts_intsT : ∀ ns : List Int, hts (ns.map DV.int) = 0
  | [] => by unfold hts; rfl
  | n :: ns => by rw [List.map_cons]; unfold hts; rw [hts_intsT ns]; unfold ht; rfl
theorem mt_indexTT (hu : X.A.units + 64 < cLine) : MtR X "list.index" (rIndexTT X.K) := by
  intro pins s σ H x vs v us Q I rx rv h
  obtain ⟨p, a, zs, t, j, rfl, rfl, hs, hz, ha, hj, hn, q⟩ := h
  cases rx
  obtain ⟨u, rfl, ru⟩ := rv.one
  cases (show u = Value.ref a from ru)
  obtain ⟨its, r, pl, hzl⟩ := I.list hs
  obtain ⟨⟨oc, od, dt, sl⟩, n, e, hc, hdn, hdt⟩ := id pl
  dsimp only at hc hdn hdt
  subst hc hdn hdt
  have hits := vals_refsA r
  subst hits
  rw [List.length_map] at hzl
  have same : ∀ z ∈ zs, ∀ y ∈ zs, z.1 = y.1 → z.2 = y.2 := fun z h1 y h2 e => by
    have e1 := hz z h1
    have e2 := hz y h2
    rw [← e] at e2
    exact ints_inj (I.tuple_inj e1 e2)
  have hjl : j < zs.length := by
    have := (List.getElem?_eq_some_iff.mp hj).1
    rwa [List.length_map] at this
  have at' : ∀ (m : Nat) (hm : m < zs.length), fky [] zs (Value.ref zs[m].1, Value.ref zs[m].1) = zs[m].2 := fun m hm => fky_at same (List.getElem_mem hm) _
  refine call_meets PySem.F.slot_list_index ⟨_, e, rfl⟩ PySem.F.entry_list_index (PySem.F.args_list_index_2 _ _) (SeqAt.list_indexAt p (zs.map fun z => Value.ref z.1).toArray n none sl (.ref a) (fun v => decide (fky [] zs (v, v) = t)) j (by rw [List.size_toArray, List.length_map]; exact hjl) ?_ ?_ ?_) ⟨e, fun y hy => ?_, ?_⟩
  · have h24 : sizeLine = 16777216 := by decide
    trivial
  · refine decide_eq_true ?_
    rw [List.getElem_toArray, List.getElem_map, at' j hjl]
    rw [List.getElem?_map, List.getElem?_eq_getElem hjl] at hj
    exact Option.some.inj hj
  · intro m hm hlt
    have hm' : m < zs.length := by trivial
    refine decide_eq_false fun z => hn m hlt ?_
    rw [List.getElem_toArray, List.getElem_map, at' m hm'] at z
    rw [List.getElem?_map, List.getElem?_eq_getElem hm', ← z]; rfl
  · have hy' : y ∈ zs.map fun z => Value.ref z.1 := by simpa using hy
    obtain ⟨z, hm, rfl⟩ := List.mem_map.mp hy'
    have hd := eq_deep I 60 (A := X.A.in1) (.tup (z.2.map DV.int)) (by rw [ht_tup, hts_intsT]; decide) (by rw [Around.in1_units]; trivial) (.tup (t.map DV.int)) (.ref z.1) (.ref a) (.ref z.1) (.ref a) (.tup (hz z hm) (Deeps.ints _)) (.tup ha (Deeps.ints _)) rfl rfl
    rw [eqD_tups] at hd
    show SeqAt.EqAt _ s (.ref z.1) (.ref a) (decide (fky [] zs (Value.ref z.1, Value.ref z.1) = t))
    rw [fky_at same hm]
    exact hd
  · exact ⟨.int _, H, I.tok _, ⟨_, rfl⟩, q⟩
noncomputable def tDisp1T (tk tv : TE) : TE := fun σ H Q => ∀ p, H p = none → tk σ (upd H p (.dT [])) fun x H1 => tv σ H1 fun y H2 => H2 p = some (.dT []) ∧ ∃ (b : Addr) (k : List Key), x = .ref b ∧ H2 b = some (.tup (k.map kV)) ∧ Q (.ref p) (upd H2 p (.dT [(k, y)]))
theorem pe_disp1T {pos : Pos} {ke ve : Expr} {tk tv : TE} (hu : X.A.units + 1 < cLine) (hk : PE X ke tk) (hv : PE X ve tv) : PE X (.Dict [some ke] [ve] pos) (tDisp1T tk tv) := by
  intro pins s σ H Q I q
  have hn := I.hok.fresh (Nat.le_refl s.heap.objs.size)
  have I1 := I.laid (a := s.heap.objs.size) (o := .dT []) (h' := s.heap.push { cls := .type "dict", data := .dict #[] }) (t' := s.toks) (fun _ _ q => Heap.get?_push_of_some _ q) (Nat.le_refl _) (dt_empty s.heap I.big)
  refine wpAny_Dict_any rfl rfl (fun z => by cases z) (by show 1 ≤ 15; decide) (thn (pps_cons hk hv pps_nil pins _ σ _ (fun ps H2 => match ps with | [(x, y)] => H2 s.heap.objs.size = some (.dT []) ∧ ∃ (b : Addr) (k : List Key), x = .ref b ∧ H2 b = some (.tup (k.map kV)) ∧ Q (.ref s.heap.objs.size) (upd H2 s.heap.objs.size (.dT [(k, y)])) | _ => False) I1 (q _ hn)) fun ws s2 ⟨ps, H2, I2, rel, hq⟩ => ?_)
  match ps, rel, hq with
  | [(x, y)], rel, hq =>
    obtain ⟨e, b, k, ex, eb, q2⟩ := hq
    cases rel with
    | @cons p1 w1 as bs h t =>
      cases t
      obtain ⟨u, r⟩ := w1
      obtain ⟨ru, rr⟩ := h
      dsimp only at ru rr
      subst ex
      cases (show u = Value.ref b from ru)
      obtain ⟨z, hd, xs, relx, dd⟩ := dt_of I2.hok e
      cases relx
      unfold storeAll
      simp only [List.forIn_cons, List.forIn_nil, bind_assoc, pure_bind]
      refine wpAny_bind (wpAny_dictSet_heap (hsz := Nat.zero_le _) (show (tupleKind (mixKind X.prog X.w)).room X.A from (by show X.A.units < cLine; trivial)) (key_of I2.hok eb) dd fun h' dd' hs => ?_)
      refine wpAny_pure ?_
      obtain ⟨q, es, ep, hq, h2, h3, h4, _, h5⟩ := dd'
      have ok : ObjOk X.prog X.w (upd H2 s.heap.objs.size (.dT [(k, y)])) h' s.heap.objs.size (.dT [(k, y)]) := by
        refine ⟨(by show 1 ≤ sizeLine; decide), hd, _, (KT.put (kvs := []) (xs := []) .nil k eb rr).keeps fun c ys ec => ?_, q, es, ep, hq, h2, h3, h4, h5⟩
        rw [upd_ne (ne_of ec e (fun z => nomatch z))]
        exact ec
      exact ⟨.ref s.heap.objs.size, _, d_write I2 (by rw [e]; exact True.intro) hs ⟨q, hq⟩ ok, rfl, q2⟩
end
end L2
set_option Elab.async false
set_option linter.all false
set_option maxRecDepth 100000
set_option maxHeartbeats 4000000
namespace L2
open PySem PySem.Spec PyProof.Rows PySem.W
theorem raw_src {prog : Program} {w : World} {a : Addr} {es : Array DictEntry} {ep : Nat} (hs : (a == sysModules) = false) : KdlSrc prog w "dict" a a es.size (fun i v => ∃ e, es[i]? = some e ∧ v = e.key) (fun h => RawD h a es ep) where
  type := fun s ⟨o, ho, hc, _⟩ => ⟨o, ho, hc.1⟩
  there := fun h ⟨o, ho, _⟩ => by
    have : a < h.objs.size := Heap.lt_size ho
    exact ⟨this, this⟩
  keep := fun h h' ⟨o, ho, r⟩ k => ⟨o, k a (.inl rfl) o ho, r⟩
  notList := by decide
  notTuple := by decide
  hint := fun A E s Q ⟨o, ho, hc, _⟩ q => kdl_hint_dict ⟨o, ho, hc.1⟩ q
  iter := fun A s hh raw => by
    refine ⟨{ cls := .type "dict_keyiterator", data := .fields #[.ref a, .int 0 0, .int es.size 0, .int ep 0] }, fun i h => h.IsKeyIter s.heap.objs.size a i es.size ep ∧ RawD h a es ep, fun E Q q => iter_raw hs raw q, ?_, ⟨⟨_, Heap.get?_push_size _ rfl, rfl, rfl⟩, ?_⟩⟩
    · refine ⟨fun b hb => by simp at hb ⊢; exact .inl hb, fun i h h' ⟨⟨o, e, c⟩, ⟨o2, e2, c2⟩⟩ k => ⟨⟨o, k _ (by simp) o e, c⟩, ⟨o2, k _ (by simp) o2 e2, c2⟩⟩, fun i s1 Q E hi ⟨st, raw1⟩ q => ?_, fun s1 Q E ⟨st, raw1⟩ q => ?_, fun i s1 Q E ⟨st, _⟩ q => wpAny_pyIter_keyiter st q⟩
      · refine next_raw st raw1 hi fun h' st' sb => ?_
        have hne : a ≠ s.heap.objs.size := by
          obtain ⟨o, ho, _⟩ := raw
          exact Nat.ne_of_lt (Heap.lt_size ho)
        exact q _ h' s1.toks ⟨_, Array.getElem?_eq_getElem hi, rfl⟩ ⟨st', by
          obtain ⟨o, e, r⟩ := raw1
          exact ⟨o, (sb.2 a hne).trans e, r⟩⟩ fun b o hb e => (sb.2 b (by simpa using hb)).trans e
      · exact end_raw hh st raw1 (Nat.le_refl _) fun h' eb => q h' s1.toks fun b o hb e => eb b o (by simpa using hb) e
    · obtain ⟨o, e, r⟩ := raw
      exact ⟨o, Heap.get?_push_of_some _ e, r⟩
noncomputable def TupAt (h : Heap) (z : Addr × List Int) : Prop := ∃ o items n, h.get? z.1 = some o ∧ o.cls = .type "tuple" ∧ o.data = .seq items n ∧ IntsAre items.toList z.2
theorem TupAt.keeps {h h' : Heap} {z : Addr × List Int} (p : TupAt h z) (k : ∀ b o, h.get? b = some o → h'.get? b = some o) : TupAt h' z := by
  obtain ⟨o, items, n, e, r⟩ := p
  exact ⟨o, items, n, k _ _ e, r⟩
theorem kat_ints {prog : Program} {w : World} {A : Around} {s : Shared} {b : Bool} {Q : Bool → Shared → Prop} : ∀ {ns ms : List Int} {vs ws : List Value} (i : Nat), IntsAre vs ns → IntsAre ws ms → ns.length = ms.length → Q (HT.lexLt ns ms) s → KatLex prog w A b false Q (vs.zip ws) i s
  | _, _, _, _, i, .nil, .nil, _, q => kat_nil q
  | _, _, _, _, i, .cons n t h, .cons m u h', hl, q => by
    rw [List.zip_cons_cons]
    rw [HT.lexLt_cons] at q
    refine kat_cons (eqBool_int ?_)
    by_cases c : n = m
    · rw [decide_eq_true c]
      rw [if_pos c] at q
      exact kat_yes (kat_ints (i + 1) h h' (by simpa using hl) q)
    · rw [decide_eq_false c]
      rw [if_neg c] at q
      exact kat_no (oneLt_any q)
theorem cmp_tup {prog : Program} {w : World} {A : Around} {s : Shared} {zs : List (Addr × List Int)} {b : Bool} {m : Nat} (same : ∀ z ∈ zs, ∀ y ∈ zs, z.1 = y.1 → z.2 = y.2) (hm : ∀ z ∈ zs, z.2.length = m) (hh : ∀ z ∈ zs, TupAt s.heap z) : TS.Cmp prog w A s (tuples' b) listOrd (fky [] zs) (fun p => ∃ z ∈ zs, p.1 = .ref z.1) where
  lt := fun p q ⟨z, hz, e1⟩ ⟨y, hy, e2⟩ {E Q} h => by
    obtain ⟨p1, p2⟩ := p
    obtain ⟨q1, q2⟩ := q
    dsimp only at e1 e2
    subst e1 e2
    have h : Q (HT.lexLt (fky [] zs (Value.ref z.fst, p2)) (fky [] zs (Value.ref y.fst, q2))) s := h
    rw [fky_at same hz, fky_at same hy] at h
    obtain ⟨o, i1, n1, g1, _, d1, t1⟩ := hh z hz
    obtain ⟨o2, i2, n2, g2, _, d2, t2⟩ := hh y hy
    refine kat_lt g1 d1 g2 d2 ?_
    have z1 : i1.size = z.2.length := by rw [← t1.length]; simp
    have z2 : i2.size = y.2.length := by rw [← t2.length]; simp
    rw [decide_eq_false (show ¬ i1.size < i2.size by rw [z1, z2, hm z hz, hm y hy]; trivial)]
    exact kat_ints 0 t1 t2 (by rw [hm z hz, hm y hy]) h
theorem katTups_tup {h : Heap} {m : Nat} : ∀ {zs : List (Addr × List Int)}, (∀ z ∈ zs, TupAt h z) → (∀ z ∈ zs, 1 ≤ z.2.length) → ∃ fs, KatTups h (zs.map fun z => Value.ref z.1) fs ∧ fs.length = zs.length ∧ ∀ v ∈ fs, ∃ n t, v = Value.int n t
  | [], _, _ => ⟨[], .nil, rfl, fun _ z => by cases z⟩
  | z :: r, hh, h1 => by
    obtain ⟨fs, k, l, a⟩ := katTups_tup (m := m) (zs := r) (fun y hy => hh y (List.mem_cons_of_mem _ hy)) (fun y hy => h1 y (List.mem_cons_of_mem _ hy))
    obtain ⟨o, items, n, e, c, d, t⟩ := hh z List.mem_cons_self
    have h2 := h1 z List.mem_cons_self
    obtain ⟨v, tk, hv⟩ : ∃ v tk, items[0]? = some (Value.int v tk) := by
      rw [← Array.getElem?_toList]
      generalize items.toList = l0 at t
      generalize z.2 = zl at t h2
      cases t with
      | nil => exact absurd h2 (by simp)
      | cons n0 t0 h0 => exact ⟨n0, t0, rfl⟩
    refine ⟨Value.int v tk :: fs, .cons e c d hv k, by rw [List.length_cons, List.length_cons, l], fun x hx => ?_⟩
    rcases List.mem_cons.mp hx with q | q
    · exact ⟨_, _, q⟩
    · exact a x q
theorem KT.tups {H : Hp} {kvs : List (List Key × V)} {xs : List (List Key × Addr × Value)} (r : KT H kvs xs) : ∀ {rs : List (List Int)}, kvs.map (·.1) = rs.map (fun r => r.map Sum.inl) → ∃ zs : List (Addr × List Int), zs.map (·.2) = rs ∧ xs.map (·.2.1) = zs.map (·.1) ∧ ∀ z ∈ zs, H z.1 = some (.tup (z.2.map V.int)) := by
  induction r with
  | nil =>
    intro rs h
    cases rs with
    | nil => exact ⟨[], rfl, rfl, fun _ z => by cases z⟩
    | cons a b => cases h
  | @cons p q ps qs hq t ih =>
    intro rs h
    cases rs with
    | nil => cases h
    | cons r rs =>
      rw [List.map_cons, List.map_cons] at h
      obtain ⟨h1, h2⟩ := List.cons.inj h
      obtain ⟨zs, a1, a2, a3⟩ := ih h2
      refine ⟨(q.2.1, r) :: zs, by rw [List.map_cons, a1], by rw [List.map_cons, List.map_cons, a2], fun z hz => ?_⟩
      rcases List.mem_cons.mp hz with rfl | hz
      · have := hq.2.1
        rw [h1, List.map_map] at this
        exact this
      · exact a3 z hz
section
variable {X : Cx}
noncomputable def rSortDT : List V → Hp → VK → Prop := fun xs H Q => ∃ (p : Addr) (kvs : List (List Key × V)) (rs : List (List Int)) (m : Nat), xs = [.ref p] ∧ H p = some (.dT kvs) ∧ kvs.map (·.1) = rs.map (fun r => r.map Sum.inl) ∧ (∀ r ∈ rs, r.length = m) ∧ (1 ≤ m ∨ rs.length ≤ 1) ∧
  ∀ (zs : List (Addr × List Int)) (q : Addr), (zs.map (·.2)).Perm rs → (zs.map (·.2)).Pairwise (fun a b => HT.lexLt b a = false) → (∀ z ∈ zs, H z.1 = some (.tup (z.2.map V.int))) → H q = none → Q (.ref q) (upd H q (.lst (zs.map fun z => V.ref z.1)))
theorem call_sortedDT (hc : X.calm = true) : CallR X (.builtin "sorted") rSortDT := by
  intro pins s σ H xs us Q I r h
  obtain ⟨a, kvs, rs, m, rfl, hd, hk, hm, h1, q⟩ := h
  obtain ⟨u, rfl, rx⟩ := vals1 r
  cases rx
  obtain ⟨z, hs, xs, rel, o, es, ep, ho, hcl, hdt, hes, hnd⟩ := I.hok a _ hd
  have raw : RawD s.heap a es ep := ⟨o, ho, hcl, hdt⟩
  obtain ⟨zs, e1, e2, hz⟩ := KT.tups rel hk
  have hsz : es.size = zs.length := by
    rw [size_of_entries hes]
    have := congrArg List.length e2
    rwa [List.length_map, List.length_map] at this
  have hzl : zs.length ≤ sizeLine := by
    have := Paired.length rel
    have h2 := congrArg List.length e2
    rw [List.length_map, List.length_map] at h2
    trivial
  have hpa : ∀ y ∈ zs, TupAt s.heap y := fun y hy => by
    obtain ⟨its, rv, ⟨o2, e3, c2, n2, d2⟩, _⟩ := I.tuple (SqT.of (hz y hy))
    exact ⟨o2, _, n2, e3, c2, d2, intsAre_of rv⟩
  have same : ∀ y ∈ zs, ∀ x ∈ zs, y.1 = x.1 → y.2 = x.2 := fun y h1 x h2 e => by
    have e1 := hz y h1
    have e2 := hz x h2
    rw [← e, e1] at e2
    injection e2 with e2
    injection e2 with e2
    exact ints_inj e2
  have hm' : ∀ y ∈ zs, y.2.length = m := fun y hy => hm _ (by rw [← e1]; exact List.mem_map.mpr ⟨y, hy, rfl⟩)
  refine TS.sorted_gen (kd := tuples' (Value.type "int" != Value.type "tuple")) (O := listOrd) (ky := fky [] zs) (S := fun p => ∃ z ∈ zs, p.1 = .ref z.1) (V := fun vs => vs = zs.map fun z => Value.ref z.1)
    (fun vs e => by rw [e, List.length_map]; exact hzl) (fun vs e v hv => ?_) (fun {E R} k => ?_) (fun vs s' e h2 kp {A' E' Q'} qq => ?_) (fun s' kp => cmp_tup same hm' fun z hm => (hpa z hm).keeps kp) (fun h1 h' tk vs out n e k1 k2 g p rr => ?_)
  · rw [e] at hv
    obtain ⟨z, hm, rfl⟩ := List.mem_map.mp hv
    exact ⟨z, hm, rfl⟩
  · refine kdu_collect (raw_src hs) (I.ok.hd hc) raw (by trivial) fun h' tk acc kp hacc => k h' tk acc.toList ?_ kp
    refine List.ext_getElem? fun j => ?_
    by_cases hj : j < zs.length
    · have hja : j < acc.toList.length := by rw [Array.length_toList, hacc.1]; trivial
      obtain ⟨e, he1, he2⟩ := hacc.2 j acc.toList[j] (by rw [← Array.getElem?_toList]; exact List.getElem?_eq_getElem hja)
      have hx := entry_at hes j
      rw [he1] at hx
      have hx2 : (xs.map (·.2.1))[j]? = some (zs[j].1) := by rw [e2, List.getElem?_map, List.getElem?_eq_getElem hj]; rfl
      rw [List.getElem?_map] at hx2
      cases hxj : xs[j]? with
      | none => rw [hxj] at hx2; cases hx2
      | some q =>
        rw [hxj] at hx hx2
        have hq1 : q.2.1 = zs[j].1 := Option.some.inj hx2
        have hq2 := Option.some.inj hx
        rw [List.getElem?_eq_getElem hja, he2, hq2, List.getElem?_map, List.getElem?_eq_getElem hj]
        show some (Value.ref q.2.1) = some (Value.ref zs[j].1)
        rw [hq1]
    · rw [List.getElem?_eq_none (by rw [Array.length_toList, hacc.1]; trivial), List.getElem?_eq_none (by rw [List.length_map]; trivial)]
  · rw [e]
    rw [e, List.length_map] at h2
    have hm1 : 1 ≤ m := by
      rcases h1 with h | h
      · exact h
      · have := congrArg List.length e1
        rw [List.length_map] at this
        trivial
    obtain ⟨fs, f1, f2, f3⟩ := katTups_tup (m := m) (h := s'.heap) (fun z hm => (hpa z hm).keeps kp) (fun z hz => by rw [hm' z hz]; exact hm1)
    refine kat_kind (T := .type "int") f1 (by rw [f2]; trivial) (fun v hv => ?_) (by rfl) qq
    obtain ⟨m, t, rfl⟩ := f3 v hv
    exact .now
  · subst e
    obtain ⟨zs', p1, p2⟩ := perm_map (fun z : Addr × List Int => Value.ref z.1) p zs rfl
    have I1 : Inv X pins σ H { s with heap := h1 } := I.kept (t' := s.toks) k1
    refine ⟨.ref h1.objs.size, _, I1.laid (a := h1.objs.size) (o := .lst (zs'.map fun z => V.ref z.1)) (t' := tk) k2 (Nat.le_refl _) ?_, rfl, q zs' _ (by rw [← e1]; exact p1.map _) ?_ (fun z hz' => hz z (p1.mem_iff.mp hz')) (I1.hok.fresh (Nat.le_refl _))⟩
    · refine ⟨by rw [List.length_map, p1.length_eq]; exact hzl, _, n, refs_valsA zs', ?_⟩
      rw [← p2, Array.toArray_toList]; exact g
    · unfold TS.Rises at rr
      rw [p2, List.pairwise_map] at rr
      rw [List.pairwise_map]
      refine List.Pairwise.imp_of_mem ?_ rr
      intro x y hx hy hk
      have hx' := p1.mem_iff.mp hx
      have hy' := p1.mem_iff.mp hy
      have hk' : HT.lexLt (fky [] zs (.ref y.1, .ref y.1)) (fky [] zs (.ref x.1, .ref x.1)) = false := hk
      rw [fky_at same hx', fky_at same hy'] at hk'
      exact hk'
end
end L2
set_option Elab.async false
set_option linter.all false
set_option maxRecDepth 100000
namespace L2
open PySem PySem.Spec PyProof.Rows PySem.W
section
variable {X : Cx}
theorem same_up {H : Hp} {p : Addr} (h : H p = none) (o : HO) : Same H (upd H p o) := fun b u q => by rw [upd_ne (ne_of_none q h)]; exact q
noncomputable def rSlTS : V → Option Int → Option Int → Hp → VK → Prop := fun x lo hi H Q => ∃ a xs, x = .ref a ∧ H a = some (.tup xs) ∧ ∀ q H', Same H H' → H' q = some (.tup (cutV xs lo hi)) → Q (.ref q) H'
theorem cut_whole {xs : List V} {lo hi : Option Int} (h : HT.sIx xs.length 0 lo = 0 ∧ HT.sIx xs.length xs.length hi = xs.length) : cutV xs lo hi = xs := by
  unfold cutV
  rw [h.1, h.2, List.drop_zero, Nat.sub_zero, List.take_length]
theorem sl_tupS : SlR X rSlTS := by
  intro pins s σ H x v vl vu lo hi sl Q I rx hs pl pu h
  obtain ⟨a, xs, rfl, hx, q⟩ := h
  refine sl_tupA pins s σ H _ v vl vu lo hi sl Q I rx hs pl pu ⟨a, xs, rfl, SqT.of hx, fun hw => ?_, fun hw p hp => ?_⟩
  · exact q a H (fun _ _ e => e) (by rw [cut_whole hw]; exact hx)
  · exact q p _ (same_up hp _) upd_same
noncomputable def rCatTS : R2 := fun x y H Q => ∃ a b xs ys, x = .ref a ∧ y = .ref b ∧ H a = some (.tup xs) ∧ H b = some (.tup ys) ∧ xs.length + ys.length ≤ sizeLine ∧ ∀ q H', Same H H' → H' q = some (.tup (xs ++ ys)) → Q (.ref q) H'
theorem op_catTS : OpR X (binaryOp .Add) rCatTS := by
  intro pins s σ H x y v u Q I rx ry h
  obtain ⟨a, b, xs, ys, rfl, rfl, ha, hb, hz, q⟩ := h
  refine op_catTA pins s σ H _ _ v u Q I rx ry ⟨a, b, xs, ys, rfl, rfl, SqT.of ha, SqT.of hb, hz, fun e => ?_, fun e e2 => ?_, fun e e2 p hp => ?_⟩
  · exact q b H (fun _ _ e => e) (by rw [e, List.nil_append]; exact hb)
  · exact q a H (fun _ _ e => e) (by rw [e2, List.append_nil]; exact ha)
  · exact q p _ (same_up hp _) upd_same
theorem putK_keys {κ : Type} [DecidableEq κ] (kvs : List (κ × V)) (k : κ) (v : V) : (putK kvs k v).map (·.1) = if k ∈ kvs.map (·.1) then kvs.map (·.1) else kvs.map (·.1) ++ [k] := by
  unfold putK
  have e : ((kvs.any fun kv => decide (kv.1 = k)) = true) ↔ k ∈ kvs.map (·.1) := by
    rw [List.any_eq_true, List.mem_map]
    constructor
    · rintro ⟨p, hp, h⟩; exact ⟨p, hp, of_decide_eq_true h⟩
    · rintro ⟨p, hp, h⟩; exact ⟨p, hp, decide_eq_true h⟩
  by_cases h : k ∈ kvs.map (·.1)
  · rw [if_pos (e.mpr h), if_pos h, List.map_map]
    refine List.map_congr_left fun p _ => ?_
    show (if p.1 = k then (p.1, v) else p).1 = p.1
    split <;> rfl
  · rw [if_neg (fun z => h (e.mp z)), if_neg h, List.map_append]; rfl
end
end L2
set_option Elab.async false
set_option linter.all false
set_option maxRecDepth 100000
set_option maxHeartbeats 4000000
namespace PH
open PySem L2 PySem.W
noncomputable def kI (t : List Int) : List Key := t.map Sum.inl
theorem kI_inj {a b : List Int} (h : kI a = kI b) : a = b := by
  have h1 : (kI a).map (fun k => match k with | Sum.inl i => i | Sum.inr _ => 0) = (kI b).map (fun k => match k with | Sum.inl i => i | Sum.inr _ => 0) := by rw [h]
  unfold kI at h1
  rw [List.map_map, List.map_map] at h1
  have e : ∀ l : List Int, l.map ((fun k : Key => match k with | Sum.inl i => i | Sum.inr _ => 0) ∘ Sum.inl) = l := fun l => by
    show l.map (fun i => i) = l
    rw [List.map_id']
  rwa [e, e] at h1
theorem kI_kV (t : List Int) : (kI t).map kV = t.map V.int := by unfold kI; rw [List.map_map]; rfl
noncomputable def Kys (kvs : List (List Key × V)) (P : List Int → Prop) : Prop := ∃ rs : List (List Int), kvs.map (·.1) = rs.map kI ∧ rs.Nodup ∧ ∀ t, t ∈ rs ↔ P t
theorem Kys.put {kvs : List (List Key × V)} {P : List Int → Prop} (h : Kys kvs P) (t : List Int) (v : V) : Kys (putK kvs (kI t) v) (fun u => P u ∨ u = t) := by
  obtain ⟨rs, h1, h2, h3⟩ := h
  have hin : kI t ∈ kvs.map (·.1) ↔ t ∈ rs := by
    rw [h1, List.mem_map]
    constructor
    · rintro ⟨u, hu, e⟩; rw [← kI_inj e]; exact hu
    · intro hu; exact ⟨t, hu, rfl⟩
  refine ⟨if t ∈ rs then rs else rs ++ [t], ?_, ?_, fun u => ?_⟩
  · rw [putK_keys]
    by_cases c : t ∈ rs
    · rw [if_pos (hin.mpr c), if_pos c, h1]
    · rw [if_neg (fun z => c (hin.mp z)), if_neg c, h1, List.map_append]; rfl
  · by_cases c : t ∈ rs
    · rw [if_pos c]; exact h2
    · rw [if_neg c]
      refine List.nodup_append.mpr ⟨h2, by simp, fun x hx y hy => ?_⟩
      rw [show y = t by simpa using hy]
      exact fun z => c (z ▸ hx)
  · by_cases c : t ∈ rs
    · rw [if_pos c, h3]
      constructor
      · exact .inl
      · rintro (h | rfl)
        · exact h
        · exact (h3 u).mp c
    · rw [if_neg c, List.mem_append, h3, List.mem_singleton]
theorem Kys.of {kvs : List (List Key × V)} {P P' : List Int → Prop} (h : Kys kvs P) (e : ∀ t, P t ↔ P' t) : Kys kvs P' := by
  obtain ⟨rs, h1, h2, h3⟩ := h
  exact ⟨rs, h1, h2, fun t => (h3 t).trans (e t)⟩
noncomputable def ins (u : List Int) (s : Int) (k : Nat) : List Int := u.take k ++ [s] ++ u.drop k
theorem strict_of {l : List (List Int)} (h : l.Pairwise (fun a b => HT.lexLt b a = false)) (nd : l.Nodup) : l.Pairwise (fun a b => HT.lexLt a b = true) := by
  refine (h.and nd).imp fun {a b} q => ?_
  cases e : HT.lexLt a b with
  | true => rfl
  | false => exact absurd (lex_total a b e q.1) q.2
theorem step_lt52 {n c i : Nat} (hc : 1 ≤ c) (h : i < (Builtin.Range.rangeSize 0 (n : Int) (c : Int)).toNat) : i * c < n := by
  unfold Builtin.Range.rangeSize at h
  rw [if_pos (by trivial)] at h
  by_cases hn : (0 : Int) < (n : Int)
  · rw [if_pos hn] at h
    have h1 : (i : Int) ≤ ((n : Int) - 0 - 1) / (c : Int) := by trivial
    have h2 := Int.ediv_mul_le ((n : Int) - 0 - 1) (show (c : Int) ≠ 0 by trivial)
    have h3 : (i : Int) * (c : Int) ≤ ((n : Int) - 0 - 1) / (c : Int) * (c : Int) := Int.mul_le_mul_of_nonneg_right h1 (by trivial)
    have h4 : ((i * c : Nat) : Int) = (i : Int) * (c : Int) := Int.natCast_mul i c
    trivial
  · rw [if_neg hn] at h
    exact absurd h (Nat.not_lt_zero _)
noncomputable def spText52 : Sp := fun vs H Q _ => ∃ (p : Addr) (n : Int), vs = [.ref p] ∧ PL n p H ∧ n ≤ 990000 ∧ ∀ (T : Addr) (ts : List Int) (H' : Hp), Kb p H H' → H' T = some (lsI ts) → ts.length ≤ 6 → (∀ x ∈ ts, 0 ≤ x ∧ x ≤ 255) → Q (.ref T) H'
noncomputable def spAll52 : Sp := fun vs H Q _ => ∃ (a : Addr) (ts : List Int), vs = [.ref a] ∧ H a = some (lsI ts) ∧ ts.length ≤ 6 ∧
  ∀ (L : Addr) (zs : List (Addr × List Int)) (H' : Hp), Same H H' → H' L = some (.lst (zs.map fun z => V.ref z.1)) → (∀ z ∈ zs, H' z.1 = some (.tup (z.2.map V.int))) → (zs.map (·.2)).Pairwise (fun a b => HT.lexLt a b = true) → (∀ t, t ∈ zs.map (·.2) ↔ t.Perm ts) → Q (.ref L) H'
noncomputable def spTold52 : Sp := fun vs H Q _ => ∃ (a C : Addr) (ts : List Int) (zs : List (Addr × Int × Int)), vs = [.ref a, .ref C, .int (nm ts : Nat)] ∧ H a = some (lsI ts) ∧ ts.length ≤ 400 ∧ (∀ x ∈ ts, 0 ≤ x ∧ x ≤ 255) ∧ Prs H C zs ∧ zs.map (·.2) = cnts ts ∧
  ∀ H', Same H H' → Q (.bl true) H'
end PH
set_option Elab.async false
set_option linter.all false
set_option maxRecDepth 100000
set_option maxHeartbeats 4000000
namespace K52
open PySem L2 PySem.W PH
noncomputable def top (i : Nat) : Stmt := PySem.Challenge.pw_packhall_k52_shares_of_small_texts.main.body.getD i (.Pass ⟨0, 0, 0, 0⟩)
noncomputable abbrev s_whole : Stmt := top 6
noncomputable abbrev s_counts : Stmt := top 8
noncomputable abbrev s_rise : Stmt := top 9
noncomputable abbrev s_arec : Stmt := top 10
noncomputable abbrev s_pair : Stmt := top 12
noncomputable abbrev s_have : Stmt := top 13
noncomputable abbrev s_orders : Stmt := top 14
noncomputable abbrev s_texts : Stmt := top 15
noncomputable abbrev s_share : Stmt := top 16
noncomputable abbrev s_inord : Stmt := top 17
noncomputable abbrev s_tbs : Stmt := top 18
noncomputable abbrev s_pool : Stmt := top 20
noncomputable abbrev s_take : Stmt := top 21
noncomputable abbrev s_text : Stmt := top 22
noncomputable abbrev s_all : Stmt := top 23
noncomputable abbrev s_lwhole : Stmt := top 24
noncomputable abbrev s_told : Stmt := top 25
noncomputable abbrev s_law : Stmt := top 26
section
variable {P : Program} {w : World} {K : PySem.W.Frag} {mg : Str → Option Value} {base : Heap}
theorem sc_whole : FnScope ["thing"] ["thing"] (defScope s_whole) := ⟨rfl, rfl, rfl, by decide +kernel, rfl, by decide +kernel, by decide +kernel⟩
theorem ok_whole {f : Addr} {fd : FuncData} (F : Fun K "is_whole" "is_whole" s_whole f fd) (B : Bls mg) : FnOk P w K mg base (CXW P w) 1 f fd ["thing"] (spWhole) := by
  refine F.okN sc_whole (fun vs H Q E h => ?_) (fun cdv A outer s H vs Q E hr h => ?_)
  · obtain ⟨n, rfl, _⟩ := h
    rfl
  · obtain ⟨n, rfl, q⟩ := h
    refine ⟨_, (pss_one (ps_ret (pe_and (pe_callB (r := rIsi K) call_isi rfl B.isi boot_isi (pa_cons (pv 0) (pa_cons (pe_bltn (v := .ty "int") rfl B.int boot_int' rfl) pa_nil))) (pe_one (pe_not (pe_callB (r := rIsi K) call_isi rfl B.isi boot_isi (pa_cons (pv 0) (pa_cons (pe_bltn (v := .ty "bool") rfl B.bool boot_bool' rfl) pa_nil)))))))), ?_⟩
    refine ⟨_, rfl, _, _, _, _, true, rfl, .of (.int n), rfl, kit_refl _ _, _, rfl, ?_⟩
    refine iteT ?_
    refine ⟨_, rfl, _, _, _, _, false, rfl, .of (.int n), rfl, kit_ib _, _, rfl, ?_⟩
    exact q
theorem sc_counts : FnScope ["text", "times", "sign"] ["text"] (defScope s_counts) := ⟨rfl, rfl, rfl, by decide +kernel, rfl, by decide +kernel, by decide +kernel⟩
theorem ok_counts {f : Addr} {fd : FuncData} (F : Fun K "counts_of" "counts_of" s_counts f fd) (B : Bls mg) : FnOk P w K mg base (CXW P w) 1 f fd ["text"] (spCounts K) := by
  refine F.okN sc_counts (fun vs H Q E h => ?_) (fun cdv A outer s H vs Q E hr h => ?_)
  · obtain ⟨a, ns, rfl, _⟩ := h
    rfl
  · obtain ⟨a, ns, rfl, hS, h5, hb, hQ⟩ := h
    refine ⟨_, (pss_cons (ps_set (i := 1) sc_counts.nd rfl (Or.inr rfl) pe_dnewK)
      (pss_cons (ps_for PassesOwn.never rfl (pi_list (pv 0)) (pg_name (i := 2) sc_counts.nd rfl (Or.inl rfl))
        (pss_one (ps_dput (hu_of hr) (pv 1) (pv 2) (pe_op op_add (pe_dget2 (hu_of hr) (pv 1) (pv 2) pe_int ⟨rfl, rfl, rfl, rfl⟩) pe_int) rfl)))
      (pss_one (ps_ret (pe_comp (N := ["sign", "times"]) (js := [none, some 1]) (g := (gName 0)) (tc := tTrue) (te := (tTup (tCons (tVar 0) (tCons (tDGet (tVar 1) (tVar 0)) tNil)))) rfl (comp_scope (osc := defScope s_counts) (XN := ["text", "times", "sign"]) rfl rfl rfl (by decide +kernel)) (pi_list (pe_callB (call_sortedD rfl) rfl B.sorted boot_sorted' (pa_cons (pv 1) pa_nil))) (fun _ _ _ _ => pg_name (i := 0) (show (["sign", "times"] : List Str).Nodup by decide +kernel) rfl (Or.inl rfl)) (fun _ _ _ _ => pif_nil) (fun _ _ _ _ => (pe_tup (pa_cons (pv 0) (pa_cons (pe_dget (hu_of hr) (pv 1) (pv 0) (fun _ _ => rfl)) pa_nil))))))))), ?_⟩
    have hbl := len_lsI ns
    refine fun dt hdt => ?_
    have hS1 := (same_new hdt (.dK [])).seq hS
    refine ⟨_, rfl, a, rfl, ⟨_, hS1⟩, for_list (K := K) (a := a) (xs := ns.map V.int) (fun i σ H2 => ∃ (v : Option V) (ks : List Int), σ = [some (.ref a), some (.ref dt), v] ∧ H2 = upd H dt (.dK (cntD ks (ns.take i))) ∧ ks.Nodup ∧ (∀ k, k ∈ ks ↔ k ∈ ns.take i) ∧ ks.length ≤ i)
      ⟨none, [], rfl, rfl, List.nodup_nil, (fun k => by rw [List.take_zero]), Nat.le_refl _⟩ (fun i σ H2 _ ⟨_, _, _, e, _⟩ => by rw [e]; exact (same_new hdt _).seq hS) ?_ ?_⟩
    · rintro i y σ H2 hi ⟨v, ks, rfl, rfl, nd, hm, hkl⟩
      obtain ⟨z, rfl, hz⟩ := int_at hi
      have hil : i < ns.length := (List.getElem?_eq_some_iff.mp hz).1
      have hg := DGet.k (k := Sum.inl z) (show upd H dt (.dK (cntD ks (ns.take i))) dt = some (.dK (cntD ks (ns.take i))) from upd_same)
      rw [valV_cntD] at hg
      refine ⟨_, rfl, dt, rfl, .inl ⟨_, .inl upd_same⟩, _, rfl, _, hg, ((ns.take i).count z : Int), 1, ?_, rfl, ?_⟩
      · show ((if z ∈ ks then some (V.int ((ns.take i).count z : Int)) else none).getD (.int 0)) = .int ((ns.take i).count z : Int)
        by_cases h : z ∈ ks
        · rw [if_pos h]; rfl
        · rw [if_neg h]
          have : (ns.take i).count z = 0 := List.count_eq_zero.mpr fun q => h ((hm z).mpr q)
          rw [this]; rfl
      refine ⟨_, rfl, _, rfl, dt, _, rfl, DPut.k (k := Sum.inl z) upd_same (fits_lt (by unfold cntD; rw [List.length_map]; trivial)), ?_⟩
      rw [put_cntD hm, ← take_at hz, upd_upd]
      refine ⟨_, if z ∈ ks then ks else ks ++ [z], rfl, rfl, ?_, fun k => ?_, ?_⟩
      · by_cases h : z ∈ ks
        · rw [if_pos h]; exact nd
        · rw [if_neg h]; exact nd_snoc nd h
      · rw [take_at hz, List.mem_append, List.mem_singleton, ← hm]
        by_cases h : z ∈ ks
        · rw [if_pos h]
          constructor
          · exact .inl
          · rintro (q | q)
            · exact q
            · rw [q]; exact h
        · rw [if_neg h, List.mem_append, List.mem_singleton]
      · by_cases h : z ∈ ks
        · rw [if_pos h]; trivial
        · rw [if_neg h, List.length_append, List.length_singleton]; trivial
    · rintro σ H2 ⟨v, ks, rfl, rfl, nd, hm, hkl⟩
      rw [hbl, List.take_length] at hm ⊢
      rw [hbl] at hkl
      have hdd : upd H dt (.dK (cntD ks ns)) dt = some (.dK (cntD ks ns)) := upd_same
      refine ⟨_, rfl, dt, _, ks, rfl, .inl hdd, cntD_keys ks ns, fun ks' ps hp hsr hps => ?_⟩
      have hk' := sorted_keys hb nd hm hp hsr
      subst hk'
      have s1 := (same_new hdt (.dK (cntD ks ns))).trans (same_new hps (.lst ((ksOf ns).map V.int)))
      have hps1 : upd (upd H dt (.dK (cntD ks ns))) ps (.lst ((ksOf ns).map V.int)) ps = some (lsI (ksOf ns)) := upd_same
      have hdt1 : upd (upd H dt (.dK (cntD ks ns))) ps (.lst ((ksOf ns).map V.int)) dt = some (.dK (cntD ks ns)) := by rw [upd_ne (ne_of_none hdd hps)]; exact hdd
      generalize upd (upd H dt (.dK (cntD ks ns))) ps (.lst ((ksOf ns).map V.int)) = H3 at s1 hps1 hdt1 ⊢
      refine ⟨ps, rfl, ⟨_, SqL.of hps1⟩, fun D hD => ?_⟩
      have nD1 := ne_of_none hps1 hD
      have nD2 := ne_of_none hdt1 hD
      have hlk : (ksOf ns).length ≤ 5000 := by rw [hp.length_eq]; trivial
      refine comp_lst (K := K) (a := ps) (xs := (ksOf ns).map V.int) (fun i σ' H' => ∃ (v : Option V) (zs : List (Addr × Int × Int)), σ' = [v, some (.ref dt)] ∧ Prs H' D zs ∧ zs.map (·.2) = ((ksOf ns).take i).map (fun k => (k, (ns.count k : Int))) ∧ (∀ z ∈ zs, z.1 ≠ D) ∧ Same H3 H')
        ⟨none, [], rfl, ⟨upd_same, (fun _ z => by cases z)⟩, by rw [List.take_zero]; rfl, (fun _ z => by cases z), same_new hD _⟩ (fun i σ' H' _ ⟨_, _, _, _, _, _, e⟩ => SqL.of (e _ _ hps1)) ?_ ?_
      · rintro i x σ' H' hi ⟨v, zs, rfl, prs, hzs, hzD, sm⟩
        obtain ⟨k, rfl, hk⟩ := int_at hi
        have hlt : i < ((ksOf ns).map V.int).length := (List.getElem?_eq_some_iff.mp hi).1
        have hkm : k ∈ ks := (hm k).mpr ((mem_ks hb k).mp (List.mem_of_getElem? hk))
        have hg := DGet.k (k := Sum.inl k) (sm _ _ hdt1)
        rw [valV_cntD, if_pos hkm] at hg
        refine nameT ?_
        refine ⟨_, rfl, _, rfl, _, rfl, dt, _, rfl, hg, (by show 2 ≤ sizeLine; decide), fun t ht => ?_⟩
        have hzl : zs.length = i := by
          have := congrArg List.length hzs
          rw [List.length_map, List.length_map, List.length_take] at this
          rw [List.length_map] at hlt
          trivial
        have ntD : t ≠ D := (ne_of_none prs.at_ ht).symm
        refine ⟨D, _, _, rfl, rfl, (same_new ht _) _ _ prs.at_, fits_lt (by rw [List.length_map]; rw [List.length_map] at hlt; trivial), ?_⟩
        have st := same_new ht (.tup [.int k, .int (ns.count k : Int)])
        refine CW.next hlt ⟨_, zs ++ [(t, k, (ns.count k : Int))], rfl, ⟨?_, fun z hz => ?_⟩, ?_, fun z hz => ?_, ?_⟩
        · rw [upd_same, List.map_append]; rfl
        · rcases List.mem_append.mp hz with hz | hz
          · rw [upd_ne (hzD z hz)]; exact st _ _ (prs.each z hz)
          · have : z = (t, k, (ns.count k : Int)) := by simpa using hz
            subst this
            rw [upd_ne ntD, upd_same]
        · rw [List.map_append, hzs, take_at hk, List.map_append]; rfl
        · rcases List.mem_append.mp hz with hz | hz
          · exact hzD z hz
          · have : z = (t, k, (ns.count k : Int)) := by simpa using hz
            subst this
            exact ntD
        · exact same_upd (sm.trans st) _ hD
      · rintro σ' H' ⟨v, zs, rfl, prs, hzs, hzD, sm⟩
        refine hQ D zs H' (s1.trans sm) (s1.free hD) prs ?_
        rw [hzs, List.length_map, List.take_length, cnts_ks]
end
end K52
set_option Elab.async false
set_option linter.all false
set_option maxRecDepth 100000
set_option maxHeartbeats 4000000
namespace K52
open PySem L2 PySem.W PH
section
variable {P : Program} {w : World} {K : PySem.W.Frag} {mg : Str → Option Value} {base : Heap}
theorem sc_rise : FnScope ["pairs", "ahead", "sign", "number"] ["pairs"] (defScope s_rise) := ⟨rfl, rfl, rfl, by decide +kernel, rfl, by decide +kernel, by decide +kernel⟩
theorem ok_rise {f : Addr} {fd : FuncData} (F : Fun K "signs_rise" "signs_rise" s_rise f fd) (B : Bls mg) (m_LS : LS mg) : FnOk P w K mg base (CXW P w) 1 f fd ["pairs"] (spRise) := by
  refine F.okN sc_rise (fun vs H Q E h => ?_) (fun cdv A outer s H vs Q E hr h => ?_)
  · obtain ⟨p, zs, rfl, _⟩ := h
    rfl
  · obtain ⟨p, zs, rfl, prZ, q⟩ := h
    obtain ⟨u_LS, m_u, r_u⟩ := m_LS
    refine ⟨_, (pss_cons (ps_set (i := 1) sc_rise.nd rfl (Or.inl rfl) (pe_un un_neg pe_int))
      (pss_cons (ps_for PassesOwn.never rfl (pi_list (pv 0)) (pg_tup rfl (pgs_cons (pg_name (i := 2) sc_rise.nd rfl (Or.inl rfl)) (pgs_cons (pg_name (i := 3) sc_rise.nd rfl (Or.inl rfl)) pgs_nil)))
        (pss_cons (ps_if (PW.pt (pw_or (pt_cmpR op_le (pv 2) (pv 1) (nomark _)) (pw_or1 (pt_cmpR op_gt (pv 2) (pe_glob (v := .int 255) rfl m_u r_u) (nomark _)))))
          (pss_one (ps_ret pe_bl))
          pss_nil)
        (pss_one (ps_set (i := 1) sc_rise.nd rfl (Or.inl rfl) (pv 2)))))
      (pss_one (ps_ret pe_bl)))), ?_⟩
    generalize hcs : zs.map (·.2) = cs at q
    have hF : riseB (-1) cs = false → Q (.bl false) H := fun e => by rwa [e] at q
    refine ⟨1, rfl, ?_⟩
    refine ⟨_, rfl, p, rfl, ⟨_, SqL.of prZ.at_⟩, for_list (K := K) (a := p) (xs := zs.map fun z => V.ref z.1) (fun k σ H2 => ∃ (ah : Int) (v2 v3 : Option V), σ = [some (.ref p), some (.int ah), v2, v3] ∧ H2 = H ∧ riseB (-1) cs = riseB ah (cs.drop k))
      ⟨-1, none, none, rfl, rfl, by rw [List.drop_zero]⟩ (fun k σ H2 _ ⟨_, _, _, _, e, _⟩ => by rw [e]; exact SqL.of prZ.at_) ?_ ?_⟩
    · rintro k y σ H2 hi ⟨ah, v2, v3, rfl, rfl, hr⟩
      obtain ⟨z, hz, rfl⟩ := ref_at hi
      have hck : cs[k]? = some z.2 := by rw [← hcs, List.getElem?_map, hz]; rfl
      rw [riseB_step hck] at hr
      refine ⟨z.1, _, rfl, SqT.of (prZ.each z (List.mem_of_getElem? hz)), rfl, _, _, rfl, _, _, rfl, rfl, ?_⟩
      refine ⟨_, rfl, _, rfl, _, _, rfl, rfl, _, rfl, ?_⟩
      by_cases h1 : z.2.1 ≤ ah
      · rw [decide_eq_true h1]
        refine iteT (iteT ?_)
        exact hF (by rw [hr, decide_eq_false (show ¬ ah < z.2.1 by trivial)]; rfl)
      rw [decide_eq_false h1]
      refine iteF ?_
      refine ⟨_, rfl, _, _, rfl, rfl, _, rfl, ?_⟩
      by_cases h2 : 255 < z.2.1
      · rw [decide_eq_true h2]
        refine iteT ?_
        exact hF (by rw [hr, decide_eq_false (show ¬ z.2.1 ≤ 255 by trivial), Bool.and_false]; rfl)
      rw [decide_eq_false h2]
      refine iteF ?_
      refine ⟨_, rfl, ?_⟩
      exact ⟨z.2.1, _, _, rfl, rfl, by rw [hr, decide_eq_true (show ah < z.2.1 by trivial), decide_eq_true (show z.2.1 ≤ 255 by trivial)]; rfl⟩
    · rintro σ H2 ⟨ah, v2, v3, rfl, rfl, hr⟩
      rw [hr, List.drop_of_length_le (by rw [← hcs, List.length_map, List.length_map]; exact Nat.le_refl _)] at q
      exact q
theorem sc_arec : FnScope ["counts"] ["counts"] (defScope s_arec) := ⟨rfl, rfl, rfl, by decide +kernel, rfl, by decide +kernel, by decide +kernel⟩
theorem ok_arec {f f_rise : Addr} {fd d_rise : FuncData} (F : Fun K "are_counts" "are_counts" s_arec f fd) (B : Bls mg) 
    (G_rise : FnOk P w K mg base (CXW P w) 1 f_rise d_rise ["pairs"] (spRise)) (b_rise : Binds K d_rise ["pairs"] []) (k_rise : keepIn K (.ref f_rise) = true) (m_rise : mg "signs_rise" = some (.ref f_rise)) : FnOk P w K mg base (CXW P w) 2 f fd ["counts"] (spAreC) := by
  refine F.okN sc_arec (fun vs H Q E h => ?_) (fun cdv A outer s H vs Q E hr h => ?_)
  · obtain ⟨p, zs, rfl, _⟩ := h
    rfl
  · obtain ⟨p, zs, rfl, prZ, hzl, hQ⟩ := h
    refine ⟨_, (pss_one (ps_ret (pe_and (pe_call G_rise hr rfl m_rise k_rise b_rise .nil passN (pa_cons (pv 0) pa_nil)) (pe_one (pe_callB (call_allL rfl) rfl B.all boot_all' (pa_cons (pe_comp (N := ["sign", "times"]) (js := [none, none]) (g := (gTup K 2 (gCons (gName 0) (gCons (gName 1) gNil)))) (tc := tTrue) (te := (tOp (rI0 fun i j => .bl (decide (j ≤ i))) (tVar 1) (tC (.int 1)))) rfl (comp_scope (osc := defScope s_arec) (XN := ["counts"]) rfl rfl rfl (by decide +kernel)) (pi_list (pv 0)) (fun _ _ _ _ => (pg_tup rfl (pgs_cons (pg_name (i := 0) (show (["sign", "times"] : List Str).Nodup by decide +kernel) rfl (Or.inl rfl)) (pgs_cons (pg_name (i := 1) (show (["sign", "times"] : List Str).Nodup by decide +kernel) rfl (Or.inl rfl)) pgs_nil)))) (fun _ _ _ _ => pif_nil) (fun _ _ _ _ => (pe_cmpR op_ge (pv 1) pe_int (nomark _)))) pa_nil)))))), ?_⟩
    generalize hcs : zs.map (·.2) = cs at hQ
    refine ⟨_, rfl, p, zs, rfl, prZ, _, rfl, ?_⟩
    rw [hcs]
    cases hb : riseB (-1) cs with
    | false =>
      refine iteF ?_
      have := hQ H (Same.refl _)
      unfold areC at this
      rw [hb] at this
      exact this
    | true =>
      refine iteT ?_
      refine ⟨_, rfl, p, rfl, ⟨_, SqL.of prZ.at_⟩, fun D hD => ?_⟩
      refine comp_lstQ (K := K) (a := p) (xs := zs.map fun z => V.ref z.1) (fun i σ' H' => ∃ (x y : Option V) (bs : List Bool), σ' = [x, y] ∧ H' D = some (.lst (bs.map V.bl)) ∧ bs = (cs.take i).map (fun c => decide (1 ≤ c.2)) ∧ Same H H')
        ⟨none, none, [], rfl, upd_same, by rw [List.take_zero]; rfl, same_new hD _⟩ (fun i σ' H' _ ⟨_, _, _, _, _, _, e⟩ => SqL.of (e _ _ prZ.at_)) ?_ ?_
      · rintro i v σ' H' hi ⟨x, y, bs, rfl, hB, hbs, sm⟩
        obtain ⟨z, hz, rfl⟩ := ref_at hi
        have hlt : i < (zs.map fun z => V.ref z.1).length := (List.getElem?_eq_some_iff.mp hi).1
        have hck : cs[i]? = some z.2 := by rw [← hcs, List.getElem?_map, hz]; rfl
        refine ⟨z.1, _, rfl, SqT.of (sm _ _ (prZ.each z (List.mem_of_getElem? hz))), rfl, _, _, rfl, _, _, rfl, rfl, ?_⟩
        refine trueT ?_
        refine ⟨_, rfl, _, _, rfl, rfl, ?_⟩
        have hbl : bs.length ≤ i := by rw [hbs, List.length_map, List.length_take]; trivial
        refine ⟨D, _, _, rfl, rfl, hB, fits_lt (by rw [List.length_map]; rw [List.length_map] at hlt; trivial), ?_⟩
        refine CW.next hlt ⟨_, _, bs ++ [decide (1 ≤ z.2.2)], rfl, by rw [upd_same, List.map_append]; rfl, ?_, same_upd sm _ hD⟩
        rw [hbs, take_at hck, List.map_append]
        rfl
      · rintro σ' H' ⟨x, y, bs, rfl, hB, hbs, sm⟩
        refine ⟨D, bs, rfl, SqL.of hB, ?_⟩
        have := hQ H' sm
        unfold areC at this
        rw [hb, Bool.true_and] at this
        rw [hbs, List.take_of_length_le (by rw [← hcs, List.length_map, List.length_map]; exact Nat.le_refl _), List.all_map]
        exact this
theorem sc_pair : FnScope ["thing"] ["thing"] (defScope s_pair) := ⟨rfl, rfl, rfl, by decide +kernel, rfl, by decide +kernel, by decide +kernel⟩
theorem ok_pair {f f_whole : Addr} {fd d_whole : FuncData} (F : Fun K "is_pair" "is_pair" s_pair f fd) (B : Bls mg) 
    (G_whole : FnOk P w K mg base (CXW P w) 1 f_whole d_whole ["thing"] (spWhole)) (b_whole : Binds K d_whole ["thing"] []) (k_whole : keepIn K (.ref f_whole) = true) (m_whole : mg "is_whole" = some (.ref f_whole)) : FnOk P w K mg base (CXW P w) 2 f fd ["thing"] (spPair) := by
  refine F.okN sc_pair (fun vs H Q E h => ?_) (fun cdv A outer s H vs Q E hr h => ?_)
  · obtain ⟨t, a, b, rfl, _⟩ := h
    rfl
  · obtain ⟨t, a, b, rfl, ht, q⟩ := h
    refine ⟨_, (pss_one (ps_ret (pe_and (pe_callB (r := rIsi K) call_isi rfl B.isi boot_isi (pa_cons (pv 0) (pa_cons (pe_bltn (v := .ty "tuple") rfl B.tuple boot_tuple' rfl) pa_nil))) (pe_and (pe_cmpR op_eq (pe_callB call_len_seq rfl B.len PySem.boot_len (pa_cons (pv 0) pa_nil)) pe_int (nomark _)) (pe_and (pe_call G_whole hr rfl m_whole k_whole b_whole .nil passN (pa_cons (pe_ix ix_tup (pv 0) pe_int (fun _ _ => rfl)) pa_nil)) (pe_one (pe_call G_whole hr rfl m_whole k_whole b_whole .nil passN (pa_cons (pe_ix ix_tup (pv 0) pe_int (fun _ _ => rfl)) pa_nil)))))))), ?_⟩
    have hs : SqT K H t [.int a, .int b] := SqT.of ht
    refine ⟨_, rfl, _, _, _, _, true, rfl, .of (.tup ht), rfl, kit_refl _ _, _, rfl, ?_⟩
    refine iteT ?_
    refine ⟨_, rfl, t, _, rfl, .inr hs, rfl, _, rfl, ?_⟩
    refine iteT ?_
    refine ⟨_, rfl, t, _, _, _, rfl, rfl, hs, rfl, a, rfl, _, rfl, ?_⟩
    refine iteT ?_
    refine ⟨_, rfl, t, _, _, _, rfl, rfl, hs, rfl, b, rfl, ?_⟩
    exact q
theorem sc_have : FnScope ["counts"] ["counts"] (defScope s_have) := ⟨rfl, rfl, rfl, by decide +kernel, rfl, by decide +kernel, by decide +kernel⟩
theorem ok_have {f f_arec f_pair : Addr} {fd d_arec d_pair : FuncData} (F : Fun K "have_texts" "have_texts" s_have f fd) (B : Bls mg) (m_MS : MS mg) (n_sum : mg "sum" = none) 
    (G_arec : FnOk P w K mg base (CXW P w) 2 f_arec d_arec ["counts"] (spAreC)) (b_arec : Binds K d_arec ["counts"] []) (k_arec : keepIn K (.ref f_arec) = true) (m_arec : mg "are_counts" = some (.ref f_arec)) 
    (G_pair : FnOk P w K mg base (CXW P w) 2 f_pair d_pair ["thing"] (spPair)) (b_pair : Binds K d_pair ["thing"] []) (k_pair : keepIn K (.ref f_pair) = true) (m_pair : mg "is_pair" = some (.ref f_pair)) : FnOk P w K mg base (CXW P w) 3 f fd ["counts"] (spHave) := by
  refine F.okN sc_have (fun vs H Q E h => ?_) (fun cdv A outer s H vs Q E hr h => ?_)
  · obtain ⟨p, zs, rfl, _⟩ := h
    rfl
  · obtain ⟨p, zs, rfl, prZ, hzl, hQ⟩ := h
    obtain ⟨u_MS, m_v, r_v⟩ := m_MS
    refine ⟨_, (pss_cons (ps_if (PW.pt (pw_or (pt_not (pt_val (pe_callB (r := rIsi K) call_isi rfl B.isi boot_isi (pa_cons (pv 0) (pa_cons (pe_bltn (v := .ty "list") rfl B.list boot_list' rfl) pa_nil))))) (pw_or1 (pt_not (pt_val (pe_callB (call_allL rfl) rfl B.all boot_all' (pa_cons (pe_comp (N := ["thing"]) (js := [none]) (g := (gName 0)) (tc := tTrue) (te := (tCall (spPair) [] E0 (tCons (tVar 0) tNil))) rfl (comp_scope (osc := defScope s_have) (XN := ["counts"]) rfl rfl rfl (by decide +kernel)) (pi_list (pv 0)) (fun _ _ _ _ => pg_name (i := 0) (show (["thing"] : List Str).Nodup by decide +kernel) rfl (Or.inl rfl)) (fun _ _ _ _ => pif_nil) (fun _ _ _ _ => (pe_call G_pair hr rfl m_pair k_pair b_pair .nil passN (pa_cons (pv 0) pa_nil)))) pa_nil)))))))
        (pss_one (ps_ret pe_bl))
        pss_nil)
      (pss_one (ps_ret (pe_and (pe_call G_arec hr rfl m_arec k_arec b_arec .nil passN (pa_cons (pv 0) pa_nil)) (pe_one (pe_cmpR op_le (pe_callB (call_sum rfl) rfl n_sum boot_sum' (pa_cons (pe_comp (N := ["sign", "times"]) (js := [none, none]) (g := (gTup K 2 (gCons (gName 0) (gCons (gName 1) gNil)))) (tc := tTrue) (te := (tVar 1)) rfl (comp_scope (osc := defScope s_have) (XN := ["counts"]) rfl rfl rfl (by decide +kernel)) (pi_list (pv 0)) (fun _ _ _ _ => (pg_tup rfl (pgs_cons (pg_name (i := 0) (show (["sign", "times"] : List Str).Nodup by decide +kernel) rfl (Or.inl rfl)) (pgs_cons (pg_name (i := 1) (show (["sign", "times"] : List Str).Nodup by decide +kernel) rfl (Or.inl rfl)) pgs_nil)))) (fun _ _ _ _ => pif_nil) (fun _ _ _ _ => (pv 1))) pa_nil)) (pe_glob (v := .int 400) rfl m_v r_v) (nomark _))))))), ?_⟩
    generalize hcs : zs.map (·.2) = cs at hQ
    have hcl : cs.length = zs.length := by rw [← hcs, List.length_map]
    refine ⟨_, rfl, _, _, _, _, true, rfl, .of (.lst prZ.at_), rfl, kit_refl _ _, _, rfl, ?_⟩
    refine iteF ?_
    refine ⟨_, rfl, p, rfl, ⟨_, SqL.of prZ.at_⟩, fun D hD => ?_⟩
    refine comp_lstQ (K := K) (a := p) (xs := zs.map fun z => V.ref z.1) (fun i σ' H' => ∃ (x : Option V) (bs : List Bool), σ' = [x] ∧ H' D = some (.lst (bs.map V.bl)) ∧ bs = List.replicate i true ∧ Same H H')
      ⟨none, [], rfl, upd_same, rfl, same_new hD _⟩ (fun i σ' H' _ ⟨_, _, _, _, _, e⟩ => SqL.of (e _ _ prZ.at_)) ?_ ?_
    · rintro i v σ' H' hi ⟨x, bs, rfl, hB, hbs, sm⟩
      obtain ⟨z, hz, rfl⟩ := ref_at hi
      have hlt : i < (zs.map fun z => V.ref z.1).length := (List.getElem?_eq_some_iff.mp hi).1
      have hbl : bs.length = i := by rw [hbs, List.length_replicate]
      refine nameT ?_
      refine ⟨_, rfl, z.1, z.2.1, z.2.2, rfl, sm _ _ (prZ.each z (List.mem_of_getElem? hz)), ?_⟩
      refine ⟨D, _, _, rfl, rfl, hB, fits_lt (by rw [List.length_map]; rw [List.length_map] at hlt; trivial), ?_⟩
      refine CW.next hlt ⟨_, bs ++ [true], rfl, by rw [upd_same, List.map_append]; rfl, ?_, same_upd sm _ hD⟩
      rw [hbs, ← List.replicate_succ']
    rintro σ' H1 ⟨x, bs, rfl, hB, hbs, sm1⟩
    refine ⟨D, bs, rfl, SqL.of hB, _, rfl, ?_⟩
    have hall : bs.all id = true := by rw [hbs]; exact List.all_eq_true.mpr fun b hb => (List.mem_replicate.mp hb).2
    rw [hall]
    refine iteF ?_
    refine ⟨_, rfl, p, zs, rfl, prZ.same sm1, hzl, fun H2 s2 => ?_⟩
    have sm2 := sm1.trans s2
    rw [hcs]
    refine ⟨_, rfl, ?_⟩
    cases hb : areC cs with
    | false =>
      refine iteF ?_
      have := hQ H2 sm2
      unfold haveT at this
      rw [hb] at this
      exact this
    | true =>
      refine iteT ?_
      have prZ2 := prZ.same sm2
      refine ⟨_, rfl, p, rfl, ⟨_, SqL.of prZ2.at_⟩, fun D2 hD2 => ?_⟩
      refine comp_lstQ (K := K) (a := p) (xs := zs.map fun z => V.ref z.1) (fun i σ' H' => ∃ (x y : Option V) (ls : List Int), σ' = [x, y] ∧ H' D2 = some (lsI ls) ∧ ls = (cs.take i).map (·.2) ∧ Same H2 H')
        ⟨none, none, [], rfl, upd_same, by rw [List.take_zero]; rfl, same_new hD2 _⟩ (fun i σ' H' _ ⟨_, _, _, _, _, _, e⟩ => SqL.of (e _ _ prZ2.at_)) ?_ ?_
      · rintro i v σ' H' hi ⟨x, y, ls, rfl, hB, hls, sm⟩
        obtain ⟨z, hz, rfl⟩ := ref_at hi
        have hlt : i < (zs.map fun z => V.ref z.1).length := (List.getElem?_eq_some_iff.mp hi).1
        have hck : cs[i]? = some z.2 := by rw [← hcs, List.getElem?_map, hz]; rfl
        have hbl : ls.length ≤ i := by rw [hls, List.length_map, List.length_take]; trivial
        refine ⟨z.1, _, rfl, SqT.of (sm _ _ (prZ2.each z (List.mem_of_getElem? hz))), rfl, _, _, rfl, _, _, rfl, rfl, ?_⟩
        refine trueT ?_
        refine ⟨_, rfl, D2, _, _, rfl, rfl, hB, fits_lt (by rw [List.length_map]; rw [List.length_map] at hlt; trivial), ?_⟩
        refine CW.next hlt ⟨_, _, ls ++ [z.2.2], rfl, by rw [upd_same]; unfold lsI; rw [List.map_append]; rfl, ?_, same_upd sm _ hD2⟩
        rw [hls, take_at hck, List.map_append]
        rfl
      rintro σ' H3 ⟨x, y, ls, rfl, hB, hls, sm3⟩
      rw [List.length_map, ← hcl, List.take_length] at hls
      refine ⟨D2, ls, rfl, SqL.of hB, _, _, rfl, rfl, ?_⟩
      have := hQ H3 (sm2.trans sm3)
      unfold haveT sumT at this
      rw [hb, Bool.true_and] at this
      rw [hls]
      exact this
end
end K52
set_option Elab.async false
set_option linter.all false
set_option maxRecDepth 100000
set_option maxHeartbeats 4000000
namespace K52
open PySem L2 PySem.W PH
section
variable {P : Program} {w : World} {K : PySem.W.Frag} {mg : Str → Option Value} {base : Heap}
theorem sc_orders : FnScope ["counts", "orders", "placed", "sign", "times", "k"] ["counts"] (defScope s_orders) := ⟨rfl, rfl, rfl, by decide +kernel, rfl, by decide +kernel, by decide +kernel⟩
theorem ok_orders {f : Addr} {fd : FuncData} (F : Fun K "orders_of" "orders_of" s_orders f fd) (B : Bls mg) : FnOk P w K mg base (CXW P w) 1 f fd ["counts"] (spOrders) := by
  refine F.okN sc_orders (fun vs H Q E h => ?_) (fun cdv A outer s H vs Q E hr h => ?_)
  · obtain ⟨p, zs, rfl, _⟩ := h
    rfl
  · obtain ⟨p, zs, rfl, prZ, hzl, hge, hsum, q⟩ := h
    refine ⟨_, (pss_cons (ps_set (i := 1) sc_orders.nd rfl (Or.inl rfl) pe_int)
      (pss_cons (ps_set (i := 2) sc_orders.nd rfl (Or.inl rfl) pe_int)
      (pss_cons (ps_for PassesOwn.never rfl (pi_list (pv 0)) (pg_tup rfl (pgs_cons (pg_name (i := 3) sc_orders.nd rfl (Or.inl rfl)) (pgs_cons (pg_name (i := 4) sc_orders.nd rfl (Or.inl rfl)) pgs_nil)))
        (pss_one (ps_for PassesOwn.never rfl (pi_range2 rfl B.range (pa_cons pe_int (pa_cons (pe_op op_add (pv 4) pe_int) pa_nil))) (pg_name (i := 5) sc_orders.nd rfl (Or.inl rfl))
          (pss_cons (ps_set (i := 2) sc_orders.nd rfl (Or.inl rfl) (pe_op op_add (pv 2) pe_int))
          (pss_one (ps_set (i := 1) sc_orders.nd rfl (Or.inl rfl) (pe_op op_fdiv (pe_op op_mul (pv 1) (pv 2)) (pv 5))))))))
      (pss_one (ps_ret (pv 1)))))), ?_⟩
    generalize hcs : zs.map (·.2) = cs at hge hsum q
    have hcl : cs.length = zs.length := by rw [← hcs, List.length_map]
    have hS := sumT_nat hge
    refine ⟨_, rfl, p, rfl, ⟨_, SqL.of prZ.at_⟩, for_list (K := K) (a := p) (xs := zs.map fun z => V.ref z.1) (fun i σ H2 => ∃ (v3 v4 v5 : Option V), σ = [some (.ref p), some (.int (mlt 1 0 (tms (cs.take i)) : Nat)), some (.int ((tms (cs.take i)).sum : Nat)), v3, v4, v5] ∧ H2 = H)
      ⟨none, none, none, rfl, rfl⟩ (fun i σ H2 _ ⟨_, _, _, _, e⟩ => by rw [e]; exact SqL.of prZ.at_) ?_ ?_⟩
    · rintro i y σ H2 hi ⟨v3, v4, v5, rfl, rfl⟩
      obtain ⟨z, hz, rfl⟩ := ref_at hi
      have hck : cs[i]? = some z.2 := by rw [← hcs, List.getElem?_map, hz]; rfl
      have hz1 := hge _ (List.mem_of_getElem? hck)
      have hst := tms_sum_take hck
      obtain ⟨t, ht⟩ : ∃ t : Nat, z.2.2 = (t : Int) := ⟨z.2.2.toNat, by trivial⟩
      have htn : z.2.2.toNat = t := by trivial
      rw [htn] at hst
      refine ⟨z.1, _, rfl, SqT.of (prZ.each z (List.mem_of_getElem? hz)), rfl, _, _, rfl, _, _, rfl, rfl, ?_⟩
      rw [ht]
      refine ⟨_, rfl, _, _, rfl, rfl, _, _, rfl, ⟨by trivial, by trivial, by trivial, by trivial⟩, ?_⟩
      rw [show ((t : Int) + 1 - 1).toNat = t by trivial]
      generalize hM : mlt 1 0 (tms (cs.take i)) = M
      generalize hs : (tms (cs.take i)).sum = s at hst
      refine for_range (n := t) (fun k σ H3 => ∃ (v5 : Option V), σ = [some (.ref p), some (.int (M * ch (s + k) k : Nat)), some (.int ((s + k : Nat) : Int)), some (.int z.2.1), some (.int (t : Int)), v5] ∧ H3 = H2)
        ⟨v5, by rw [show ch (s + 0) 0 = 1 by cases s <;> rfl, Nat.mul_one]; rfl, rfl⟩ ?_ ?_
      · rintro k σ H3 hk ⟨w5, rfl, rfl⟩
        refine ⟨_, rfl, _, _, rfl, rfl, ?_⟩
        refine gNx (v' := V.int ((s + k + 1 : Nat) : Int)) (by show V.int ((s + k + 1 : Nat) : Int) = V.int (((s + k : Nat) : Int) + 1); rfl) ?_
        refine ⟨_, rfl, _, rfl, _, _, rfl, rfl, .inr ⟨by trivial, by trivial⟩, _, rfl, _, _, rfl, rfl, ⟨by trivial, by trivial⟩, ?_⟩
        rw [show (1 : Int) + (k : Int) = ((k + 1 : Nat) : Int) by trivial]
        refine gNx (v' := V.int (M * ch (s + (k + 1)) (k + 1) : Nat)) (by rw [← step_ch]) ?_
        exact ⟨_, rfl, rfl⟩
      · rintro σ H3 ⟨w5, rfl, rfl⟩
        rw [mlt_take hck, sum_take hck, htn, hM, hs]
        exact ⟨_, _, _, rfl, rfl⟩
    · rintro σ H2 ⟨v3, v4, v5, rfl, rfl⟩
      rw [List.length_map, ← hcl, List.take_length]
      refine ⟨_, rfl, ?_⟩
      exact q
theorem sc_texts : FnScope ["counts"] ["counts"] (defScope s_texts) := ⟨rfl, rfl, rfl, by decide +kernel, rfl, by decide +kernel, by decide +kernel⟩
theorem ok_texts {f c_Broken f_have f_orders : Addr} {fd d_have d_orders : FuncData} (F : Fun K "texts_with" "texts_with" s_texts f fd) (B : Bls mg) (X_Broken : Ex K mg "Broken" c_Broken) (m_Broken : mg "Broken" = some (.ref c_Broken)) 
    (G_have : FnOk P w K mg base (CXW P w) 3 f_have d_have ["counts"] (spHave)) (b_have : Binds K d_have ["counts"] []) (k_have : keepIn K (.ref f_have) = true) (m_have : mg "have_texts" = some (.ref f_have)) 
    (G_orders : FnOk P w K mg base (CXW P w) 1 f_orders d_orders ["counts"] (spOrders)) (b_orders : Binds K d_orders ["counts"] []) (k_orders : keepIn K (.ref f_orders) = true) (m_orders : mg "orders_of" = some (.ref f_orders)) : FnOk P w K mg base (CXW P w) 4 f fd ["counts"] (spTexts c_Broken) := by
  refine F.okX sc_texts (fun vs H Q E h => ?_) (fun cdv A outer s H vs Q E hr h => ?_)
  · obtain ⟨p, zs, rfl, _⟩ := h
    rfl
  · obtain ⟨p, zs, rfl, prZ, hzl, hE, hQ⟩ := h
    refine ⟨_, (pss_cons (ps_if (pt_not (pt_val (pe_call G_have hr rfl m_have k_have b_have .nil passW (pa_cons (pv 0) pa_nil))))
        (pss_one (ps_raise PySem.F.excBase_ValueError X_Broken.ex X_Broken.mg rfl))
        pss_nil)
      (pss_one (ps_ret (pe_call G_orders (hr.mono (show 1 ≤ 3 by decide)) rfl m_orders k_orders b_orders .nil passW (pa_cons (pv 0) pa_nil))))), ?_⟩
    refine ⟨_, rfl, p, zs, rfl, prZ, hzl, fun H1 s1 => ⟨_, rfl, ?_⟩⟩
    cases hb : haveT (zs.map (·.2)) with
    | false =>
      refine iteT ?_
      exact hE hb H1 s1
    | true =>
      refine iteF ?_
      have hb' := hb
      unfold haveT at hb'
      rw [Bool.and_eq_true] at hb'
      have hge : ∀ c ∈ zs.map (·.2), 1 ≤ c.2 := fun c hc => by
        have := hb'.1
        unfold areC at this
        rw [Bool.and_eq_true] at this
        exact of_decide_eq_true (List.all_eq_true.mp this.2 c hc)
      refine ⟨_, rfl, p, zs, rfl, prZ.same s1, hzl, hge, of_decide_eq_true hb'.2, ?_⟩
      exact hQ hb H1 s1
end
end K52
set_option Elab.async false
set_option linter.all false
set_option maxRecDepth 100000
set_option maxHeartbeats 4000000
namespace K52
open PySem L2 PySem.W PH
section
variable {P : Program} {w : World} {K : PySem.W.Frag} {mg : Str → Option Value} {base : Heap}
theorem sc_share : FnScope ["text", "counts", "left", "texts", "number", "sign", "many"] ["text"] (defScope s_share) := ⟨rfl, rfl, rfl, by decide +kernel, rfl, by decide +kernel, by decide +kernel⟩
theorem ok_share {f f_counts f_orders : Addr} {fd d_counts d_orders : FuncData} (F : Fun K "share_of" "share_of" s_share f fd) (B : Bls mg) 
    (G_counts : FnOk P w K mg base (CXW P w) 1 f_counts d_counts ["text"] (spCounts K)) (b_counts : Binds K d_counts ["text"] []) (k_counts : keepIn K (.ref f_counts) = true) (m_counts : mg "counts_of" = some (.ref f_counts)) 
    (G_orders : FnOk P w K mg base (CXW P w) 1 f_orders d_orders ["counts"] (spOrders)) (b_orders : Binds K d_orders ["counts"] []) (k_orders : keepIn K (.ref f_orders) = true) (m_orders : mg "orders_of" = some (.ref f_orders)) : FnOk P w K mg base (CXW P w) 2 f fd ["text"] (spShare) := by
  refine F.okN sc_share (fun vs H Q E h => ?_) (fun cdv A outer s H vs Q E hr h => ?_)
  · obtain ⟨a, ns, rfl, _⟩ := h
    rfl
  · obtain ⟨a, ns, rfl, ha, hl4, hb, hQ⟩ := h
    refine ⟨_, (pss_cons (ps_set (i := 1) sc_share.nd rfl (Or.inl rfl) (pe_call G_counts hr rfl m_counts k_counts b_counts .nil passN (pa_cons (pv 0) pa_nil)))
      (pss_cons (ps_set (i := 2) sc_share.nd rfl (Or.inl rfl) (pe_callB call_sortedL rfl B.sorted boot_sorted' (pa_cons (pv 0) pa_nil)))
      (pss_cons (ps_set (i := 3) sc_share.nd rfl (Or.inl rfl) (pe_call G_orders hr rfl m_orders k_orders b_orders .nil passN (pa_cons (pv 1) pa_nil)))
      (pss_cons (ps_set (i := 4) sc_share.nd rfl (Or.inl rfl) pe_int)
      (pss_cons (ps_for PassesOwn.never rfl (pi_list (pv 0)) (pg_name (i := 5) sc_share.nd rfl (Or.inl rfl))
        (pss_cons (ps_set (i := 6) sc_share.nd rfl (Or.inl rfl) (pe_callB call_len_seq rfl B.len PySem.boot_len (pa_cons (pv 2) pa_nil)))
        (pss_cons (ps_set (i := 4) sc_share.nd rfl (Or.inl rfl) (pe_op op_add (pv 4) (pe_op op_fdiv (pe_op op_mul (pv 3) (pe_bm PySem.F.plainAttrs_list PySem.F.slot_list_index PySem.F.type_list_index mt_index (pv 2) (pa_cons (pv 5) pa_nil))) (pv 6))))
        (pss_cons (ps_set (i := 3) sc_share.nd rfl (Or.inl rfl) (pe_op op_fdiv (pe_op op_mul (pv 3) (pe_bm PySem.F.plainAttrs_list PySem.F.slot_list_count PySem.F.type_list_count mt_count (pv 2) (pa_cons (pv 5) pa_nil))) (pv 6)))
        (pss_one (ps_expr (pe_bm PySem.F.plainAttrs_list PySem.F.slot_list_remove PySem.F.type_list_remove mt_remove (pv 2) (pa_cons (pv 5) pa_nil))))))))
      (pss_one (ps_ret (pe_tup (pa_cons (pv 1) (pa_cons (pv 4) pa_nil)))))))))), ?_⟩
    have hri := cnts_rise hb
    refine ⟨_, rfl, a, ns, rfl, SqL.of ha, by trivial, hb, fun C zs H1 s1 hC prC hzs => ?_⟩
    have ha1 := s1 _ _ ha
    have hzl : zs.length ≤ 256 := by have := cnts_few hb; rw [← hzs, List.length_map] at this; exact this
    refine ⟨_, rfl, a, ns, rfl, SqL.of ha1, fun l0 L hp0 hs0 hL => ?_⟩
    have u2 := same_new hL (.lst (l0.map V.int))
    have hL2 : upd H1 L (.lst (l0.map V.int)) L = some (lsI l0) := upd_same
    generalize upd H1 L (.lst (l0.map V.int)) = H2 at u2 hL2 ⊢
    have prC2 := prC.same u2
    refine ⟨_, rfl, C, zs, rfl, prC2, by trivial, by rw [hzs]; exact hri.ge, by rw [hzs, cnts_sumT hb]; trivial, ?_⟩
    rw [hzs, cnts_tx hb, ← tx_perm hp0]
    refine ⟨_, rfl, a, rfl, ⟨_, SqL.of (u2 _ _ ha1)⟩, for_list (K := K) (a := a) (xs := ns.map V.int) (fun i σ H' => ∃ (l : List Int) (k : Nat) (v5 v6 : Option V), σ = [some (.ref a), some (.ref C), some (.ref L), some (.int (tx l : Nat)), some (.int (k : Nat)), v5, v6] ∧ l.Pairwise (· ≤ ·) ∧ l.Perm (ns.drop i) ∧ k + nm (ns.drop i) = nm ns ∧ H' L = some (lsI l) ∧ Same H1 H')
      ⟨l0, 0, none, none, rfl, hs0, by rw [List.drop_zero]; exact hp0, by rw [List.drop_zero, Nat.zero_add], hL2, u2⟩ (fun i σ H' _ ⟨_, _, _, _, _, _, _, _, _, e⟩ => SqL.of (e _ _ ha1)) ?_ ?_⟩
    · rintro i y σ H' hi ⟨l, k, v5, v6, rfl, hsl, hpl, hk, hL', sm⟩
      obtain ⟨x, rfl, hx⟩ := int_at hi
      have hd : ns.drop i = x :: ns.drop (i + 1) := by
        obtain ⟨h1, h2⟩ := List.getElem?_eq_some_iff.mp hx
        rw [← h2, ← List.drop_eq_getElem_cons h1]
      rw [hd] at hpl hk
      obtain ⟨hxx, e1, e2, pr'⟩ := read_step hsl hpl.symm
      have hxm : x ∈ l := hpl.symm.subset List.mem_cons_self
      obtain ⟨pre, post, hl, hpre, her, hix⟩ := erase_at hxm
      have hl0 : 0 < l.length := List.length_pos_of_mem hxm
      have hl4 : l.length ≤ 400 := by
        have := hpl.length_eq
        rw [← hd, List.length_drop] at this
        trivial
      refine ⟨_, rfl, L, _, rfl, .inl (SqL.of hL'), ?_⟩
      refine gNx (v' := V.int (l.length : Nat)) (by rw [List.length_map]) ?_
      have hS4 : SqL K H' L ((pre ++ x :: post).map V.int) := by rw [← hl]; exact SqL.of hL'
      refine ⟨_, rfl, _, rfl, _, rfl, .inl ⟨rfl, _, SqL.of hL'⟩, _, rfl, L, pre, x, post, rfl, rfl, hS4, hpre, _, _, rfl, rfl, .inr ⟨?_, ?_⟩, _, rfl, _, _, rfl, rfl, ⟨by trivial, by trivial⟩, _, _, rfl, rfl, ?_⟩
      · show -(2 ^ 64) < ((pre.length : Nat) : Int)
        trivial
      · show ((pre.length : Nat) : Int) < 2 ^ 64
        have : pre.length ≤ l.length := by rw [hl, List.length_append]; trivial
        trivial
      have er : (k : Int) + (tx l : Int) * (pre.length : Int) / (l.length : Int) = ((k + tx l * l.idxOf x / l.length : Nat) : Int) := by
        rw [Int.natCast_add, Int.natCast_ediv, Int.natCast_mul, hix]
      refine gNx (v' := V.int ((k + tx l * l.idxOf x / l.length : Nat) : Int)) (by rw [← er]) ?_
      refine ⟨_, rfl, _, rfl, .inl ⟨rfl, _, SqL.of hL'⟩, _, rfl, L, l, x, rfl, rfl, SqL.of hL', _, _, rfl, rfl, .inr ⟨?_, ?_⟩, _, rfl, _, _, rfl, rfl, ⟨by trivial, by trivial⟩, ?_⟩
      · show -(2 ^ 64) < ((l.count x : Nat) : Int)
        trivial
      · show ((l.count x : Nat) : Int) < 2 ^ 64
        have := List.count_le_length (a := x) (l := l)
        trivial
      have et : (tx l : Int) * (l.count x : Int) / (l.length : Int) = ((tx (l.erase x) : Nat) : Int) := by
        rw [← e1, Int.natCast_ediv, Int.natCast_mul]
      refine gNx (v' := V.int ((tx (l.erase x) : Nat) : Int)) (by rw [← et]) ?_
      refine ⟨_, rfl, .inl ⟨rfl, _, SqL.of hL'⟩, _, rfl, L, pre, x, post, rfl, rfl, by rw [← hl]; exact hL', hpre, ?_⟩
      rw [← her]
      refine ⟨l.erase x, k + tx l * l.idxOf x / l.length, _, _, rfl, hsl.sublist List.erase_sublist, pr'.symm, ?_, upd_same, same_upd sm _ hL⟩
      generalize tx l * l.idxOf x / l.length = q at e2 ⊢
      trivial
    · rintro σ H' ⟨l, k, v5, v6, rfl, hsl, hpl, hk, hL', sm⟩
      rw [List.length_map, List.drop_length] at hk
      have hk' : k = nm ns := hk
      subst hk'
      refine ⟨_, rfl, _, rfl, (by show 2 ≤ sizeLine; decide), fun T hT => ?_⟩
      have sT := sm.trans (same_new hT (.tup [.ref C, .int (nm ns : Nat)]))
      exact hQ T C zs _ (s1.trans sT) upd_same hC (prC.same sT) hzs
end
end K52
set_option Elab.async false
set_option linter.all false
set_option maxRecDepth 100000
set_option maxHeartbeats 4000000
namespace K52
open PySem L2 PySem.W PH
section
variable {P : Program} {w : World} {K : PySem.W.Frag} {mg : Str → Option Value} {base : Heap}
theorem sc_inord : FnScope ["counts", "signs", "sign", "times"] ["counts"] (defScope s_inord) := ⟨rfl, rfl, rfl, by decide +kernel, rfl, by decide +kernel, by decide +kernel⟩
theorem ok_inord {f : Addr} {fd : FuncData} (F : Fun K "signs_in_order" "signs_in_order" s_inord f fd) (B : Bls mg) : FnOk P w K mg base (CXW P w) 1 f fd ["counts"] (spInOrd) := by
  refine F.okN sc_inord (fun vs H Q E h => ?_) (fun cdv A outer s H vs Q E hr h => ?_)
  · obtain ⟨p, zs, rfl, _⟩ := h
    rfl
  · obtain ⟨p, zs, rfl, prZ, hzl, hge, hsum, hQ⟩ := h
    refine ⟨_, (pss_cons (ps_set (i := 1) sc_inord.nd rfl (Or.inl rfl) (pe_lst pa_nil))
      (pss_cons (ps_for PassesOwn.never rfl (pi_list (pv 0)) (pg_tup rfl (pgs_cons (pg_name (i := 2) sc_inord.nd rfl (Or.inl rfl)) (pgs_cons (pg_name (i := 3) sc_inord.nd rfl (Or.inl rfl)) pgs_nil)))
        (pss_one (ps_expr (pe_bm PySem.F.plainAttrs_list PySem.F.slot_list_extend PySem.F.type_list_extend mt_extend (pv 1) (pa_cons (pe_op op_rep (pe_lst (pa_cons (pv 2) pa_nil)) (pv 3)) pa_nil)))))
      (pss_one (ps_ret (pv 1))))), ?_⟩
    generalize hcs : zs.map (·.2) = cs at hge hsum hQ
    have hcl : cs.length = zs.length := by rw [← hcs, List.length_map]
    have hSn := sumT_nat hge
    refine ⟨(by show 0 ≤ sizeLine; decide), fun L hL => ?_⟩
    have s0 := same_new hL (.lst [])
    refine ⟨_, rfl, p, rfl, ⟨_, SqL.of (s0 _ _ prZ.at_)⟩, for_list (K := K) (a := p) (xs := zs.map fun z => V.ref z.1) (fun i σ H2 => ∃ (v2 v3 : Option V), σ = [some (.ref p), some (.ref L), v2, v3] ∧ H2 L = some (lsI (flat (cs.take i))) ∧ Same H H2)
      ⟨none, none, rfl, upd_same, s0⟩ (fun i σ H2 _ ⟨_, _, _, _, e⟩ => SqL.of (e _ _ prZ.at_)) ?_ ?_⟩
    · rintro i y σ H2 hi ⟨v2, v3, rfl, hL2, sm⟩
      obtain ⟨z, hz, rfl⟩ := ref_at hi
      have hck : cs[i]? = some z.2 := by rw [← hcs, List.getElem?_map, hz]; rfl
      have hz1 := hge _ (List.mem_of_getElem? hck)
      have hst := tms_sum_take hck
      refine ⟨z.1, _, rfl, SqT.of (sm _ _ (prZ.each z (List.mem_of_getElem? hz))), rfl, _, _, rfl, _, _, rfl, rfl, ?_⟩
      refine ⟨_, rfl, .inl ⟨rfl, _, SqL.of hL2⟩, _, rfl, (by show 1 ≤ sizeLine; decide), fun l1 hl1 => ?_⟩
      have s1 := same_new hl1 (.lst [V.int z.2.1])
      refine ⟨_, rfl, l1, _, _, rfl, rfl, upd_same, by trivial, by trivial, ?_, fun l2 hl2 => ?_⟩
      · have : 1 * z.2.2.toNat ≤ 400 := by trivial
        exact Nat.le_trans this (by decide)
      rw [rep_ints]
      have s2 := s1.trans (same_new hl2 (.lst ((List.replicate z.2.2.toNat z.2.1).map V.int)))
      refine ⟨L, l2, _, _, rfl, rfl, s2 _ _ hL2, upd_same, fits (by rw [List.length_map, List.length_map, List.length_replicate, flat_len]; trivial), ?_⟩
      refine ⟨_, _, rfl, ?_, same_upd (sm.trans s2) _ hL⟩
      rw [upd_same, take_at hck, flat_snoc]
      unfold lsI
      rw [List.map_append]
    · rintro σ H2 ⟨v2, v3, rfl, hL2, sm⟩
      rw [List.length_map, ← hcl, List.take_length] at hL2
      refine ⟨_, rfl, ?_⟩
      exact hQ L H2 sm hL hL2
end
end K52
set_option Elab.async false
set_option linter.all false
set_option maxRecDepth 100000
set_option maxHeartbeats 4000000
namespace K52
open PySem L2 PySem.W PH
section
variable {P : Program} {w : World} {K : PySem.W.Frag} {mg : Str → Option Value} {base : Heap}
theorem sc_tbs : FnScope ["counts", "number", "texts", "left", "text", "rest", "many", "sign"] ["counts", "number"] (defScope s_tbs) := ⟨rfl, rfl, rfl, by decide +kernel, rfl, by decide +kernel, by decide +kernel⟩
theorem ok_tbs {f c_Broken f_whole f_texts f_inord : Addr} {fd d_whole d_texts d_inord : FuncData} (F : Fun K "text_by_share" "text_by_share" s_tbs f fd) (B : Bls mg) (X_Broken : Ex K mg "Broken" c_Broken) (m_Broken : mg "Broken" = some (.ref c_Broken)) 
    (G_whole : FnOk P w K mg base (CXW P w) 1 f_whole d_whole ["thing"] (spWhole)) (b_whole : Binds K d_whole ["thing"] []) (k_whole : keepIn K (.ref f_whole) = true) (m_whole : mg "is_whole" = some (.ref f_whole)) 
    (G_texts : FnOk P w K mg base (CXW P w) 4 f_texts d_texts ["counts"] (spTexts c_Broken)) (b_texts : Binds K d_texts ["counts"] []) (k_texts : keepIn K (.ref f_texts) = true) (m_texts : mg "texts_with" = some (.ref f_texts)) 
    (G_inord : FnOk P w K mg base (CXW P w) 1 f_inord d_inord ["counts"] (spInOrd)) (b_inord : Binds K d_inord ["counts"] []) (k_inord : keepIn K (.ref f_inord) = true) (m_inord : mg "signs_in_order" = some (.ref f_inord)) : FnOk P w K mg base (CXW P w) 5 f fd ["counts", "number"] (spTbsN) := by
  refine F.okX sc_tbs (fun vs H Q E h => ?_) (fun cdv A outer s H vs Q E hr h => ?_)
  · obtain ⟨p, zs, t, rfl, _⟩ := h
    rfl
  · obtain ⟨p, zs, t, rfl, prZ, hzl, hhv, hpm, hQ⟩ := h
    refine ⟨_, (pss_cons (ps_set (i := 2) sc_tbs.nd rfl (Or.inl rfl) (pe_call G_texts hr rfl m_texts k_texts b_texts .nil passW (pa_cons (pv 0) pa_nil)))
      (pss_cons (ps_if (PW.pt (pw_or (pt_not (pt_val (pe_call G_whole (hr.mono (show 1 ≤ 4 by decide)) rfl m_whole k_whole b_whole .nil passW (pa_cons (pv 1) pa_nil)))) (pw_or (pt_cmpR op_lt (pv 1) pe_int (nomark _)) (pw_or1 (pt_cmpR op_ge (pv 1) (pv 2) (nomark _))))))
        (pss_one (ps_raise PySem.F.excBase_ValueError X_Broken.ex X_Broken.mg rfl))
        pss_nil)
      (pss_cons (ps_set (i := 3) sc_tbs.nd rfl (Or.inl rfl) (pe_call G_inord (hr.mono (show 1 ≤ 4 by decide)) rfl m_inord k_inord b_inord .nil passW (pa_cons (pv 0) pa_nil)))
      (pss_cons (ps_set (i := 4) sc_tbs.nd rfl (Or.inl rfl) (pe_lst pa_nil))
      (pss_cons (ps_set (i := 5) sc_tbs.nd rfl (Or.inl rfl) (pv 1))
      (pss_cons (ps_while pown (pt_cmpR op_gt (pe_callB call_len_seq rfl B.len PySem.boot_len (pa_cons (pv 3) pa_nil)) pe_int (nomark _))
        (pss_cons (ps_set (i := 6) sc_tbs.nd rfl (Or.inl rfl) (pe_callB call_len_seq rfl B.len PySem.boot_len (pa_cons (pv 3) pa_nil)))
        (pss_cons (ps_set (i := 7) sc_tbs.nd rfl (Or.inl rfl) (pe_ix ix_list (pv 3) (pe_op op_fdivG (pe_op op_mul (pv 5) (pv 6)) (pv 2)) (fun _ _ => rfl)))
        (pss_cons (ps_set (i := 5) sc_tbs.nd rfl (Or.inl rfl) (pe_op op_sub (pv 5) (pe_op op_fdiv (pe_op op_mul (pv 2) (pe_bm PySem.F.plainAttrs_list PySem.F.slot_list_index PySem.F.type_list_index mt_index (pv 3) (pa_cons (pv 7) pa_nil))) (pv 6))))
        (pss_cons (ps_set (i := 2) sc_tbs.nd rfl (Or.inl rfl) (pe_op op_fdiv (pe_op op_mul (pv 2) (pe_bm PySem.F.plainAttrs_list PySem.F.slot_list_count PySem.F.type_list_count mt_count (pv 3) (pa_cons (pv 7) pa_nil))) (pv 6)))
        (pss_cons (ps_expr (pe_bm PySem.F.plainAttrs_list PySem.F.slot_list_remove PySem.F.type_list_remove mt_remove (pv 3) (pa_cons (pv 7) pa_nil)))
        (pss_one (ps_expr (pe_bm PySem.F.plainAttrs_list PySem.F.slot_list_append PySem.F.type_list_append mt_append (pv 4) (pa_cons (pv 7) pa_nil))))))))))
      (pss_one (ps_ret (pv 4))))))))), ?_⟩
    obtain ⟨hri, hsu⟩ := have_of hhv
    have hSn := sumT_nat hri.ge
    refine ⟨_, rfl, p, zs, rfl, prZ, hzl, (fun hf H1 s1 => by rw [hhv] at hf; cases hf), fun _ H1 s1 => ?_⟩
    generalize hcs : zs.map (·.2) = cs at hri hsu hSn hpm ⊢
    have hnt : nm t < mlt 1 0 (tms cs) := by
      have := nm_lt t
      rwa [tx_perm hpm, tx_flat hri] at this
    refine ⟨_, rfl, _, rfl, _, rfl, ?_⟩
    refine iteF ?_
    refine ⟨_, rfl, _, _, rfl, rfl, _, rfl, ?_⟩
    rw [decide_eq_false (show ¬ ((nm t : Nat) : Int) < 0 by trivial)]
    refine iteF ?_
    refine ⟨_, rfl, _, rfl, _, _, rfl, rfl, _, rfl, ?_⟩
    rw [decide_eq_false (show ¬ (mlt 1 0 (tms cs) : Int) ≤ ((nm t : Nat) : Int) by trivial)]
    refine iteF ?_
    have prZ1 := prZ.same s1
    refine ⟨_, rfl, p, zs, rfl, prZ1, hzl, by rw [hcs]; exact hri.ge, by rw [hcs]; exact hsu, fun L H2 s2 hL hL2 => ?_⟩
    rw [hcs] at hL2
    refine ⟨(by show 0 ≤ sizeLine; decide), fun T hT => ?_⟩
    have s3 := same_new hT (.lst [])
    have nLT : L ≠ T := ne_of_none hL2 hT
    refine ⟨_, rfl, ?_⟩
    have sH : Same H (upd H2 T (.lst [])) := s1.trans (s2.trans s3)
    have hLH : H L = none := s1.free hL
    have hTH : H T = none := (s1.trans s2).free hT
    have fin := hQ T
    clear hQ
    refine ⟨fun m σ H' => ∃ (l ts r : List Int) (v6 v7 : Option V), m = l.length ∧ σ = [some (.ref p), some (.int (nm t : Nat)), some (.int (tx l : Nat)), some (.ref L), some (.ref T), some (.int (nm r : Nat)), v6, v7] ∧ l.Pairwise (· ≤ ·) ∧ r.Perm l ∧ ts ++ r = t ∧ l.length + ts.length = (tms cs).sum ∧ H' L = some (lsI l) ∧ H' T = some (lsI ts) ∧ Same H H',
      ⟨_, flat cs, [], t, none, none, rfl, ?_, flat_sorted hri, hpm, rfl, by rw [flat_len]; rfl, s3 _ _ hL2, upd_same, sH⟩, ?_⟩
    · rw [tx_flat hri]; rfl
    rintro m σ H4 ⟨l, ts, r, v6, v7, rfl, rfl, hsl, hpr, htr, hlen, hL4, hT4, sm⟩
    refine ⟨_, rfl, L, _, rfl, .inl (SqL.of hL4), _, _, rfl, rfl, _, rfl, ?_⟩
    rw [List.length_map]
    cases r with
    | nil =>
      have hl : l = [] := hpr.symm.eq_nil
      subst hl
      refine iteF ?_
      refine ⟨_, rfl, ?_⟩
      rw [List.append_nil] at htr
      subst htr
      exact fin H4 sm hTH hT4
    | cons x r =>
      have hxm : x ∈ l := hpr.subset List.mem_cons_self
      have hl0 : 0 < l.length := List.length_pos_of_mem hxm
      rw [decide_eq_true (show (0 : Int) < ((l.length : Nat) : Int) by trivial)]
      refine iteT ?_
      have hl4 : l.length ≤ 400 := by trivial
      obtain ⟨hx, e1, e2, pr'⟩ := read_step hsl hpr
      obtain ⟨pre, post, hl, hpre, her, hix⟩ := erase_at hxm
      have hTp := tx_pos l
      have hTl : tx l < 2 ^ 3000 := Nat.lt_of_le_of_lt (tx_le l) (fac_lt hl4)
      refine ⟨fun σ' H'' => ∃ m', m' < l.length ∧ ∃ (l ts r : List Int) (v6 v7 : Option V), m' = l.length ∧ σ' = [some (.ref p), some (.int (nm t : Nat)), some (.int (tx l : Nat)), some (.ref L), some (.ref T), some (.int (nm r : Nat)), v6, v7] ∧ l.Pairwise (· ≤ ·) ∧ r.Perm l ∧ ts ++ r = t ∧ l.length + ts.length = (tms cs).sum ∧ H'' L = some (lsI l) ∧ H'' T = some (lsI ts) ∧ Same H H'', fun σ' H'' z => z, ?_⟩
      refine ⟨_, rfl, L, _, rfl, .inl (SqL.of hL4), ?_⟩
      refine gNx (v' := V.int (l.length : Nat)) (by rw [List.length_map]) ?_
      generalize hrest : nm (x :: r) = rest at hx e2 ⊢
      refine ⟨_, rfl, _, rfl, _, rfl, _, _, rfl, rfl, .inr ⟨by trivial, by trivial⟩, _, rfl, _, _, rfl, rfl, ⟨?_, ?_⟩, ?_⟩
      · show (0 : Int) < (tx l : Nat)
        trivial
      · show ((tx l : Nat) : Int) < ((2 ^ 3000 : Nat) : Int)
        exact Int.ofNat_lt.mpr hTl
      refine ⟨L, _, ((rest * l.length / tx l : Nat) : Int), _, rfl, ?_, SqL.of hL4, at_ints hx, ?_⟩
      · show V.int ((rest : Int) * (l.length : Int) / (tx l : Int)) = V.int ((rest * l.length / tx l : Nat) : Int)
        rw [Int.natCast_ediv, Int.natCast_mul]
      have hS4 : SqL K H4 L ((pre ++ x :: post).map V.int) := by rw [← hl]; exact SqL.of hL4
      refine ⟨_, rfl, _, rfl, _, rfl, .inl ⟨rfl, _, SqL.of hL4⟩, _, rfl, L, pre, x, post, rfl, rfl, hS4, hpre, _, _, rfl, rfl, .inr ⟨?_, ?_⟩, _, rfl, _, _, rfl, rfl, ⟨by trivial, by trivial⟩, _, _, rfl, rfl, ?_⟩
      · show -(2 ^ 64) < ((pre.length : Nat) : Int)
        trivial
      · show ((pre.length : Nat) : Int) < 2 ^ 64
        have : pre.length ≤ l.length := by rw [hl, List.length_append]; trivial
        trivial
      have er : (rest : Int) - (tx l : Int) * (pre.length : Int) / (l.length : Int) = ((nm r : Nat) : Int) := by
        rw [← hix, ← Int.natCast_mul, ← Int.natCast_ediv]
        generalize tx l * l.idxOf x / l.length = q at e2 ⊢
        trivial
      refine gNx (v' := V.int ((nm r : Nat) : Int)) (by rw [← er]) ?_
      refine ⟨_, rfl, _, rfl, .inl ⟨rfl, _, SqL.of hL4⟩, _, rfl, L, l, x, rfl, rfl, SqL.of hL4, _, _, rfl, rfl, .inr ⟨?_, ?_⟩, _, rfl, _, _, rfl, rfl, ⟨by trivial, by trivial⟩, ?_⟩
      · show -(2 ^ 64) < ((l.count x : Nat) : Int)
        trivial
      · show ((l.count x : Nat) : Int) < 2 ^ 64
        have := List.count_le_length (a := x) (l := l)
        trivial
      have et : (tx l : Int) * (l.count x : Int) / (l.length : Int) = ((tx (l.erase x) : Nat) : Int) := by
        rw [← e1, Int.natCast_ediv, Int.natCast_mul]
      refine gNx (v' := V.int ((tx (l.erase x) : Nat) : Int)) (by rw [← et]) ?_
      refine ⟨_, rfl, .inl ⟨rfl, _, SqL.of hL4⟩, _, rfl, L, pre, x, post, rfl, rfl, by rw [← hl]; exact hL4, hpre, ?_⟩
      rw [← her]
      have hT5 : upd H4 L (.lst ((l.erase x).map V.int)) T = some (lsI ts) := by rw [upd_ne nLT.symm]; exact hT4
      refine ⟨_, rfl, .inl ⟨rfl, _, SqL.of hT5⟩, _, rfl, T, _, _, rfl, rfl, hT5, fits_lt (by rw [List.length_map]; trivial), ?_⟩
      have hle := List.length_erase_of_mem hxm
      refine ⟨_, ?_, l.erase x, ts ++ [x], r, _, _, rfl, rfl, hsl.sublist List.erase_sublist, pr', by rw [List.append_assoc]; exact htr, by rw [List.length_append, List.length_singleton]; trivial, by rw [upd_ne nLT, upd_same]; rfl, by rw [upd_same, lsI_app1], same_upd (same_upd sm _ hLH) _ hTH⟩
      trivial
end
end K52
set_option Elab.async false
set_option linter.all false
set_option maxRecDepth 100000
set_option maxHeartbeats 4000000
namespace K52
open PySem L2 PySem.W PH
section
variable {P : Program} {w : World} {K : PySem.W.Frag} {mg : Str → Option Value} {base : Heap}
theorem sc_pool : FnScope ["script", "k", "cell"] ["script", "k"] (defScope s_pool) := ⟨rfl, rfl, rfl, by decide +kernel, rfl, by decide +kernel, by decide +kernel⟩
theorem ok_pool {f : Addr} {fd : FuncData} (F : Fun K "_law_pool" "_law_pool" s_pool f fd) (B : Bls mg) : FnOk P w K mg base (CXW P w) 1 f fd ["script", "k"] (spPool K) := by
  refine F.okN sc_pool (fun vs H Q E h => ?_) (fun cdv A outer s H vs Q E hr h => ?_)
  · obtain ⟨a, ns, k, rfl, _⟩ := h
    rfl
  · obtain ⟨a, ns, k, rfl, hS, hk, hQ⟩ := h
    refine ⟨_, (pss_cons (ps_set (i := 2) sc_pool.nd rfl (Or.inl rfl) pe_int)
      (pss_cons (ps_if (pt_cmpR op_lt (pv 1) (pe_callB call_len_seq rfl B.len PySem.boot_len (pa_cons (pv 0) pa_nil)) (nomark _))
        (pss_one (ps_set (i := 2) sc_pool.nd rfl (Or.inl rfl) (pe_ix ix_list (pv 0) (pv 1) (fun _ _ => rfl))))
        pss_nil)
      (pss_one (ps_ret (pe_lst (pa_cons (pe_op op_fdiv (pv 2) pe_int) (pa_cons (pe_op op_mod (pv 2) pe_int) (pa_cons (pe_op op_mul pe_int (pv 1)) pa_nil)))))))), ?_⟩
    refine ⟨_, rfl, _, rfl, a, _, rfl, .inl hS, _, _, rfl, rfl, _, rfl, ?_⟩
    refine ite2 (fun c => ?_) (fun c => ?_)
    · have hlt : k < ns.length := by
        have := of_decide_eq_true c
        rw [List.length_map] at this
        trivial
      obtain ⟨x, hx⟩ : ∃ x, ns[k]? = some x := ⟨_, List.getElem?_eq_getElem hlt⟩
      refine ⟨_, rfl, _, rfl, a, _, _, .int x, rfl, rfl, hS, at_ints hx, ?_⟩
      refine ⟨_, rfl, _, _, rfl, rfl, ⟨by decide, by decide⟩, _, rfl, _, _, rfl, rfl, (by show (0 : Int) < 2; decide), _, rfl, _, _, rfl, rfl, .inl ⟨by decide, by decide⟩, (by show 3 ≤ sizeLine; decide), fun l hl => ?_⟩
      exact hQ l _ hl (same_new hl _) ⟨_, _, 7 * (k : Int), upd_same, by trivial, by trivial⟩
    · refine ⟨_, rfl, _, _, rfl, rfl, ⟨by decide, by decide⟩, _, rfl, _, _, rfl, rfl, (by show (0 : Int) < 2; decide), _, rfl, _, _, rfl, rfl, .inl ⟨by decide, by decide⟩, (by show 3 ≤ sizeLine; decide), fun l hl => ?_⟩
      exact hQ l _ hl (same_new hl _) ⟨_, _, 7 * (k : Int), upd_same, by trivial, by trivial⟩
theorem sc_take : FnScope ["pool", "many", "found", "step", "mark"] ["pool", "many"] (defScope s_take) := ⟨rfl, rfl, rfl, by decide +kernel, rfl, by decide +kernel, by decide +kernel⟩
theorem ok_take {f : Addr} {fd : FuncData} (F : Fun K "_law_take" "_law_take" s_take f fd) (B : Bls mg) : FnOk P w K mg base (CXW P w) 1 f fd ["pool", "many"] (spTake) := by
  refine F.okN sc_take (fun vs H Q E h => ?_) (fun cdv A outer s H vs Q E hr h => ?_)
  · obtain ⟨p, n, many, rfl, _⟩ := h
    rfl
  · obtain ⟨p, n, many, rfl, pl, hn, h0, h1, k⟩ := h
    refine ⟨_, (pss_cons (ps_if (pt_cmpR op_eq (pe_ix ix_list (pv 0) pe_int (fun _ _ => rfl)) pe_int (nomark _))
        (pss_cons (ps_set (i := 2) sc_take.nd rfl (Or.inl rfl) (pe_op op_mod (pe_ix ix_list (pv 0) pe_int (fun _ _ => rfl)) (pv 1)))
        (pss_cons (ps_asg (pe_op op_fdiv (pe_ix ix_list (pv 0) pe_int (fun _ _ => rfl)) (pv 1)) (pg_sub (pv 0) pe_int set_list))
        (pss_one (ps_ret (pv 2)))))
        pss_nil)
      (pss_cons (ps_asg (pe_op op_add (pe_ix ix_list (pv 0) pe_int (fun _ _ => rfl)) pe_int) (pg_sub (pv 0) pe_int set_list))
      (pss_cons (ps_set (i := 3) sc_take.nd rfl (Or.inl rfl) (pe_ix ix_list (pv 0) pe_int (fun _ _ => rfl)))
      (pss_cons (ps_set (i := 4) sc_take.nd rfl (Or.inl rfl) (pe_op op_mul (pe_op op_add (pe_op op_mod (pe_ix ix_list (pv 0) pe_int (fun _ _ => rfl)) pe_int) pe_int) (pe_op op_add (pe_op op_mul pe_int (pv 3)) pe_int)))
      (pss_cons (ps_set (i := 4) sc_take.nd rfl (Or.inl rfl) (pe_op op_add (pv 4) (pe_op op_mul (pe_op op_mul pe_int (pv 3)) (pv 3))))
      (pss_cons (ps_set (i := 4) sc_take.nd rfl (Or.inl rfl) (pe_op op_mod (pe_op op_mul (pv 4) (pv 4)) pe_int))
      (pss_one (ps_ret (pe_op op_mod (pe_op op_fdiv (pe_op op_mod (pe_op op_mul (pv 4) (pe_op op_add (pv 4) pe_int)) pe_int) pe_int) (pv 1)))))))))), ?_⟩
    obtain ⟨a, b, c, hp, hc0, hc1⟩ := pl
    refine ⟨_, rfl, p, _, _, _, rfl, rfl, SqL.of hp, rfl, rfl, _, rfl, ?_⟩
    refine ite2 (fun _ => ?_) (fun _ => ?_)
    · refine ⟨_, rfl, p, _, _, _, rfl, rfl, SqL.of hp, rfl, _, rfl, _, _, rfl, rfl, h0, ?_⟩
      refine ⟨_, rfl, p, _, _, _, rfl, rfl, SqL.of hp, rfl, _, rfl, _, _, rfl, rfl, ⟨h0, h1⟩, _, rfl, p, _, _, _, rfl, rfl, hp, rfl, ?_⟩
      refine ⟨_, rfl, ?_⟩
      exact k _ _ (Int.emod_nonneg _ (by trivial)) (Int.emod_lt_of_pos _ h0) ⟨_, _, c, upd_same, hc0, by trivial⟩ (Kb.put _ _ _)
    · have hp2 : upd H p (deckO a b (c + 1)) p = some (deckO a b (c + 1)) := upd_same
      refine ⟨_, rfl, p, _, _, _, rfl, rfl, SqL.of hp, rfl, _, _, rfl, rfl, _, rfl, p, _, _, _, rfl, rfl, hp, rfl, ?_⟩
      refine ⟨_, rfl, p, _, _, _, rfl, rfl, SqL.of hp2, rfl, ?_⟩
      have u0 : 0 ≤ a % 9999999833 + 401 := by have := Int.emod_nonneg a (show (9999999833 : Int) ≠ 0 by decide); trivial
      have u1 : a % 9999999833 + 401 ≤ 10000001000 := by have := Int.emod_lt_of_pos a (show (0 : Int) < 9999999833 by decide); trivial
      refine ⟨_, rfl, p, _, _, _, rfl, rfl, SqL.of hp2, rfl, _, _, rfl, rfl, (by show (0 : Int) < 9999999833; decide), _, _, rfl, rfl, _, rfl, _, _, rfl, rfl, .inl ⟨by decide, by decide⟩, _, _, rfl, rfl, _, _, rfl, rfl, .inl ⟨?_, ?_⟩, ?_⟩
      · show -(2 ^ 64) < a % 9999999833 + 401
        trivial
      · show a % 9999999833 + 401 < 2 ^ 64
        trivial
      obtain ⟨m1, e1, b10, b11⟩ : ∃ m1 : Int, m1 = (a % 9999999833 + 401) * (7 * (c + 1) + 19) ∧ 0 ≤ m1 ∧ m1 ≤ 10000001000 * 8000000 := by
        have := mul_bd u0 u1 (show 0 ≤ 7 * (c + 1) + 19 by trivial) (show 7 * (c + 1) + 19 ≤ 8000000 by trivial)
        exact ⟨_, rfl, this.1, this.2⟩
      refine gNx (v' := V.int m1) (by rw [e1]) ?_
      refine ⟨_, rfl, _, rfl, _, _, rfl, rfl, .inl ⟨by decide, by decide⟩, _, rfl, _, _, rfl, rfl, .inr ⟨?_, ?_⟩, _, _, rfl, rfl, ?_⟩
      · show -(2 ^ 64) < c + 1
        trivial
      · show c + 1 < 2 ^ 64
        trivial
      obtain ⟨m2, e2, b20, b21⟩ : ∃ m2 : Int, m2 = m1 + 3001 * (c + 1) * (c + 1) ∧ 0 ≤ m2 ∧ m2 ≤ 10000001000 * 8000000 + 3001000000 * 2000000 * 2 := by
        have := mul_bd (u := 3001 * (c + 1)) (U := 3001000000 * 2) (v := c + 1) (V := 2000000) (by trivial) (by trivial) (by trivial) (by trivial)
        exact ⟨_, rfl, by trivial, by trivial⟩
      refine gNx (v' := V.int m2) (by rw [e2]) ?_
      refine ⟨_, rfl, _, rfl, _, _, rfl, rfl, .inl ⟨?_, ?_⟩, _, _, rfl, rfl, (by show (0 : Int) < 99999999829; decide), ?_⟩
      · show -(2 ^ 64) < m2
        trivial
      · show m2 < 2 ^ 64
        trivial
      obtain ⟨m3, e3, b30, b31⟩ : ∃ m3 : Int, m3 = m2 * m2 % 99999999829 ∧ 0 ≤ m3 ∧ m3 < 99999999829 := ⟨_, rfl, Int.emod_nonneg _ (by decide), Int.emod_lt_of_pos _ (by decide)⟩
      refine gNx (v' := V.int m3) (by rw [e3]) ?_
      refine ⟨_, rfl, _, rfl, _, _, rfl, rfl, _, _, rfl, rfl, .inl ⟨?_, ?_⟩, _, _, rfl, rfl, (by show (0 : Int) < 99999999821; decide), _, _, rfl, rfl, ⟨by decide, by decide⟩, _, rfl, _, _, rfl, rfl, h0, ?_⟩
      · show -(2 ^ 64) < m3
        trivial
      · show m3 < 2 ^ 64
        trivial
      exact k _ _ (Int.emod_nonneg _ (by trivial)) (Int.emod_lt_of_pos _ h0) ⟨_, _, _, hp2, by trivial, by trivial⟩ (Kb.put _ _ _)
end
end K52
set_option Elab.async false
set_option linter.all false
set_option maxRecDepth 100000
set_option maxHeartbeats 4000000
namespace K52
open PySem L2 PySem.W PH
section
variable {P : Program} {w : World} {K : PySem.W.Frag} {mg : Str → Option Value} {base : Heap}
theorem sc_text : FnScope ["pool", "some", "text", "k"] ["pool"] (defScope s_text) := ⟨rfl, rfl, rfl, by decide +kernel, rfl, by decide +kernel, by decide +kernel⟩
theorem ok_text {f f_take : Addr} {fd d_take : FuncData} (F : Fun K "_law_text" "_law_text" s_text f fd) (B : Bls mg) 
    (G_take : FnOk P w K mg base (CXW P w) 1 f_take d_take ["pool", "many"] (spTake)) (b_take : Binds K d_take ["pool", "many"] []) (k_take : keepIn K (.ref f_take) = true) (m_take : mg "_law_take" = some (.ref f_take)) : FnOk P w K mg base (CXW P w) 2 f fd ["pool"] (spText52) := by
  refine F.okN sc_text (fun vs H Q E h => ?_) (fun cdv A outer s H vs Q E hr h => ?_)
  · obtain ⟨p, n, rfl, _⟩ := h
    rfl
  · obtain ⟨p, n, rfl, pl, hn, hQ⟩ := h
    refine ⟨_, (pss_cons (ps_set (i := 1) sc_text.nd rfl (Or.inl rfl) (pe_op op_cat (pe_comp (N := ["k", "pool"]) (js := [none, some 0]) (g := (gName 0)) (tc := tTrue) (te := (tCall (spTake) [] E0 (tCons (tVar 1) (tCons (tC (.int 256)) tNil)))) rfl (comp_scope (osc := defScope s_text) (XN := ["pool", "some", "text", "k"]) rfl rfl rfl (by decide +kernel)) (pi_range1 rfl B.range (pa_cons pe_int pa_nil)) (fun _ _ _ _ => pg_name (i := 0) (show (["k", "pool"] : List Str).Nodup by decide +kernel) rfl (Or.inl rfl)) (fun _ _ _ _ => pif_nil) (fun _ _ _ _ => (pe_call G_take hr rfl m_take k_take b_take .nil passN (pa_cons (pv 1) (pa_cons pe_int pa_nil))))) (pe_lst (pa_cons pe_int (pa_cons pe_int (pa_cons pe_int pa_nil))))))
      (pss_cons (ps_set (i := 2) sc_text.nd rfl (Or.inl rfl) (pe_lst pa_nil))
      (pss_cons (ps_for PassesOwn.never rfl (pi_range1 rfl B.range (pa_cons (pe_ix ix_list (pe_lst (pa_cons (pe_call G_take hr rfl m_take k_take b_take .nil passN (pa_cons (pv 0) (pa_cons pe_int pa_nil))) (pa_cons pe_int pa_nil))) (pe_callTy call_int1 rfl B.int boot_int' (pa_cons (pe_cmpR op_eq (pe_call G_take hr rfl m_take k_take b_take .nil passN (pa_cons (pv 0) (pa_cons pe_int pa_nil))) pe_int (nomark _)) pa_nil)) (fun _ _ => rfl)) pa_nil)) (pg_name (i := 3) sc_text.nd rfl (Or.inl rfl))
        (pss_one (ps_expr (pe_bm PySem.F.plainAttrs_list PySem.F.slot_list_append PySem.F.type_list_append mt_append (pv 2) (pa_cons (pe_ix ix_list (pv 1) (pe_call G_take hr rfl m_take k_take b_take .nil passN (pa_cons (pv 0) (pa_cons pe_int pa_nil))) (fun _ _ => rfl)) pa_nil)))))
      (pss_one (ps_ret (pv 2)))))), ?_⟩
    refine ⟨3, rfl, by decide, by decide, fun D hD => ?_⟩
    rw [show ((3 : Int).toNat) = 3 from rfl]
    have nD : D ≠ p := (pl.ne hD).symm
    refine comp_rngQ (fun i σ' H' => ∃ (v0 : Option V) (ks : List Int), σ' = [v0, some (.ref p)] ∧ H' D = some (lsI ks) ∧ ks.length = i ∧ (∀ x ∈ ks, 0 ≤ x ∧ x ≤ 255) ∧ PL (n + (i : Int)) p H' ∧ Kb p H H')
      ⟨none, [], rfl, upd_same, rfl, (fun _ z => by cases z), (pl.same (same_new hD _)).mono (by trivial), Kb.of (same_new hD _)⟩ ?_ ?_
    · rintro i σ' H' hi ⟨v0, ks, rfl, hD', hkl, hkb, pl', kb'⟩
      refine nameT ?_
      refine ⟨_, rfl, p, n + (i : Int), 256, rfl, pl', by trivial, by decide, by decide, fun z H9 z0 z1 pl9 kb9 => ?_⟩
      refine ⟨D, _, _, rfl, rfl, kb9 _ _ nD hD', fits_lt (by rw [List.length_map]; trivial), ?_⟩
      refine CW.next hi ⟨_, ks ++ [z], rfl, by rw [upd_same, lsI_app1], by rw [List.length_append, List.length_singleton]; trivial, (fun y hy => ?_), (pl9.up nD.symm).mono (by trivial), (kb'.trans kb9).new _ hD⟩
      rcases List.mem_append.mp hy with hy | hy
      · exact hkb y hy
      · rw [List.mem_singleton.mp hy]; trivial
    rintro σ' H1 ⟨v0, ks, rfl, hD1, hkl, hkb, pl1, kb1⟩
    refine ⟨(by show 3 ≤ sizeLine; decide), fun l1 hl1 => ?_⟩
    have u2 := same_new hl1 (.lst [V.int 0, V.int 255, V.int 254])
    have e2 : upd H1 l1 (.lst [V.int 0, V.int 255, V.int 254]) l1 = some (lsI [0, 255, 254]) := upd_same
    generalize upd H1 l1 (.lst [V.int 0, V.int 255, V.int 254]) = H2 at u2 e2 ⊢
    refine ⟨D, l1, _, _, rfl, rfl, u2 _ _ hD1, e2, fits (by rw [List.length_map, List.length_map]; show _ + 3 ≤ _; trivial), fun X hX => ?_⟩
    rw [lsI_app]
    have hxl : (ks ++ [0, 255, 254]).length = 6 := by rw [List.length_append, hkl]; rfl
    have hxb : ∀ y ∈ ks ++ [0, 255, 254], 0 ≤ y ∧ y ≤ 255 := fun y hy => by
      rcases List.mem_append.mp hy with hy | hy
      · exact hkb y hy
      · simp only [List.mem_cons, List.not_mem_nil, or_false] at hy
        trivial
    generalize ks ++ [0, 255, 254] = so at hxl hxb
    have pl2 := pl1.same u2
    have nX : X ≠ p := (pl2.ne hX).symm
    have u3 := same_new hX (lsI so)
    have e3 : upd H2 X (lsI so) X = some (lsI so) := upd_same
    generalize upd H2 X (lsI so) = H3 at u3 e3 ⊢
    refine ⟨(by show 0 ≤ sizeLine; decide), fun T hT => ?_⟩
    have pl3 := pl2.same u3
    have nT : T ≠ p := (pl3.ne hT).symm
    have nXT : X ≠ T := ne_of_none e3 hT
    have u4 := same_new hT (.lst [])
    have e4 : upd H3 T (.lst []) T = some (lsI []) := upd_same
    have hX4 := u4 _ _ e3
    have pl4 := pl3.same u4
    have kb4 := kb1.trans (Kb.of (u2.trans (u3.trans u4)))
    have hTH : H T = none := kb1.free' pl1 ((u2.trans u3).free hT)
    generalize upd H3 T (.lst []) = H4 at u4 e4 hX4 pl4 kb4 ⊢
    refine ⟨_, rfl, p, n + 3, 6, rfl, pl4, (by trivial), (by decide), (by decide), fun r H5 r0 r1 pl5 kb5 => ?_⟩
    refine ⟨(by show 2 ≤ sizeLine; decide), fun l2 hl2 => ?_⟩
    have nl2 : l2 ≠ p := (pl5.ne hl2).symm
    have u6 := same_new hl2 (.lst [V.int r, V.int 6])
    have e6 : upd H5 l2 (.lst [V.int r, V.int 6]) l2 = some (.lst [V.int r, V.int 6]) := upd_same
    have pl6 := pl5.same u6
    have kb6 := kb5.trans (Kb.of u6)
    generalize upd H5 l2 (.lst [V.int r, V.int 6]) = H6 at u6 e6 pl6 kb6 ⊢
    refine ⟨_, rfl, p, n + 3 + 1, 4, rfl, pl6, (by trivial), (by decide), (by decide), fun w H7 w0 w1 pl7 kb7 => ⟨rfl, .inr ⟨_, rfl, ?_⟩⟩⟩
    obtain ⟨m, hm, hm6⟩ : ∃ m : Nat, atI [V.int r, V.int 6] (if decide (V.int w = V.int 0) = true then 1 else 0) = some (.int (m : Int)) ∧ m ≤ 6 := by
      by_cases h : decide (V.int w = V.int 0) = true
      · rw [if_pos h]
        exact ⟨6, rfl, by trivial⟩
      · rw [if_neg h]
        exact ⟨r.toNat, by rw [show ((r.toNat : Nat) : Int) = r by trivial]; rfl, by trivial⟩
    have k47 := kb6.trans kb7
    refine ⟨l2, _, _, _, rfl, rfl, SqL.of (kb7 _ _ nl2 e6), hm, (m : Int), rfl, by trivial, by trivial, ?_⟩
    rw [Int.toNat_natCast]
    refine for_range (n := m) (fun i σ H' => ∃ (v3 : Option V) (ks : List Int), σ = [some (.ref p), some (.ref X), some (.ref T), v3] ∧ H' T = some (lsI ks) ∧ H' X = some (lsI so) ∧ ks.length = i ∧ (∀ x ∈ ks, 0 ≤ x ∧ x ≤ 255) ∧ PL (n + 5 + (i : Int)) p H' ∧ Kb p H H')
      ⟨none, [], rfl, k47 _ _ nT e4, k47 _ _ nX hX4, rfl, (fun _ z => by cases z), pl7.mono (by trivial), kb4.trans k47⟩ ?_ ?_
    · rintro i σ H' hi ⟨v3, ks, rfl, hT', hX', hkl, hkb, pl', kb'⟩
      refine ⟨_, rfl, .inl ⟨rfl, _, SqL.of hT'⟩, _, rfl, _, rfl, p, n + 5 + (i : Int), 6, rfl, pl', by trivial, by decide, by decide, fun z H9 z0 z1 pl9 kb9 => ?_⟩
      obtain ⟨z, rfl⟩ : ∃ j : Nat, z = (j : Int) := ⟨z.toNat, by trivial⟩
      obtain ⟨y, hy⟩ : ∃ y, so[z]? = some y := ⟨_, List.getElem?_eq_getElem (by trivial)⟩
      have hyb := hxb y (List.mem_of_getElem? hy)
      have hX9 := kb9 _ _ nX hX'
      have hT9 := kb9 _ _ nT hT'
      refine ⟨X, _, _, _, rfl, rfl, SqL.of hX9, at_ints hy, T, _, _, rfl, rfl, hT9, fits_lt (by rw [List.length_map]; trivial), ?_⟩
      refine ⟨_, ks ++ [y], rfl, by rw [upd_same, lsI_app1], by rw [upd_ne nXT]; exact hX9, by rw [List.length_append, List.length_singleton]; trivial, (fun x hx => ?_), (pl9.up nT.symm).mono (by trivial), (kb'.trans kb9).new _ hTH⟩
      rcases List.mem_append.mp hx with hx | hx
      · exact hkb x hx
      · rw [List.mem_singleton.mp hx]; exact hyb
    · rintro σ H' ⟨v3, ks, rfl, hT', hX', hkl, hkb, pl', kb'⟩
      refine ⟨_, rfl, ?_⟩
      exact hQ T ks H' kb' hT' (by trivial) hkb
end
end K52
set_option Elab.async false
set_option linter.all false
set_option maxRecDepth 100000
set_option maxHeartbeats 4000000
namespace K52
open PySem L2 PySem.W PH
section
variable {P : Program} {w : World} {K : PySem.W.Frag} {mg : Str → Option Value} {base : Heap}
theorem sc_all : FnScope ["text", "found", "sign", "longer", "row", "at"] ["text"] (defScope s_all) := ⟨rfl, rfl, rfl, by decide +kernel, rfl, by decide +kernel, by decide +kernel⟩
theorem ok_all {f : Addr} {fd : FuncData} (F : Fun K "_law_all" "_law_all" s_all f fd) (B : Bls mg) : FnOk P w K mg base (CXW P w) 1 f fd ["text"] (spAll52) := by
  refine F.okN sc_all (fun vs H Q E h => ?_) (fun cdv A outer s H vs Q E hr h => ?_)
  · obtain ⟨a, ts, rfl, _⟩ := h
    rfl
  · obtain ⟨a, ts, rfl, ha, hl, hQ⟩ := h
    refine ⟨_, (pss_cons (ps_set (i := 1) sc_all.nd rfl (Or.inl rfl) (pe_disp1T (hu_of hr) (pe_tup pa_nil) pe_bl))
      (pss_cons (ps_for PassesOwn.never rfl (pi_list (pv 0)) (pg_name (i := 2) sc_all.nd rfl (Or.inl rfl))
        (pss_cons (ps_set (i := 3) sc_all.nd rfl (Or.inl rfl) pe_dnewT)
        (pss_cons (ps_for PassesOwn.never rfl (pi_dictT (pv 1)) (pg_name (i := 4) sc_all.nd rfl (Or.inl rfl))
          (pss_one (ps_for PassesOwn.never rfl (pi_range1 rfl B.range (pa_cons (pe_op op_add (pe_callB call_len_seq rfl B.len PySem.boot_len (pa_cons (pv 4) pa_nil)) pe_int) pa_nil)) (pg_name (i := 5) sc_all.nd rfl (Or.inl rfl))
            (pss_one (ps_dput (hu_of hr) (pv 3) (pe_op op_catTS (pe_op op_catTS (pe_slice sl_tupS (pv 4) po_none (po_some (pv 5))) (pe_tup (pa_cons (pv 2) pa_nil))) (pe_slice sl_tupS (pv 4) (po_some (pv 5)) po_none)) pe_bl rfl)))))
        (pss_one (ps_set (i := 1) sc_all.nd rfl (Or.inl rfl) (pv 3))))))
      (pss_one (ps_ret (pe_callB (call_sortedDT rfl) rfl B.sorted boot_sorted' (pa_cons (pv 1) pa_nil)))))), ?_⟩
    refine fun F0 hF0 => ?_
    refine ⟨(by show 0 ≤ sizeLine; decide), fun t0 ht0 => ?_⟩
    have n0 : F0 ≠ t0 := ne_of_none upd_same ht0
    refine ⟨by rw [upd_ne n0]; exact upd_same, t0, [], rfl, upd_same, ?_⟩
    have s0 : Same H (upd (upd (upd H F0 (.dT [])) t0 (.tup [])) F0 (.dT [([], V.bl true)])) := same_upd ((same_new hF0 _).trans (same_new ht0 _)) _ hF0
    have e0 : upd (upd (upd H F0 (.dT [])) t0 (.tup [])) F0 (.dT [([], V.bl true)]) F0 = some (.dT [([], V.bl true)]) := upd_same
    generalize upd (upd (upd H F0 (.dT [])) t0 (.tup [])) F0 (.dT [([], V.bl true)]) = H0 at s0 e0 ⊢
    have k0 : Kys [(([] : List Key), V.bl true)] (fun t => t.Perm (ts.take 0)) := by
      refine ⟨[[]], rfl, by simp, fun t => ?_⟩
      show t ∈ [[]] ↔ t.Perm (ts.take 0)
      rw [List.take_zero, List.mem_singleton, List.perm_nil]
    refine ⟨_, rfl, a, rfl, ⟨_, SqL.of (s0 _ _ ha)⟩, for_list (K := K) (a := a) (xs := ts.map V.int) (fun i σ H' => ∃ (F : Addr) (kvs : List (List Key × V)) (v2 v3 v4 v5 : Option V), σ = [some (.ref a), some (.ref F), v2, v3, v4, v5] ∧ H F = none ∧ H' F = some (.dT kvs) ∧ Kys kvs (fun t => t.Perm (ts.take i)) ∧ kvs.length ≤ 7 ^ i ∧ Same H H')
      ⟨F0, _, none, none, none, none, rfl, hF0, e0, k0, Nat.le_refl 1, s0⟩ (fun i σ H' _ ⟨_, _, _, _, _, _, _, _, _, _, _, e⟩ => SqL.of (e _ _ ha)) ?_ ?_⟩
    · rintro i y σ H' hi ⟨F, kvs, v2, v3, v4, v5, rfl, hFn, hF, kk, hkl, sm⟩
      obtain ⟨x, rfl, hx⟩ := int_at hi
      have hil : i < ts.length := (List.getElem?_eq_some_iff.mp hx).1
      have h7 : 7 ^ i ≤ 16807 := Nat.pow_le_pow_right (n := 7) (by decide) (show i ≤ 5 by trivial)
      refine fun G hG => ?_
      have uG := same_new hG (.dT [])
      have eG : upd H' G (.dT []) G = some (.dT []) := upd_same
      have hF1 := uG _ _ hF
      have hGH : H G = none := sm.free hG
      have nFG : F ≠ G := ne_of_none hF hG
      have sm1 := sm.trans uG
      generalize upd H' G (.dT []) = H1 at uG eG hF1 sm1 ⊢
      obtain ⟨rs, hr1, hr2, hr3⟩ := id kk
      have hrl : kvs.length = rs.length := by
        have := congrArg List.length hr1
        rwa [List.length_map, List.length_map] at this
      refine ⟨_, rfl, F, kvs, rfl, hF1, fun o => ?_⟩
      have sm2 := same_upd sm1 (.frz o (.dT kvs)) hFn
      have eF2 : upd H1 F (.frz o (.dT kvs)) F = some (.frz o (.dT kvs)) := upd_same
      have eG2 : upd H1 F (.frz o (.dT kvs)) G = some (.dT []) := by rw [upd_ne nFG.symm]; exact eG
      generalize upd H1 F (.frz o (.dT kvs)) = H2 at sm2 eF2 eG2 ⊢
      refine for_dictT (a := F) (o := o) (kvs := kvs) (fun j σ H3 => ∃ (kvs2 : List (List Key × V)) (v4 v5 : Option V), σ = [some (.ref a), some (.ref F), some (.int x), some (.ref G), v4, v5] ∧ H3 F = some (.frz o (.dT kvs)) ∧ H3 G = some (.dT kvs2) ∧ Kys kvs2 (fun t => ∃ u ∈ rs.take j, ∃ k, k ≤ u.length ∧ t = ins u x k) ∧ kvs2.length ≤ 7 * j ∧ Same H H3)
        ⟨[], v4, v5, rfl, eF2, eG2, ⟨[], rfl, List.nodup_nil, fun t => by simp⟩, Nat.le_refl 0, sm2⟩ (fun j σ H3 _ ⟨_, _, _, _, e, _⟩ => e) ?_ ?_
      · rintro j k0 v0 b σ H3 hj ⟨kvs2, v4, v5, rfl, hF3, hG3, kk2, hl2, sm3⟩ hb
        have hjl : j < rs.length := by have := (List.getElem?_eq_some_iff.mp hj).1; trivial
        obtain ⟨u, hu⟩ : ∃ u, rs[j]? = some u := ⟨_, List.getElem?_eq_getElem hjl⟩
        have ek : k0 = kI u := by
          have h1 : (kvs.map (·.1))[j]? = some k0 := by rw [List.getElem?_map, hj]; rfl
          rw [hr1, List.getElem?_map, hu] at h1
          exact (Option.some.inj h1).symm
        rw [ek, kI_kV] at hb
        have hup := (hr3 u).mp (List.mem_of_getElem? hu)
        have hul : u.length = i := by rw [hup.length_eq, List.length_take]; trivial
        have hju : rs.take (j + 1) = rs.take j ++ [u] := take_at hu
        refine ⟨_, rfl, b, _, rfl, .inr (SqT.of hb), _, _, rfl, rfl, ((u.length + 1 : Nat) : Int), by rw [List.length_map]; rfl, by trivial, by trivial, ?_⟩
        rw [Int.toNat_natCast]
        refine for_range (n := u.length + 1) (fun k σ H4 => ∃ (kvs3 : List (List Key × V)) (v5 : Option V), σ = [some (.ref a), some (.ref F), some (.int x), some (.ref G), some (.ref b), v5] ∧ H4 F = some (.frz o (.dT kvs)) ∧ H4 b = some (.tup (u.map V.int)) ∧ H4 G = some (.dT kvs3) ∧ Kys kvs3 (fun t => (∃ u ∈ rs.take j, ∃ k, k ≤ u.length ∧ t = ins u x k) ∨ ∃ k', k' < k ∧ t = ins u x k') ∧ kvs3.length ≤ 7 * j + k ∧ Same H H4)
          ⟨kvs2, v5, rfl, hF3, hb, hG3, kk2.of (fun t => ⟨.inl, fun h => by
            rcases h with h | ⟨k', hk', _⟩
            · exact h
            · exact absurd hk' (Nat.not_lt_zero _)⟩), hl2, sm3⟩ ?_ ?_
        · rintro k σ H4 hk ⟨kvs3, v5, rfl, hF4, hb4, hG4, kk3, hl3, sm4⟩
          rw [Int.zero_add]
          refine ⟨_, rfl, _, rfl, _, rfl, _, rfl, b, _, rfl, hb4, fun q1 H5 s5 hq1 => ?_⟩
          refine ⟨_, rfl, (by show 1 ≤ sizeLine; decide), fun t1 ht1 => ?_⟩
          have u6 := same_new ht1 (.tup [V.int x])
          have e6 : upd H5 t1 (.tup [V.int x]) t1 = some (.tup [V.int x]) := upd_same
          generalize upd H5 t1 (.tup [V.int x]) = H6 at u6 e6 ⊢
          have c1 : cutV (u.map V.int) none (some ((k : Nat) : Int)) = (u.take k).map V.int := cut_to (α := Int) u k
          rw [c1] at hq1
          refine ⟨q1, t1, _, _, rfl, rfl, u6 _ _ hq1, e6, fits (by rw [List.length_map, List.length_take]; show _ + 1 ≤ _; trivial), fun q2 H7 s7 hq2 => ?_⟩
          have t47 := s5.trans (u6.trans s7)
          refine ⟨_, rfl, _, rfl, _, rfl, b, _, rfl, t47 _ _ hb4, fun q3 H8 s8 hq3 => ?_⟩
          have c2 : cutV (u.map V.int) (some ((k : Nat) : Int)) none = (u.drop k).map V.int := cut_from u k
          rw [c2] at hq3
          refine ⟨q2, q3, _, _, rfl, rfl, s8 _ _ hq2, hq3, fits (by rw [List.length_append, List.length_map, List.length_map, List.length_take, List.length_drop]; show _ + 1 + _ ≤ _; trivial), fun q4 H9 s9 hq4 => ?_⟩
          have t49 := t47.trans (s8.trans s9)
          have hq4' : H9 q4 = some (.tup ((kI (ins u x k)).map kV)) := by
            rw [kI_kV, hq4]
            unfold ins
            rw [List.map_append, List.map_append]; rfl
          have nFG' : G ≠ F := nFG.symm
          have nbG : b ≠ G := fun z => by rw [z, hG4] at hb4; cases hb4
          refine ⟨G, _, rfl, DPut.t (k := kI (ins u x k)) (t49 _ _ hG4) hq4' (fits_lt (by trivial)), ?_⟩
          refine ⟨_, some (.int (k : Nat)), rfl, by rw [upd_ne nFG]; exact t49 _ _ hF4, by rw [upd_ne nbG]; exact t49 _ _ hb4, upd_same, (kk3.put (ins u x k) _).of (fun t => ?_), ?_, same_upd (sm4.trans t49) _ hGH⟩
          · constructor
            · rintro ((h | ⟨k', hk', h⟩) | h)
              · exact .inl h
              · exact .inr ⟨k', by trivial, h⟩
              · exact .inr ⟨k, by trivial, h⟩
            · rintro (h | ⟨k', hk', h⟩)
              · exact .inl (.inl h)
              · by_cases e : k' = k
                · subst e; exact .inr h
                · exact .inl (.inr ⟨k', by trivial, h⟩)
          · have := length_putK kvs3 (kI (ins u x k)) (V.bl true)
            trivial
        · rintro σ H4 ⟨kvs3, v5, rfl, hF4, hb4, hG4, kk3, hl3, sm4⟩
          refine ⟨kvs3, _, _, rfl, hF4, hG4, kk3.of (fun t => ?_), by trivial, sm4⟩
          rw [hju]
          constructor
          · rintro (⟨u', hu', h⟩ | ⟨k', hk', h⟩)
            · exact ⟨u', List.mem_append_left _ hu', h⟩
            · exact ⟨u, by simp, k', by trivial, h⟩
          · rintro ⟨u', hu', k', hk', h⟩
            rcases List.mem_append.mp hu' with hu' | hu'
            · exact .inl ⟨u', hu', k', hk', h⟩
            · rw [List.mem_singleton] at hu'
              subst hu'
              exact .inr ⟨k', by trivial, h⟩
      · rintro σ H3 ⟨kvs2, v4, v5, rfl, hF3, hG3, kk2, hl2, sm3⟩
        rw [hrl, List.take_length] at kk2
        refine ⟨_, rfl, ?_⟩
        refine ⟨G, kvs2, _, _, _, _, rfl, hGH, hG3, kk2.of (fun t => ?_), ?_, sm3⟩
        · rw [take_at hx, perm_ins]
          constructor
          · rintro ⟨u, hu, k, hk, h⟩
            exact ⟨u, k, (hr3 u).mp hu, hk, h⟩
          · rintro ⟨u, k, hu, hk, h⟩
            exact ⟨u, (hr3 u).mpr hu, k, hk, h⟩
        · rw [Nat.pow_succ]
          trivial
    rintro σ H1 ⟨F, kvs, v2, v3, v4, v5, rfl, hFn, hF, kk, hkl, sm⟩
    rw [List.length_map, List.take_length] at kk
    obtain ⟨rs, hr1, hr2, hr3⟩ := kk
    refine ⟨_, rfl, F, kvs, rs, ts.length, rfl, hF, hr1, (fun r hr => ((hr3 r).mp hr).length_eq), ?_, fun zs q hp hs hz hq => ?_⟩
    · cases ts with
      | nil =>
        refine .inr ?_
        have : ∀ r ∈ rs, r = [] := fun r hr => ((hr3 r).mp hr).eq_nil
        cases rs with
        | nil => exact Nat.zero_le _
        | cons a1 r1 =>
          cases r1 with
          | nil => exact Nat.le_refl _
          | cons a2 r2 =>
            have h1 := this a1 (by simp)
            have h2 := this a2 (by simp)
            rw [h1, h2] at hr2
            simp at hr2
      | cons _ _ => exact .inl (by rw [List.length_cons]; trivial)
    · have u2 := same_new hq (.lst (zs.map fun z => V.ref z.1))
      exact hQ q zs _ (sm.trans u2) upd_same (fun z h => u2 _ _ (hz z h)) (strict_of hs (hp.nodup_iff.mpr hr2)) (fun t => by rw [hp.mem_iff, hr3])
end
end K52
set_option Elab.async false
set_option linter.all false
set_option maxRecDepth 100000
set_option maxHeartbeats 4000000
namespace K52
open PySem L2 PySem.W PH
section
variable {P : Program} {w : World} {K : PySem.W.Frag} {mg : Str → Option Value} {base : Heap}
theorem sc_lwhole : FnScope ["number"] ["number"] (defScope s_lwhole) := ⟨rfl, rfl, rfl, by decide +kernel, rfl, by decide +kernel, by decide +kernel⟩
theorem ok_lwhole {f : Addr} {fd : FuncData} (F : Fun K "_law_whole" "_law_whole" s_lwhole f fd) (B : Bls mg) : FnOk P w K mg base (CXW P w) 1 f fd ["number"] (spWhole) := by
  refine F.okN sc_lwhole (fun vs H Q E h => ?_) (fun cdv A outer s H vs Q E hr h => ?_)
  · obtain ⟨n, rfl, _⟩ := h
    rfl
  · obtain ⟨n, rfl, q⟩ := h
    refine ⟨_, (pss_one (ps_ret (pe_and (pe_callB (r := rIsi K) call_isi rfl B.isi boot_isi (pa_cons (pv 0) (pa_cons (pe_bltn (v := .ty "int") rfl B.int boot_int' rfl) pa_nil))) (pe_one (pe_not (pe_callB (r := rIsi K) call_isi rfl B.isi boot_isi (pa_cons (pv 0) (pa_cons (pe_bltn (v := .ty "bool") rfl B.bool boot_bool' rfl) pa_nil)))))))), ?_⟩
    refine ⟨_, rfl, _, _, _, _, true, rfl, .of (.int n), rfl, kit_refl _ _, _, rfl, ?_⟩
    refine iteT ?_
    refine ⟨_, rfl, _, _, _, _, false, rfl, .of (.int n), rfl, kit_ib _, _, rfl, ?_⟩
    exact q
end
end K52
set_option Elab.async false
set_option linter.all false
set_option maxRecDepth 100000
set_option maxHeartbeats 4000000
namespace K52
open PySem L2 PySem.W PH
section
variable {P : Program} {w : World} {K : PySem.W.Frag} {mg : Str → Option Value} {base : Heap}
theorem sc_told : FnScope ["text", "counts", "number", "handed", "found", "pair", "row", "again"] ["text", "counts", "number"] (defScope s_told) := ⟨rfl, rfl, rfl, by decide +kernel, rfl, by decide +kernel, by decide +kernel⟩
theorem ok_told {f f_share f_tbs f_lwhole : Addr} {fd d_share d_tbs d_lwhole : FuncData} (F : Fun K "_law_told" "_law_told" s_told f fd) (B : Bls mg) 
    (G_share : FnOk P w K mg base (CXW P w) 2 f_share d_share ["text"] (spShare)) (b_share : Binds K d_share ["text"] []) (k_share : keepIn K (.ref f_share) = true) (m_share : mg "share_of" = some (.ref f_share)) 
    (G_tbs : FnOk P w K mg base (CXW P w) 5 f_tbs d_tbs ["counts", "number"] (spTbsN)) (b_tbs : Binds K d_tbs ["counts", "number"] []) (k_tbs : keepIn K (.ref f_tbs) = true) (m_tbs : mg "text_by_share" = some (.ref f_tbs)) 
    (G_lwhole : FnOk P w K mg base (CXW P w) 1 f_lwhole d_lwhole ["number"] (spWhole)) (b_lwhole : Binds K d_lwhole ["number"] []) (k_lwhole : keepIn K (.ref f_lwhole) = true) (m_lwhole : mg "_law_whole" = some (.ref f_lwhole)) : FnOk P w K mg base (CXW P w) 6 f fd ["text", "counts", "number"] (spTold52) := by
  refine F.okN sc_told (fun vs H Q E h => ?_) (fun cdv A outer s H vs Q E hr h => ?_)
  · obtain ⟨a, C, ts, zs, rfl, _⟩ := h
    rfl
  · obtain ⟨a, C, ts, zs, rfl, ha, hl4, hb, prC, hzs, hQ⟩ := h
    refine ⟨_, (pss_cons (ps_set (i := 3) sc_told.nd rfl (Or.inl rfl) (pe_callTy call_list_of rfl B.list boot_list' (pa_cons (pv 0) pa_nil)))
      (pss_cons (ps_set (i := 4) sc_told.nd rfl (Or.inl rfl) (pe_call G_share (hr.mono (show 2 ≤ 5 by decide)) rfl m_share k_share b_share .nil passN (pa_cons (pv 3) pa_nil)))
      (pss_cons (ps_if (PW.pt (pw_or (pt_not (pt_val (pe_callB (r := rIsi K) call_isi rfl B.isi boot_isi (pa_cons (pv 4) (pa_cons (pe_bltn (v := .ty "tuple") rfl B.tuple boot_tuple' rfl) pa_nil))))) (pw_or (pt_cmpR (op_neD (units_of hr)) (pv 4) (pe_tup (pa_cons (pv 1) (pa_cons (pv 2) pa_nil))) (nomark _)) (pw_or1 (pt_not (pt_val (pe_call G_lwhole (hr.mono (show 1 ≤ 5 by decide)) rfl m_lwhole k_lwhole b_lwhole .nil passN (pa_cons (pe_ix ix_tup (pv 4) pe_int (fun _ _ => rfl)) pa_nil))))))))
        (pss_one (ps_ret pe_bl))
        pss_nil)
      (pss_cons (ps_for PassesOwn.never rfl (pi_list (pe_ix ix_tup (pv 4) pe_int (fun _ _ => rfl))) (pg_name (i := 5) sc_told.nd rfl (Or.inl rfl))
        (pss_one (ps_if (PW.pt (pw_or (pt_not (pt_val (pe_callB (r := rIsi K) call_isi rfl B.isi boot_isi (pa_cons (pv 5) (pa_cons (pe_bltn (v := .ty "tuple") rfl B.tuple boot_tuple' rfl) pa_nil))))) (pw_or (pt_not (pt_val (pe_call G_lwhole (hr.mono (show 1 ≤ 5 by decide)) rfl m_lwhole k_lwhole b_lwhole .nil passN (pa_cons (pe_ix ix_tup (pv 5) pe_int (fun _ _ => rfl)) pa_nil)))) (pw_or1 (pt_not (pt_val (pe_call G_lwhole (hr.mono (show 1 ≤ 5 by decide)) rfl m_lwhole k_lwhole b_lwhole .nil passN (pa_cons (pe_ix ix_tup (pv 5) pe_int (fun _ _ => rfl)) pa_nil))))))))
          (pss_one (ps_ret pe_bl))
          pss_nil)))
      (pss_cons (ps_set (i := 6) sc_told.nd rfl (Or.inl rfl) (pe_callTy call_list_of rfl B.list boot_list' (pa_cons (pv 1) pa_nil)))
      (pss_cons (ps_set (i := 7) sc_told.nd rfl (Or.inl rfl) (pe_call G_tbs hr rfl m_tbs k_tbs b_tbs .nil passN (pa_cons (pv 6) (pa_cons (pv 2) pa_nil))))
      (pss_cons (ps_if (PW.pt (pw_or (pt_not (pt_val (pe_callB (r := rIsi K) call_isi rfl B.isi boot_isi (pa_cons (pv 7) (pa_cons (pe_bltn (v := .ty "list") rfl B.list boot_list' rfl) pa_nil))))) (pw_or1 (pt_cmpR (op_neL (units_of hr)) (pv 7) (pv 0) (nomark _)))))
        (pss_one (ps_ret pe_bl))
        pss_nil)
      (pss_cons (ps_if (pt_cmpR (op_neL (units_of hr)) (pe_comp (N := ["sign"]) (js := [none]) (g := (gName 0)) (tc := (tNot (tB (tCall (spWhole) [] E0 (tCons (tVar 0) tNil))))) (te := (tVar 0)) rfl (comp_scope (osc := defScope s_told) (XN := ["text", "counts", "number", "handed", "found", "pair", "row", "again"]) rfl rfl rfl (by decide +kernel)) (pi_list (pv 7)) (fun _ _ _ _ => pg_name (i := 0) (show (["sign"] : List Str).Nodup by decide +kernel) rfl (Or.inl rfl)) (fun _ _ _ _ => (pif_one (pt_not (pt_val (pe_call G_lwhole (hr.mono (show 1 ≤ 5 by decide)) rfl m_lwhole k_lwhole b_lwhole .nil passN (pa_cons (pv 0) pa_nil)))))) (fun _ _ _ _ => (pv 0))) (pe_lst pa_nil) (nomark _))
        (pss_one (ps_ret pe_bl))
        pss_nil)
      (pss_cons (ps_expr (pe_bm PySem.F.plainAttrs_list PySem.F.slot_list_append PySem.F.type_list_append mt_append (pe_ix ix_tup (pv 4) pe_int (fun _ _ => rfl)) (pa_cons (pe_tup (pa_cons pe_int (pa_cons pe_int pa_nil))) pa_nil)))
      (pss_cons (ps_expr (pe_bm PySem.F.plainAttrs_list PySem.F.slot_list_append PySem.F.type_list_append mt_append (pv 7) (pa_cons pe_int pa_nil)))
      (pss_cons (ps_if (PW.pt (pw_or (pt_cmpR (op_neL (units_of hr)) (pv 3) (pv 0) (nomark _)) (pw_or1 (pt_cmpR (op_neD (units_of hr)) (pv 6) (pv 1) (nomark _)))))
        (pss_one (ps_ret pe_bl))
        pss_nil)
      (pss_one (ps_ret (pe_and (pe_cmpR (op_eqD (units_of hr)) (pe_ix ix_tup (pe_call G_share (hr.mono (show 2 ≤ 5 by decide)) rfl m_share k_share b_share .nil passN (pa_cons (pe_callTy call_list_of rfl B.list boot_list' (pa_cons (pv 0) pa_nil)) pa_nil)) pe_int (fun _ _ => rfl)) (pv 1) (nomark _)) (pe_one (pe_cmpR (op_eqL (units_of hr)) (pe_call G_tbs hr rfl m_tbs k_tbs b_tbs .nil passN (pa_cons (pe_callTy call_list_of rfl B.list boot_list' (pa_cons (pv 1) pa_nil)) (pa_cons (pv 2) pa_nil))) (pv 0) (nomark _))))))))))))))))), ?_⟩
    have hzl : zs.length ≤ 256 := by have := cnts_few hb; rw [← hzs, List.length_map] at this; exact this
    refine ⟨_, rfl, a, _, rfl, .inl (SqL.of ha), fun hd hhd => ?_⟩
    have u1 := same_new hhd (.lst (ts.map V.int))
    have hd1 : upd H hd (.lst (ts.map V.int)) hd = some (lsI ts) := upd_same
    generalize upd H hd (.lst (ts.map V.int)) = H1 at u1 hd1 ⊢
    refine ⟨_, rfl, hd, ts, rfl, hd1, hl4, hb, fun T C2 ys H2 s2 hT hC2 prY hys => ?_⟩
    have t2 := u1.trans s2
    have htp : ht (.tup [prD (cnts ts), .int (nm ts : Nat)]) ≤ 60 := by
      rw [ht_tup]
      have h1 : ht (prD (cnts ts)) ≤ 3 := by
        unfold prD
        rw [ht_lst]
        have := hts_pD (cnts ts)
        trivial
      unfold hts hts hts ht
      have h2 : ht (prD (cnts ts)) ≤ 3 := h1
      unfold ht at h2
      trivial
    refine ⟨_, rfl, _, _, _, _, true, rfl, .of (.tup hT), rfl, kit_refl _ _, _, rfl, ?_⟩
    refine iteF ?_
    refine ⟨_, rfl, _, rfl, _, rfl, (by show 2 ≤ sizeLine; decide), fun tt htt => ?_⟩
    have u3 := same_new htt (.tup [.ref C, .int (nm ts : Nat)])
    have e3 : upd H2 tt (.tup [.ref C, .int (nm ts : Nat)]) tt = some (.tup [.ref C, .int (nm ts : Nat)]) := upd_same
    generalize upd H2 tt (.tup [.ref C, .int (nm ts : Nat)]) = H3 at u3 e3 ⊢
    have t3 := t2.trans u3
    have dF : Deep K H3 (.ref T) (.tup [prD (cnts ts), .int (nm ts : Nat)]) := .tup (SqT.of (u3 _ _ hT)) (.cons (by rw [← hys]; exact (prY.same u3).deep) (.cons (.int _) .nil))
    have dG : Deep K H3 (.ref tt) (.tup [prD (cnts ts), .int (nm ts : Nat)]) := .tup (SqT.of e3) (.cons (by rw [← hzs]; exact (prC.same t3).deep) (.cons (.int _) .nil))
    refine ⟨_, _, dF, dG, htp, _, rfl, ?_⟩
    rw [eqD_refl]
    refine iteF ?_
    have hT3 := u3 _ _ hT
    refine ⟨_, rfl, T, _, 1, _, rfl, rfl, SqT.of hT3, rfl, _, rfl, _, rfl, ?_⟩
    refine iteF ?_
    have prY3 := prY.same u3
    have hyl : ys.length ≤ 256 := by have := cnts_few hb; rw [← hys, List.length_map] at this; exact this
    refine ⟨_, rfl, T, _, 0, _, rfl, rfl, SqT.of hT3, rfl, C2, rfl, ⟨_, SqL.of prY3.at_⟩, for_list (K := K) (a := C2) (xs := ys.map fun z => V.ref z.1) (fun i σ H' => ∃ (v5 : Option V), σ = [some (.ref a), some (.ref C), some (.int (nm ts : Nat)), some (.ref hd), some (.ref T), v5, none, none] ∧ H' = H3)
      ⟨none, rfl, rfl⟩ (fun i σ H' _ ⟨_, _, e⟩ => by rw [e]; exact SqL.of prY3.at_) ?_ ?_⟩
    · rintro i y σ H' hi ⟨v5, rfl, rfl⟩
      obtain ⟨z, hz, rfl⟩ := ref_at hi
      have he := prY3.each z (List.mem_of_getElem? hz)
      refine ⟨_, rfl, _, _, _, _, true, rfl, .of (.tup he), rfl, kit_refl _ _, _, rfl, ?_⟩
      refine iteF ?_
      refine ⟨_, rfl, z.1, _, 0, _, rfl, rfl, SqT.of he, rfl, _, rfl, _, rfl, ?_⟩
      refine iteF ?_
      refine ⟨_, rfl, z.1, _, 1, _, rfl, rfl, SqT.of he, rfl, _, rfl, _, rfl, ?_⟩
      refine iteF ?_
      exact ⟨_, rfl, rfl⟩
    rintro σ H3' ⟨v5, rfl, rfl⟩
    have prC3 := prC.same t3
    refine ⟨_, rfl, C, _, rfl, .inl (SqL.of prC3.at_), fun rw_ hrw => ?_⟩
    have u7 := same_new hrw (.lst (zs.map fun z => V.ref z.1))
    have prR : Prs (upd H3' rw_ (.lst (zs.map fun z => V.ref z.1))) rw_ zs := ⟨upd_same, fun z hz => u7 _ _ (prC3.each z hz)⟩
    generalize upd H3' rw_ (.lst (zs.map fun z => V.ref z.1)) = H7 at u7 prR ⊢
    refine ⟨_, rfl, _, rfl, rw_, zs, ts, rfl, prR, by trivial, by rw [hzs]; exact cnts_have hb hl4, by rw [hzs]; exact (flat_cnts hb).symm, fun G H8 s8 hGn hG => ?_⟩
    have t38 := u7.trans s8
    have t8 := t3.trans t38
    refine ⟨_, rfl, _, _, _, _, true, rfl, .of (.lst hG), rfl, kit_refl _ _, _, rfl, ?_⟩
    refine iteF ?_
    refine ⟨_, rfl, _, rfl, G, a, _, _, rfl, rfl, SqL.of hG, SqL.of (t8 _ _ ha), _, rfl, ?_⟩
    refine iteNS rfl ?_
    refine ⟨_, rfl, G, rfl, ⟨_, SqL.of hG⟩, fun D2 hD2 => ?_⟩
    refine comp_lstQ (K := K) (a := G) (xs := ts.map V.int) (fun i σ' H' => ∃ (v0 : Option V), σ' = [v0] ∧ H' D2 = some (lsI []) ∧ Same H8 H')
      ⟨none, rfl, upd_same, same_new hD2 _⟩ (fun i σ' H' _ ⟨_, _, _, e⟩ => SqL.of (e _ _ hG)) ?_ ?_
    · rintro i v σ' H' hi ⟨v0, rfl, hD', sm⟩
      have hlt := (List.getElem?_eq_some_iff.mp hi).1
      obtain ⟨z, rfl, hz⟩ := int_at hi
      refine ⟨_, rfl, z, rfl, _, rfl, ?_⟩
      refine iteF ?_
      exact CW.next hlt ⟨_, rfl, hD', sm⟩
    rintro σ' H9 ⟨v0, rfl, hD9, s9⟩
    refine ⟨(by show 0 ≤ sizeLine; decide), fun e1 he1 => ?_⟩
    have ue1 := same_new he1 (.lst [])
    have ee1 : upd H9 e1 (.lst []) e1 = some (lsI []) := upd_same
    generalize upd H9 e1 (.lst []) = Ha at ue1 ee1 ⊢
    refine ⟨D2, e1, [], [], rfl, rfl, SqL.of (ue1 _ _ hD9), SqL.of ee1, _, rfl, ?_⟩
    refine iteNS rfl ?_
    have s8a := s9.trans ue1
    have t3a := t38.trans s8a
    have hTa := t3a _ _ hT3
    have hCa := t3a _ _ prY3.at_
    have hC1 : H C2 = none := u1.free hC2
    have hGH : H G = none := (t3.trans u7).free hGn
    have ta := t3.trans t3a
    refine ⟨_, rfl, T, _, 0, _, rfl, rfl, SqT.of hTa, rfl, .inl ⟨rfl, _, SqL.of hCa⟩, (by show 2 ≤ sizeLine; decide), fun t5 ht5 => ?_⟩
    have ub := same_new ht5 (.tup [.int 1, .int 1])
    generalize upd Ha t5 (.tup [.int 1, .int 1]) = Hb at ub ⊢
    have nGC : G ≠ C2 := (ne_of_none (u7 _ _ prY3.at_) hGn).symm
    have nhC : hd ≠ C2 := ne_of_none hd1 hC2
    have nrC : rw_ ≠ C2 := (ne_of_none prY3.at_ hrw).symm
    have nrG : rw_ ≠ G := ne_of_none prR.at_ hGn
    have hG1 : H1 G = none := (s2.trans (u3.trans u7)).free hGn
    have t1b : Same H1 Hb := s2.trans (u3.trans (t3a.trans ub))
    refine ⟨C2, _, _, rfl, rfl, ub _ _ hCa, fits_lt (by rw [List.length_map]; trivial), ?_⟩
    have t1c := same_upd t1b (.lst ((ys.map fun z => V.ref z.1) ++ [V.ref t5])) hC2
    have s8b := s8a.trans ub
    have hGc : upd Hb C2 (.lst ((ys.map fun z => V.ref z.1) ++ [V.ref t5])) G = some (lsI ts) := by rw [upd_ne nGC]; exact s8b _ _ hG
    have prRb := prR.same (s8.trans s8b)
    have prRc : Prs (upd Hb C2 (.lst ((ys.map fun z => V.ref z.1) ++ [V.ref t5]))) rw_ zs := ⟨by rw [upd_ne nrC]; exact prRb.at_, fun z hz => by
      have h1 := prRb.each z hz
      rw [upd_ne (fun e => by rw [e, ub _ _ hCa] at h1; cases h1)]; exact h1⟩
    generalize upd Hb C2 (.lst ((ys.map fun z => V.ref z.1) ++ [V.ref t5])) = Hc at t1c hGc prRc ⊢
    refine ⟨_, rfl, .inl ⟨rfl, _, SqL.of hGc⟩, G, _, _, rfl, rfl, hGc, fits_lt (by rw [List.length_map]; trivial), ?_⟩
    have t1d := same_upd t1c (.lst (ts.map V.int ++ [V.int 0])) hG1
    have prRd : Prs (upd Hc G (.lst (ts.map V.int ++ [V.int 0]))) rw_ zs := ⟨by rw [upd_ne nrG]; exact prRc.at_, fun z hz => by
      have h1 := prRc.each z hz
      rw [upd_ne (fun e => by rw [e, hGc] at h1; cases h1)]; exact h1⟩
    generalize upd Hc G (.lst (ts.map V.int ++ [V.int 0])) = Hd at t1d prRd ⊢
    have td := u1.trans t1d
    have haD := td _ _ ha
    have prCd := prC.same td
    refine ⟨_, rfl, _, rfl, hd, a, _, _, rfl, rfl, SqL.of (t1d _ _ hd1), SqL.of haD, _, rfl, ?_⟩
    refine iteNS rfl ?_
    refine ⟨_, rfl, _, rfl, _, _, prRd.deep, prCd.deep, ht_prD _, _, rfl, ?_⟩
    rw [eqD_refl]
    refine iteF ?_
    refine ⟨_, rfl, a, _, rfl, .inl (SqL.of haD), fun c1 hc1 => ?_⟩
    have ue := same_new hc1 (.lst (ts.map V.int))
    have ee : upd Hd c1 (.lst (ts.map V.int)) c1 = some (lsI ts) := upd_same
    generalize upd Hd c1 (.lst (ts.map V.int)) = He at ue ee ⊢
    refine ⟨c1, ts, rfl, ee, hl4, hb, fun T2 C3 ys2 Hf sf hT2 hC3 prY2 hys2 => ?_⟩
    have tdf := ue.trans sf
    have prCf := prCd.same tdf
    have d1 := prY2.deep (K := K)
    have d2 := prCf.deep (K := K)
    rw [hys2] at d1
    rw [hzs] at d2
    refine ⟨T2, _, 0, _, rfl, rfl, SqT.of hT2, rfl, _, rfl, _, _, d1, d2, ht_prD _, _, rfl, ?_⟩
    rw [eqD_refl]
    refine iteT ?_
    refine ⟨_, rfl, C, _, rfl, .inl (SqL.of prCf.at_), fun c2 hc2 => ?_⟩
    have ug := same_new hc2 (.lst (zs.map fun z => V.ref z.1))
    have prG : Prs (upd Hf c2 (.lst (zs.map fun z => V.ref z.1))) c2 zs := ⟨upd_same, fun z hz => ug _ _ (prCf.each z hz)⟩
    generalize upd Hf c2 (.lst (zs.map fun z => V.ref z.1)) = Hg at ug prG ⊢
    refine ⟨_, rfl, c2, zs, ts, rfl, prG, by trivial, by rw [hzs]; exact cnts_have hb hl4, by rw [hzs]; exact (flat_cnts hb).symm, fun G2 Hh sh hG2n hG2 => ?_⟩
    have th := td.trans (tdf.trans (ug.trans sh))
    refine ⟨_, rfl, G2, a, _, _, rfl, rfl, SqL.of hG2, SqL.of (th _ _ ha), ?_⟩
    rw [decide_eq_true rfl]
    exact hQ _ th
end
end K52
set_option Elab.async false
set_option linter.all false
set_option maxRecDepth 100000
set_option maxHeartbeats 4000000
namespace K52
open PySem L2 PySem.W PH
section
variable {P : Program} {w : World} {K : PySem.W.Frag} {mg : Str → Option Value} {base : Heap}
theorem sc_law : FnScope ["script", "k", "text", "counts", "rows", "number"] ["script"] (defScope s_law) := ⟨rfl, rfl, rfl, by decide +kernel, rfl, by decide +kernel, by decide +kernel⟩
theorem ok_law {f f_pool f_text f_all f_told : Addr} {fd d_pool d_text d_all d_told : FuncData} (F : Fun K "law" "law" s_law f fd) (B : Bls mg) (n_set : mg "set" = none) 
    (G_pool : FnOk P w K mg base (CXW P w) 1 f_pool d_pool ["script", "k"] (spPool K)) (b_pool : Binds K d_pool ["script", "k"] []) (k_pool : keepIn K (.ref f_pool) = true) (m_pool : mg "_law_pool" = some (.ref f_pool)) 
    (G_text : FnOk P w K mg base (CXW P w) 2 f_text d_text ["pool"] (spText52)) (b_text : Binds K d_text ["pool"] []) (k_text : keepIn K (.ref f_text) = true) (m_text : mg "_law_text" = some (.ref f_text)) 
    (G_all : FnOk P w K mg base (CXW P w) 1 f_all d_all ["text"] (spAll52)) (b_all : Binds K d_all ["text"] []) (k_all : keepIn K (.ref f_all) = true) (m_all : mg "_law_all" = some (.ref f_all)) 
    (G_told : FnOk P w K mg base (CXW P w) 6 f_told d_told ["text", "counts", "number"] (spTold52)) (b_told : Binds K d_told ["text", "counts", "number"] []) (k_told : keepIn K (.ref f_told) = true) (m_told : mg "_law_told" = some (.ref f_told)) : FnOk P w K mg base (CXW P w) 7 f fd ["script"] (spLaw K) := by
  refine F.okN sc_law (fun vs H Q E h => ?_) (fun cdv A outer s H vs Q E hr h => ?_)
  · obtain ⟨a, ns, rfl, _⟩ := h
    rfl
  · obtain ⟨a, ns, rfl, hS, h63, qEnd⟩ := h
    refine ⟨_, (pss_cons (ps_for PassesOwn.never rfl (pi_range1 rfl B.range (pa_cons (pe_callB (call_max2 rfl) rfl B.max boot_max' (pa_cons pe_int (pa_cons (pe_callB (call_min2 rfl) rfl B.min boot_min' (pa_cons pe_int (pa_cons (pe_callB call_len_seq rfl B.len PySem.boot_len (pa_cons (pv 0) pa_nil)) pa_nil))) pa_nil))) pa_nil)) (pg_name (i := 1) sc_law.nd rfl (Or.inl rfl))
        (pss_cons (ps_set (i := 2) sc_law.nd rfl (Or.inr rfl) (pe_call G_text (hr.mono (show 2 ≤ 6 by decide)) rfl m_text k_text b_text .nil passN (pa_cons (pe_call G_pool (hr.mono (show 1 ≤ 6 by decide)) rfl m_pool k_pool b_pool .nil passN (pa_cons (pv 0) (pa_cons (pv 1) pa_nil))) pa_nil)))
        (pss_cons (ps_setC (iy := 3) (N := ["sign", "text"]) (js := [none, some 2]) (g := (gName 0)) (tc := tTrue) (te := (tTup (tCons (tVar 0) (tCons (tBM K "list" (rCount K) (tVar 1) (tCons (tVar 0) tNil)) tNil)))) sc_law.nd rfl rfl rfl (comp_scope (osc := defScope s_law) (XN := ["script", "k", "text", "counts", "rows", "number"]) rfl rfl rfl (by decide +kernel)) (pi_list (pe_sortset rfl rfl B.sorted rfl n_set (pv 2))) (fun _ _ _ _ => pg_name (i := 0) (show (["sign", "text"] : List Str).Nodup by decide +kernel) rfl (Or.inl rfl)) (fun _ _ _ _ => pif_nil) (fun _ _ _ _ => (pe_tup (pa_cons (pv 0) (pa_cons (pe_bm PySem.F.plainAttrs_list PySem.F.slot_list_count PySem.F.type_list_count mt_count (pv 1) (pa_cons (pv 0) pa_nil)) pa_nil)))))
        (pss_cons (ps_set (i := 4) sc_law.nd rfl (Or.inl rfl) (pe_call G_all (hr.mono (show 1 ≤ 6 by decide)) rfl m_all k_all b_all .nil passN (pa_cons (pv 2) pa_nil)))
        (pss_cons (ps_for PassesOwn.never rfl (pi_range3 rfl B.range (pa_cons pe_int (pa_cons (pe_callB call_len_seq rfl B.len PySem.boot_len (pa_cons (pv 4) pa_nil)) (pa_cons (pe_op op_add pe_int (pe_op op_fdiv (pe_callB call_len_seq rfl B.len PySem.boot_len (pa_cons (pv 4) pa_nil)) pe_int)) pa_nil)))) (pg_name (i := 5) sc_law.nd rfl (Or.inl rfl))
          (pss_one (ps_if (pt_not (pt_val (pe_call G_told hr rfl m_told k_told b_told .nil passN (pa_cons (pe_callTy call_list_of rfl B.list boot_list' (pa_cons (pe_ix ix_list (pv 4) (pv 5) (fun _ _ => rfl)) pa_nil)) (pa_cons (pv 3) (pa_cons (pv 5) pa_nil))))))
            (pss_one (ps_ret pe_bl))
            pss_nil)))
        (pss_cons (ps_if (pt_not (pt_val (pe_call G_told hr rfl m_told k_told b_told .nil passN (pa_cons (pe_callTy call_list_of rfl B.list boot_list' (pa_cons (pe_ix ix_list (pv 4) (pe_un un_neg pe_int) (fun _ _ => rfl)) pa_nil)) (pa_cons (pv 3) (pa_cons (pe_op op_sub (pe_callB call_len_seq rfl B.len PySem.boot_len (pa_cons (pv 4) pa_nil)) pe_int) pa_nil))))))
          (pss_one (ps_ret pe_bl))
          pss_nil)
        (pss_one (ps_if (pt_not (pt_val (pe_call G_told hr rfl m_told k_told b_told .nil passN (pa_cons (pv 2) (pa_cons (pv 3) (pa_cons (pe_bm PySem.F.plainAttrs_list PySem.F.slot_list_index PySem.F.type_list_index (mt_indexTT (units_of hr)) (pv 4) (pa_cons (pe_callTy call_tuple_of rfl B.tuple boot_tuple' (pa_cons (pv 2) pa_nil)) pa_nil)) pa_nil))))))
          (pss_one (ps_ret pe_bl))
          pss_nil))))))))
      (pss_one (ps_ret pe_bl))), ?_⟩
    obtain ⟨N, hN1, hN2, hNe⟩ : ∃ N : Nat, 1 ≤ N ∧ N ≤ 63 ∧ ((if (if ((ns.map V.int).length : Int) < 10 then ((ns.map V.int).length : Int) else 10) > 1 then (if ((ns.map V.int).length : Int) < 10 then ((ns.map V.int).length : Int) else 10) else 1) : Int) = (N : Int) := by
      rw [List.length_map]
      refine ⟨(if (if (ns.length : Int) < 10 then (ns.length : Int) else 10) > 1 then (if (ns.length : Int) < 10 then (ns.length : Int) else 10) else 1 : Int).toNat, ?_, ?_, ?_⟩
      all_goals (split <;> (try split) <;> trivial)
    refine ⟨_, rfl, a, _, rfl, .inl hS, _, _, rfl, _, _, rfl, (N : Int), congrArg (fun x => [V.int x]) hNe, by trivial, by trivial, ?_⟩
    rw [Int.toNat_natCast]
    refine for_range (n := N) (fun i σ H' => ∃ (v1 v2 v3 v4 v5 : Option V), σ = [some (.ref a), v1, v2, v3, v4, v5] ∧ Same H H')
      ⟨none, none, none, none, none, rfl, Same.refl _⟩ ?_ ?_
    rotate_left
    · rintro σ H2 ⟨v1, v2, v3, v4, v5, rfl, sm⟩
      exact qEnd H2
    rintro i σ H2 hi ⟨v1, v2, v3, v4, v5, rfl, sm⟩
    rw [Int.zero_add]
    have hS2 := sm.seq hS
    refine ⟨_, rfl, _, rfl, a, ns, i, rfl, hS2, by trivial, fun p H3 hp s3 pl => ?_⟩
    refine ⟨p, 434, rfl, pl, by trivial, fun T ts H4 kb4 hT htl hb => ?_⟩
    have s24 : Same H2 H4 := fun b u e => kb4 b u (fun z => by rw [z, hp] at e; cases e) (s3 b u e)
    have hl4 : ts.length ≤ 400 := by trivial
    refine ⟨_, rfl, T, ts, rfl, SqL.of hT, hb, fun sg q5 hup hmem hq5 => ?_⟩
    have hsg : sg = ksOf ts := sorted_keys hb (hup.imp fun {a b} w => Int.ne_of_lt w) hmem (List.Perm.refl _) (hup.imp fun {a b} w => Int.le_of_lt w)
    subst hsg
    have u1 := same_new hq5 (.lst ((ksOf ts).map V.int))
    have e5 : upd H4 q5 (.lst ((ksOf ts).map V.int)) q5 = some (lsI (ksOf ts)) := upd_same
    generalize upd H4 q5 (.lst ((ksOf ts).map V.int)) = H5 at u1 e5 ⊢
    have hT5 := u1 _ _ hT
    have hkl : (ksOf ts).length ≤ 256 := by have := cnts_few hb; rw [cnts_ks, List.length_map] at this; exact this
    refine ⟨q5, rfl, ⟨_, SqL.of e5⟩, fun D hD => ?_⟩
    refine comp_lstQ (K := K) (a := q5) (xs := (ksOf ts).map V.int) (fun i σ' H' => ∃ (v : Option V) (zs : List (Addr × Int × Int)), σ' = [v, some (.ref T)] ∧ Prs H' D zs ∧ zs.map (·.2) = ((ksOf ts).take i).map (fun k => (k, ((ts.count k : Nat) : Int))) ∧ (∀ z ∈ zs, z.1 ≠ D) ∧ Same H5 H')
      ⟨none, [], rfl, ⟨upd_same, (fun _ z => by cases z)⟩, by rw [List.take_zero]; rfl, (fun _ z => by cases z), same_new hD _⟩ (fun i σ' H' _ ⟨_, _, _, _, _, _, e⟩ => SqL.of (e _ _ e5)) ?_ ?_
    · rintro i x σ' H' hi ⟨v, zs, rfl, prs, hzs, hzD, sm⟩
      obtain ⟨k, rfl, hk⟩ := int_at hi
      have hlt : i < ((ksOf ts).map V.int).length := (List.getElem?_eq_some_iff.mp hi).1
      refine nameT ?_
      refine ⟨_, rfl, _, rfl, .inl ⟨rfl, _, SqL.of (sm _ _ hT5)⟩, _, rfl, T, ts, k, rfl, rfl, SqL.of (sm _ _ hT5), (by show 2 ≤ sizeLine; decide), fun t ht => ?_⟩
      have hzl : zs.length = i := by
        have := congrArg List.length hzs
        rw [List.length_map, List.length_map, List.length_take] at this
        rw [List.length_map] at hlt
        trivial
      have ntD : t ≠ D := (ne_of_none prs.at_ ht).symm
      refine ⟨D, _, _, rfl, rfl, (same_new ht _) _ _ prs.at_, fits_lt (by rw [List.length_map]; rw [List.length_map] at hlt; trivial), ?_⟩
      have st := same_new ht (.tup [.int k, .int (ts.count k : Nat)])
      refine CW.next hlt ⟨_, zs ++ [(t, k, ((ts.count k : Nat) : Int))], rfl, ⟨?_, fun z hz => ?_⟩, ?_, fun z hz => ?_, ?_⟩
      · rw [upd_same, List.map_append]; rfl
      · rcases List.mem_append.mp hz with hz | hz
        · rw [upd_ne (hzD z hz)]; exact st _ _ (prs.each z hz)
        · have : z = (t, k, ((ts.count k : Nat) : Int)) := by simpa using hz
          subst this
          rw [upd_ne ntD, upd_same]
      · rw [List.map_append, hzs, take_at hk, List.map_append]; rfl
      · rcases List.mem_append.mp hz with hz | hz
        · exact hzD z hz
        · have : z = (t, k, ((ts.count k : Nat) : Int)) := by simpa using hz
          subst this
          exact ntD
      · exact same_upd (sm.trans st) _ hD
    rintro σ' H6 ⟨v, zs, rfl, prC, hzs, hzD, s2⟩
    rw [List.length_map, List.take_length, ← cnts_ks] at hzs
    have t2 := u1.trans s2
    have hzl : zs.length ≤ 256 := by have := cnts_few hb; rw [← hzs, List.length_map] at this; exact this
    have hT6 := t2 _ _ hT
    refine ⟨_, rfl, T, ts, rfl, hT6, htl, fun R rs H7 s7 hR hrt hrs hrm => ?_⟩
    have t47 := t2.trans s7
    have prC7 := prC.same s7
    have hrl : rs.length = tx ts := by have := rows_len hrs hrm; rwa [List.length_map] at this
    have htx0 := tx_pos ts
    have htx7 : tx ts ≤ 720 := Nat.le_trans (tx_le ts) (Nat.le_trans (fac_le htl) (by decide))
    have told : ∀ (j : Nat) (z : Addr × List Int), rs[j]? = some z → nm z.2 = j ∧ z.2.Perm ts := fun j z hj => by
      have h1 : (rs.map (·.2))[j]? = some z.2 := by rw [List.getElem?_map, hj]; rfl
      exact ⟨rows_at hrs hrm h1, (hrm _).mp (List.mem_of_getElem? h1)⟩
    obtain ⟨c, hc, hc1, hc2⟩ : ∃ c : Nat, (1 : Int) + ((rs.length : Nat) : Int) / 12 = (c : Int) ∧ 1 ≤ c ∧ c ≤ 100 := ⟨1 + rs.length / 12, by trivial, by trivial, by trivial⟩
    refine ⟨_, rfl, R, _, rfl, .inl (SqL.of hR), _, rfl, R, _, rfl, .inl (SqL.of hR), _, _, rfl, rfl, ⟨by decide, by decide⟩, _, _, rfl, rfl, 0, ((rs.length : Nat) : Int), (c : Int), ?_, ⟨by trivial, by trivial⟩, small_step (by decide) (by decide) (by trivial) (by trivial) (by trivial) (by trivial), ?_⟩
    · rw [List.length_map]
      show [V.int 0, V.int ((rs.length : Nat) : Int), V.int (1 + ((rs.length : Nat) : Int) / 12)] = _
      rw [hc]
    refine for_rangeS (fun j σ H' => ∃ (v5 : Option V), σ = [some (.ref a), some (.int (i : Nat)), some (.ref T), some (.ref D), some (.ref R), v5] ∧ Same H7 H')
      ⟨v5, rfl, Same.refl _⟩ ?_ ?_
    · rintro j σ H8 hj ⟨v5, rfl, s8⟩
      have hjc := step_lt52 hc1 hj
      rw [show (0 : Int) + (j : Int) * (c : Int) = ((j * c : Nat) : Int) by rw [Int.zero_add, Int.natCast_mul]]
      generalize j * c = x at hjc
      obtain ⟨z, hz⟩ : ∃ z, rs[x]? = some z := ⟨_, List.getElem?_eq_getElem hjc⟩
      obtain ⟨hzn, hzp⟩ := told x z hz
      have hz8 := s8 _ _ (hrt z (List.mem_of_getElem? hz))
      refine ⟨_, rfl, _, rfl, R, _, _, V.ref z.1, rfl, rfl, SqL.of (s8 _ _ hR), atI_nat (by rw [List.getElem?_map, hz]; rfl), z.1, _, rfl, .inr (SqT.of hz8), fun l hl => ?_⟩
      have u9 := same_new hl (.lst (z.2.map V.int))
      have e9 : upd H8 l (.lst (z.2.map V.int)) l = some (lsI z.2) := upd_same
      generalize upd H8 l (.lst (z.2.map V.int)) = H9 at u9 e9 ⊢
      refine ⟨_, rfl, _, rfl, l, D, z.2, zs, by rw [hzn]; rfl, e9, by rw [hzp.length_eq]; exact hl4, (fun y hy => hb y (hzp.subset hy)), prC7.same (s8.trans u9), by rw [hzs]; exact (cnts_perm hzp).symm, fun Ha sa => ⟨_, rfl, ?_⟩⟩
      refine iteF ?_
      exact ⟨_, rfl, s8.trans (u9.trans sa)⟩
    rintro σ H8 ⟨v5, rfl, s8⟩
    obtain ⟨z, hz⟩ : ∃ z, rs[rs.length - 1]? = some z := ⟨_, List.getElem?_eq_getElem (by trivial)⟩
    obtain ⟨hzn, hzp⟩ := told _ z hz
    have hz8 := s8 _ _ (hrt z (List.mem_of_getElem? hz))
    have hR8 := s8 _ _ hR
    refine ⟨_, rfl, 1, rfl, R, _, -1, V.ref z.1, rfl, rfl, SqL.of hR8, ?_, z.1, _, rfl, .inr (SqT.of hz8), fun l hl => ?_⟩
    · refine atI_neg (d := 1) rfl (Nat.le_refl _) (by rw [List.length_map]; trivial) ?_
      rw [List.length_map, List.getElem?_map, hz]; rfl
    have u9 := same_new hl (.lst (z.2.map V.int))
    have e9 : upd H8 l (.lst (z.2.map V.int)) l = some (lsI z.2) := upd_same
    generalize upd H8 l (.lst (z.2.map V.int)) = H9 at u9 e9 ⊢
    have t79 := s8.trans u9
    refine ⟨_, rfl, _, rfl, R, _, rfl, .inl (SqL.of (u9 _ _ hR8)), _, _, rfl, rfl, l, D, z.2, zs, congrArg (fun y => [V.ref l, V.ref D, V.int y]) (by rw [List.length_map, hzn]; trivial), e9, by rw [hzp.length_eq]; exact hl4, (fun y hy => hb y (hzp.subset hy)), prC7.same t79, by rw [hzs]; exact (cnts_perm hzp).symm, fun Ha sa => ⟨_, rfl, ?_⟩⟩
    refine iteF ?_
    have t7a := t79.trans sa
    have hTa := (t47.trans t7a) _ _ hT
    obtain ⟨j, hj⟩ : ∃ j, (rs.map (·.2))[j]? = some ts := by
      obtain ⟨j, hj⟩ := List.getElem?_of_mem ((hrm ts).mpr (List.Perm.refl _))
      exact ⟨j, hj⟩
    have hjn := rows_at hrs hrm hj
    refine ⟨_, rfl, _, rfl, _, rfl, .inl ⟨rfl, _, SqL.of (t7a _ _ hR)⟩, _, rfl, T, _, rfl, .inl ⟨SqL.of hTa, fun tt htt => ?_⟩⟩
    have ub := same_new htt (.tup (ts.map V.int))
    have eb : upd Ha tt (.tup (ts.map V.int)) tt = some (.tup (ts.map V.int)) := upd_same
    generalize upd Ha tt (.tup (ts.map V.int)) = Hb at ub eb ⊢
    have t7b := t7a.trans ub
    refine ⟨R, tt, rs, ts, j, rfl, rfl, SqL.of (t7b _ _ hR), (fun z hz => SqT.of (t7b _ _ (hrt z hz))), SqT.of eb, hj, (fun m hm h => by have := rows_at hrs hrm h; trivial), ?_⟩
    refine ⟨T, D, ts, zs, by rw [hjn]; rfl, (t47.trans t7b) _ _ hT, hl4, hb, prC7.same t7b, hzs, fun Hc sc_ => ⟨_, rfl, ?_⟩⟩
    refine iteF ?_
    exact ⟨_, _, _, _, _, rfl, sm.trans (s24.trans ((t47.trans t7b).trans sc_))⟩
end
end K52
set_option Elab.async false
set_option linter.all false
set_option maxRecDepth 100000
set_option maxHeartbeats 4000000
namespace K52
open PySem L2 PySem.W PH
theorem len_1 {α : Type} : ∀ {us : List α}, us.length = 1 → ∃ x0, us = [x0]
  | [x0], _ => ⟨x0, rfl⟩
theorem len_2 {α : Type} : ∀ {us : List α}, us.length = 2 → ∃ x0 x1, us = [x0, x1]
  | [x0, x1], _ => ⟨x0, x1, rfl⟩
theorem len_3 {α : Type} : ∀ {us : List α}, us.length = 3 → ∃ x0 x1 x2, us = [x0, x1, x2]
  | [x0, x1, x2], _ => ⟨x0, x1, x2, rfl⟩
section
theorem all_mk {l : PySem.W.OpenLaw} {w : World} {K : PySem.W.Frag} {h : Heap} {mg : Str → Option Value} {fa f1 f2 f3 f4 f5 f6 f7 f8 f9 f10 f11 f12 f13 f14 f15 f16 f17 f18 c_PackError c_Broken : Addr} (X : K.In h) (G : h.Ns mainGlobals mg) (hfa : mg "law" = some (.ref fa))
    {od1 an1 od2 an2 od3 an3 od4 an4 od5 an5 od6 an6 od7 an7 od8 an8 od9 an9 od10 an10 od11 an11 od12 an12 od13 an13 od14 an14 od15 an15 od16 an16 od17 an17 od18 an18 : Option Addr} {sl1 sl2 sl3 sl4 sl5 sl6 sl7 sl8 sl9 sl10 sl11 sl12 sl13 sl14 sl15 sl16 sl17 sl18 : Array (Option Value)} {oc1 kV1 dc1 pm1 cd1 ct1 oc2 kV2 dc2 pm2 cd2 ct2 oc3 kV3 dc3 pm3 cd3 ct3 oc4 kV4 dc4 pm4 cd4 ct4 oc5 kV5 dc5 pm5 cd5 ct5 oc6 kV6 dc6 pm6 cd6 ct6 oc7 kV7 dc7 pm7 cd7 ct7 oc8 kV8 dc8 pm8 cd8 ct8 oc9 kV9 dc9 pm9 cd9 ct9 oc10 kV10 dc10 pm10 cd10 ct10 oc11 kV11 dc11 pm11 cd11 ct11 oc12 kV12 dc12 pm12 cd12 ct12 oc13 kV13 dc13 pm13 cd13 ct13 oc14 kV14 dc14 pm14 cd14 ct14 oc15 kV15 dc15 pm15 cd15 ct15 oc16 kV16 dc16 pm16 cd16 ct16 oc17 kV17 dc17 pm17 cd17 ct17 oc18 kV18 dc18 pm18 cd18 ct18 : Value}
    {tk_LAST_SIGN tk_MOST_SIGNS : Tok}
    (a1 : PySem.W.nsIn K mainGlobals "is_whole" = some (some (.ref f1))) (l1 : K.lookup f1 = some ⟨oc1, od1, .func (PySem.W.fnOf "is_whole" "is_whole" (defArgs s_whole) (defBody s_whole) (defScope s_whole) .none kV1 dc1 pm1 an1 cd1 ct1), sl1⟩) (cc1 : PySem.W.codeIn K cd1 "is_whole" = true) (k1 : PySem.W.keepIn K (.ref f1) = true)
    (a2 : PySem.W.nsIn K mainGlobals "counts_of" = some (some (.ref f2))) (l2 : K.lookup f2 = some ⟨oc2, od2, .func (PySem.W.fnOf "counts_of" "counts_of" (defArgs s_counts) (defBody s_counts) (defScope s_counts) .none kV2 dc2 pm2 an2 cd2 ct2), sl2⟩) (cc2 : PySem.W.codeIn K cd2 "counts_of" = true) (k2 : PySem.W.keepIn K (.ref f2) = true)
    (a3 : PySem.W.nsIn K mainGlobals "signs_rise" = some (some (.ref f3))) (l3 : K.lookup f3 = some ⟨oc3, od3, .func (PySem.W.fnOf "signs_rise" "signs_rise" (defArgs s_rise) (defBody s_rise) (defScope s_rise) .none kV3 dc3 pm3 an3 cd3 ct3), sl3⟩) (cc3 : PySem.W.codeIn K cd3 "signs_rise" = true) (k3 : PySem.W.keepIn K (.ref f3) = true)
    (a4 : PySem.W.nsIn K mainGlobals "are_counts" = some (some (.ref f4))) (l4 : K.lookup f4 = some ⟨oc4, od4, .func (PySem.W.fnOf "are_counts" "are_counts" (defArgs s_arec) (defBody s_arec) (defScope s_arec) .none kV4 dc4 pm4 an4 cd4 ct4), sl4⟩) (cc4 : PySem.W.codeIn K cd4 "are_counts" = true) (k4 : PySem.W.keepIn K (.ref f4) = true)
    (a5 : PySem.W.nsIn K mainGlobals "is_pair" = some (some (.ref f5))) (l5 : K.lookup f5 = some ⟨oc5, od5, .func (PySem.W.fnOf "is_pair" "is_pair" (defArgs s_pair) (defBody s_pair) (defScope s_pair) .none kV5 dc5 pm5 an5 cd5 ct5), sl5⟩) (cc5 : PySem.W.codeIn K cd5 "is_pair" = true) (k5 : PySem.W.keepIn K (.ref f5) = true)
    (a6 : PySem.W.nsIn K mainGlobals "have_texts" = some (some (.ref f6))) (l6 : K.lookup f6 = some ⟨oc6, od6, .func (PySem.W.fnOf "have_texts" "have_texts" (defArgs s_have) (defBody s_have) (defScope s_have) .none kV6 dc6 pm6 an6 cd6 ct6), sl6⟩) (cc6 : PySem.W.codeIn K cd6 "have_texts" = true) (k6 : PySem.W.keepIn K (.ref f6) = true)
    (a7 : PySem.W.nsIn K mainGlobals "orders_of" = some (some (.ref f7))) (l7 : K.lookup f7 = some ⟨oc7, od7, .func (PySem.W.fnOf "orders_of" "orders_of" (defArgs s_orders) (defBody s_orders) (defScope s_orders) .none kV7 dc7 pm7 an7 cd7 ct7), sl7⟩) (cc7 : PySem.W.codeIn K cd7 "orders_of" = true) (k7 : PySem.W.keepIn K (.ref f7) = true)
    (a8 : PySem.W.nsIn K mainGlobals "texts_with" = some (some (.ref f8))) (l8 : K.lookup f8 = some ⟨oc8, od8, .func (PySem.W.fnOf "texts_with" "texts_with" (defArgs s_texts) (defBody s_texts) (defScope s_texts) .none kV8 dc8 pm8 an8 cd8 ct8), sl8⟩) (cc8 : PySem.W.codeIn K cd8 "texts_with" = true) (k8 : PySem.W.keepIn K (.ref f8) = true)
    (a9 : PySem.W.nsIn K mainGlobals "share_of" = some (some (.ref f9))) (l9 : K.lookup f9 = some ⟨oc9, od9, .func (PySem.W.fnOf "share_of" "share_of" (defArgs s_share) (defBody s_share) (defScope s_share) .none kV9 dc9 pm9 an9 cd9 ct9), sl9⟩) (cc9 : PySem.W.codeIn K cd9 "share_of" = true) (k9 : PySem.W.keepIn K (.ref f9) = true)
    (a10 : PySem.W.nsIn K mainGlobals "signs_in_order" = some (some (.ref f10))) (l10 : K.lookup f10 = some ⟨oc10, od10, .func (PySem.W.fnOf "signs_in_order" "signs_in_order" (defArgs s_inord) (defBody s_inord) (defScope s_inord) .none kV10 dc10 pm10 an10 cd10 ct10), sl10⟩) (cc10 : PySem.W.codeIn K cd10 "signs_in_order" = true) (k10 : PySem.W.keepIn K (.ref f10) = true)
    (a11 : PySem.W.nsIn K mainGlobals "text_by_share" = some (some (.ref f11))) (l11 : K.lookup f11 = some ⟨oc11, od11, .func (PySem.W.fnOf "text_by_share" "text_by_share" (defArgs s_tbs) (defBody s_tbs) (defScope s_tbs) .none kV11 dc11 pm11 an11 cd11 ct11), sl11⟩) (cc11 : PySem.W.codeIn K cd11 "text_by_share" = true) (k11 : PySem.W.keepIn K (.ref f11) = true)
    (a12 : PySem.W.nsIn K mainGlobals "_law_pool" = some (some (.ref f12))) (l12 : K.lookup f12 = some ⟨oc12, od12, .func (PySem.W.fnOf "_law_pool" "_law_pool" (defArgs s_pool) (defBody s_pool) (defScope s_pool) .none kV12 dc12 pm12 an12 cd12 ct12), sl12⟩) (cc12 : PySem.W.codeIn K cd12 "_law_pool" = true) (k12 : PySem.W.keepIn K (.ref f12) = true)
    (a13 : PySem.W.nsIn K mainGlobals "_law_take" = some (some (.ref f13))) (l13 : K.lookup f13 = some ⟨oc13, od13, .func (PySem.W.fnOf "_law_take" "_law_take" (defArgs s_take) (defBody s_take) (defScope s_take) .none kV13 dc13 pm13 an13 cd13 ct13), sl13⟩) (cc13 : PySem.W.codeIn K cd13 "_law_take" = true) (k13 : PySem.W.keepIn K (.ref f13) = true)
    (a14 : PySem.W.nsIn K mainGlobals "_law_text" = some (some (.ref f14))) (l14 : K.lookup f14 = some ⟨oc14, od14, .func (PySem.W.fnOf "_law_text" "_law_text" (defArgs s_text) (defBody s_text) (defScope s_text) .none kV14 dc14 pm14 an14 cd14 ct14), sl14⟩) (cc14 : PySem.W.codeIn K cd14 "_law_text" = true) (k14 : PySem.W.keepIn K (.ref f14) = true)
    (a15 : PySem.W.nsIn K mainGlobals "_law_all" = some (some (.ref f15))) (l15 : K.lookup f15 = some ⟨oc15, od15, .func (PySem.W.fnOf "_law_all" "_law_all" (defArgs s_all) (defBody s_all) (defScope s_all) .none kV15 dc15 pm15 an15 cd15 ct15), sl15⟩) (cc15 : PySem.W.codeIn K cd15 "_law_all" = true) (k15 : PySem.W.keepIn K (.ref f15) = true)
    (a16 : PySem.W.nsIn K mainGlobals "_law_whole" = some (some (.ref f16))) (l16 : K.lookup f16 = some ⟨oc16, od16, .func (PySem.W.fnOf "_law_whole" "_law_whole" (defArgs s_lwhole) (defBody s_lwhole) (defScope s_lwhole) .none kV16 dc16 pm16 an16 cd16 ct16), sl16⟩) (cc16 : PySem.W.codeIn K cd16 "_law_whole" = true) (k16 : PySem.W.keepIn K (.ref f16) = true)
    (a17 : PySem.W.nsIn K mainGlobals "_law_told" = some (some (.ref f17))) (l17 : K.lookup f17 = some ⟨oc17, od17, .func (PySem.W.fnOf "_law_told" "_law_told" (defArgs s_told) (defBody s_told) (defScope s_told) .none kV17 dc17 pm17 an17 cd17 ct17), sl17⟩) (cc17 : PySem.W.codeIn K cd17 "_law_told" = true) (k17 : PySem.W.keepIn K (.ref f17) = true)
    (a18 : PySem.W.nsIn K mainGlobals "law" = some (some (.ref f18))) (l18 : K.lookup f18 = some ⟨oc18, od18, .func (PySem.W.fnOf "law" "law" (defArgs s_law) (defBody s_law) (defScope s_law) .none kV18 dc18 pm18 an18 cd18 ct18), sl18⟩) (cc18 : PySem.W.codeIn K cd18 "law" = true) (k18 : PySem.W.keepIn K (.ref f18) = true)
    (z_isinstance : PySem.W.nsIn K mainGlobals "isinstance" = some none)
    (z_list : PySem.W.nsIn K mainGlobals "list" = some none)
    (z_int : PySem.W.nsIn K mainGlobals "int" = some none)
    (z_bool : PySem.W.nsIn K mainGlobals "bool" = some none)
    (z_len : PySem.W.nsIn K mainGlobals "len" = some none)
    (z_range : PySem.W.nsIn K mainGlobals "range" = some none)
    (z_max : PySem.W.nsIn K mainGlobals "max" = some none)
    (z_ValueError : PySem.W.nsIn K mainGlobals "ValueError" = some none)
    (z_tuple : PySem.W.nsIn K mainGlobals "tuple" = some none)
    (z_min : PySem.W.nsIn K mainGlobals "min" = some none)
    (z_sorted : PySem.W.nsIn K mainGlobals "sorted" = some none)
    (z_all : PySem.W.nsIn K mainGlobals "all" = some none)
    (z_dict : PySem.W.nsIn K mainGlobals "dict" = some none)
    (z_sum : PySem.W.nsIn K mainGlobals "sum" = some none)
    (z_set : PySem.W.nsIn K mainGlobals "set" = some none)
    (e_PackError : PySem.W.nsIn K mainGlobals "PackError" = some (some (.ref c_PackError)))
    (x0_PackError : PySem.W.excIn K c_PackError bmV "ValueError.__new__" = true) (x1_PackError : PySem.W.findIn K (.ref c_PackError) "__getattribute__" = some (some (.builtin "BaseException.__getattribute__"))) (x2_PackError : PySem.W.findIn K (.ref c_PackError) "__getattr__" = some none) (x3_PackError : PySem.W.findIn K (.ref c_PackError) "__class__" = some (some (.builtin "object.__class__"))) (x4_PackError : PySem.W.mroIn K c_PackError (.type "object") = some true) (x5_PackError : PySem.W.mroIn K c_PackError (.type "BaseException") = some true) (x6_PackError : PySem.W.typeIn K (.ref c_PackError) = some (.type "type"))
    (e_Broken : PySem.W.nsIn K mainGlobals "Broken" = some (some (.ref c_Broken)))
    (x0_Broken : PySem.W.excIn K c_Broken bmV "ValueError.__new__" = true) (x1_Broken : PySem.W.findIn K (.ref c_Broken) "__getattribute__" = some (some (.builtin "BaseException.__getattribute__"))) (x2_Broken : PySem.W.findIn K (.ref c_Broken) "__getattr__" = some none) (x3_Broken : PySem.W.findIn K (.ref c_Broken) "__class__" = some (some (.builtin "object.__class__"))) (x4_Broken : PySem.W.mroIn K c_Broken (.type "object") = some true) (x5_Broken : PySem.W.mroIn K c_Broken (.type "BaseException") = some true) (x6_Broken : PySem.W.typeIn K (.ref c_Broken) = some (.type "type"))
    (g_LAST_SIGN : PySem.W.nsIn K mainGlobals "LAST_SIGN" = some (some (.int 255 tk_LAST_SIGN)))
    (g_MOST_SIGNS : PySem.W.nsIn K mainGlobals "MOST_SIGNS" = some (some (.int 400 tk_MOST_SIGNS)))
    : ∃ fd : FuncData, (∀ (s : Shared) (v : Value), BindsTo s fd ⟨[v], []⟩ [("script", v)]) ∧ ∀ base : Heap, K.In base → base.Ns mainGlobals mg → FnOk l.prog w K mg base (CXW l.prog w) 7 fa fd ["script"] (spLaw K) := by
  have e := hfa.symm.trans (PySem.W.mg_of X G a18)
  cases e
  have F1 := fun_mk (st := s_whole) l1 cc1 k1
  have b1 := F1.binds (ps := ["thing"]) fun _ _ _ _ _ _ us hl => by obtain ⟨x0, rfl⟩ := len_1 hl; rfl
  have m1 := PySem.W.mg_of X G a1
  have F2 := fun_mk (st := s_counts) l2 cc2 k2
  have b2 := F2.binds (ps := ["text"]) fun _ _ _ _ _ _ us hl => by obtain ⟨x0, rfl⟩ := len_1 hl; rfl
  have m2 := PySem.W.mg_of X G a2
  have F3 := fun_mk (st := s_rise) l3 cc3 k3
  have b3 := F3.binds (ps := ["pairs"]) fun _ _ _ _ _ _ us hl => by obtain ⟨x0, rfl⟩ := len_1 hl; rfl
  have m3 := PySem.W.mg_of X G a3
  have F4 := fun_mk (st := s_arec) l4 cc4 k4
  have b4 := F4.binds (ps := ["counts"]) fun _ _ _ _ _ _ us hl => by obtain ⟨x0, rfl⟩ := len_1 hl; rfl
  have m4 := PySem.W.mg_of X G a4
  have F5 := fun_mk (st := s_pair) l5 cc5 k5
  have b5 := F5.binds (ps := ["thing"]) fun _ _ _ _ _ _ us hl => by obtain ⟨x0, rfl⟩ := len_1 hl; rfl
  have m5 := PySem.W.mg_of X G a5
  have F6 := fun_mk (st := s_have) l6 cc6 k6
  have b6 := F6.binds (ps := ["counts"]) fun _ _ _ _ _ _ us hl => by obtain ⟨x0, rfl⟩ := len_1 hl; rfl
  have m6 := PySem.W.mg_of X G a6
  have F7 := fun_mk (st := s_orders) l7 cc7 k7
  have b7 := F7.binds (ps := ["counts"]) fun _ _ _ _ _ _ us hl => by obtain ⟨x0, rfl⟩ := len_1 hl; rfl
  have m7 := PySem.W.mg_of X G a7
  have F8 := fun_mk (st := s_texts) l8 cc8 k8
  have b8 := F8.binds (ps := ["counts"]) fun _ _ _ _ _ _ us hl => by obtain ⟨x0, rfl⟩ := len_1 hl; rfl
  have m8 := PySem.W.mg_of X G a8
  have F9 := fun_mk (st := s_share) l9 cc9 k9
  have b9 := F9.binds (ps := ["text"]) fun _ _ _ _ _ _ us hl => by obtain ⟨x0, rfl⟩ := len_1 hl; rfl
  have m9 := PySem.W.mg_of X G a9
  have F10 := fun_mk (st := s_inord) l10 cc10 k10
  have b10 := F10.binds (ps := ["counts"]) fun _ _ _ _ _ _ us hl => by obtain ⟨x0, rfl⟩ := len_1 hl; rfl
  have m10 := PySem.W.mg_of X G a10
  have F11 := fun_mk (st := s_tbs) l11 cc11 k11
  have b11 := F11.binds (ps := ["counts", "number"]) fun _ _ _ _ _ _ us hl => by obtain ⟨x0, x1, rfl⟩ := len_2 hl; rfl
  have m11 := PySem.W.mg_of X G a11
  have F12 := fun_mk (st := s_pool) l12 cc12 k12
  have b12 := F12.binds (ps := ["script", "k"]) fun _ _ _ _ _ _ us hl => by obtain ⟨x0, x1, rfl⟩ := len_2 hl; rfl
  have m12 := PySem.W.mg_of X G a12
  have F13 := fun_mk (st := s_take) l13 cc13 k13
  have b13 := F13.binds (ps := ["pool", "many"]) fun _ _ _ _ _ _ us hl => by obtain ⟨x0, x1, rfl⟩ := len_2 hl; rfl
  have m13 := PySem.W.mg_of X G a13
  have F14 := fun_mk (st := s_text) l14 cc14 k14
  have b14 := F14.binds (ps := ["pool"]) fun _ _ _ _ _ _ us hl => by obtain ⟨x0, rfl⟩ := len_1 hl; rfl
  have m14 := PySem.W.mg_of X G a14
  have F15 := fun_mk (st := s_all) l15 cc15 k15
  have b15 := F15.binds (ps := ["text"]) fun _ _ _ _ _ _ us hl => by obtain ⟨x0, rfl⟩ := len_1 hl; rfl
  have m15 := PySem.W.mg_of X G a15
  have F16 := fun_mk (st := s_lwhole) l16 cc16 k16
  have b16 := F16.binds (ps := ["number"]) fun _ _ _ _ _ _ us hl => by obtain ⟨x0, rfl⟩ := len_1 hl; rfl
  have m16 := PySem.W.mg_of X G a16
  have F17 := fun_mk (st := s_told) l17 cc17 k17
  have b17 := F17.binds (ps := ["text", "counts", "number"]) fun _ _ _ _ _ _ us hl => by obtain ⟨x0, x1, x2, rfl⟩ := len_3 hl; rfl
  have m17 := PySem.W.mg_of X G a17
  have F18 := fun_mk (st := s_law) l18 cc18 k18
  have n_isinstance := PySem.W.mg_none_of X G z_isinstance
  have n_list := PySem.W.mg_none_of X G z_list
  have n_int := PySem.W.mg_none_of X G z_int
  have n_bool := PySem.W.mg_none_of X G z_bool
  have n_len := PySem.W.mg_none_of X G z_len
  have n_range := PySem.W.mg_none_of X G z_range
  have n_max := PySem.W.mg_none_of X G z_max
  have n_ValueError := PySem.W.mg_none_of X G z_ValueError
  have n_tuple := PySem.W.mg_none_of X G z_tuple
  have n_min := PySem.W.mg_none_of X G z_min
  have n_sorted := PySem.W.mg_none_of X G z_sorted
  have n_all := PySem.W.mg_none_of X G z_all
  have n_dict := PySem.W.mg_none_of X G z_dict
  have n_sum := PySem.W.mg_none_of X G z_sum
  have n_set := PySem.W.mg_none_of X G z_set
  have m_PackError := PySem.W.mg_of X G e_PackError
  have X_PackError : Ex K mg "PackError" c_PackError := ⟨m_PackError, x0_PackError, ⟨x1_PackError, x2_PackError, x3_PackError, x4_PackError, x5_PackError, x6_PackError⟩⟩
  have m_Broken := PySem.W.mg_of X G e_Broken
  have X_Broken : Ex K mg "Broken" c_Broken := ⟨m_Broken, x0_Broken, ⟨x1_Broken, x2_Broken, x3_Broken, x4_Broken, x5_Broken, x6_Broken⟩⟩
  refine ⟨PySem.W.fnOf "law" "law" (defArgs s_law) (defBody s_law) (defScope s_law) .none kV18 dc18 pm18 an18 cd18 ct18, fun s v => .of_eq rfl, fun base _ _ => ?_⟩
  have m_MS : MS mg := ⟨_, PySem.W.mg_of X G g_MOST_SIGNS, ⟨_, rfl⟩⟩
  have m_LS : LS mg := ⟨_, PySem.W.mg_of X G g_LAST_SIGN, ⟨_, rfl⟩⟩
  have B : Bls mg := ⟨n_isinstance, n_list, n_int, n_bool, n_len, n_range, n_max, n_ValueError, n_tuple, n_min, n_sorted, n_all, n_dict⟩
  have G_whole := ok_whole (P := l.prog) (w := w) (mg := mg) (base := base) F1 B
  have G_counts := ok_counts (P := l.prog) (w := w) (mg := mg) (base := base) F2 B
  have G_rise := ok_rise (P := l.prog) (w := w) (mg := mg) (base := base) F3 B m_LS
  have G_arec := ok_arec (P := l.prog) (w := w) (mg := mg) (base := base) F4 B G_rise b3 k3 m3
  have G_pair := ok_pair (P := l.prog) (w := w) (mg := mg) (base := base) F5 B G_whole b1 k1 m1
  have G_have := ok_have (P := l.prog) (w := w) (mg := mg) (base := base) F6 B m_MS n_sum G_arec b4 k4 m4 G_pair b5 k5 m5
  have G_orders := ok_orders (P := l.prog) (w := w) (mg := mg) (base := base) F7 B
  have G_texts := ok_texts (P := l.prog) (w := w) (mg := mg) (base := base) F8 B X_Broken m_Broken G_have b6 k6 m6 G_orders b7 k7 m7
  have G_share := ok_share (P := l.prog) (w := w) (mg := mg) (base := base) F9 B G_counts b2 k2 m2 G_orders b7 k7 m7
  have G_inord := ok_inord (P := l.prog) (w := w) (mg := mg) (base := base) F10 B
  have G_tbs := ok_tbs (P := l.prog) (w := w) (mg := mg) (base := base) F11 B X_Broken m_Broken G_whole b1 k1 m1 G_texts b8 k8 m8 G_inord b10 k10 m10
  have G_pool := ok_pool (P := l.prog) (w := w) (mg := mg) (base := base) F12 B
  have G_take := ok_take (P := l.prog) (w := w) (mg := mg) (base := base) F13 B
  have G_text := ok_text (P := l.prog) (w := w) (mg := mg) (base := base) F14 B G_take b13 k13 m13
  have G_all := ok_all (P := l.prog) (w := w) (mg := mg) (base := base) F15 B
  have G_lwhole := ok_lwhole (P := l.prog) (w := w) (mg := mg) (base := base) F16 B
  have G_told := ok_told (P := l.prog) (w := w) (mg := mg) (base := base) F17 B G_share b9 k9 m9 G_tbs b11 k11 m11 G_lwhole b16 k16 m16
  exact ok_law (P := l.prog) (w := w) (mg := mg) (base := base) F18 B n_set G_pool b12 k12 m12 G_text b14 k14 m14 G_all b15 k15 m15 G_told b17 k17 m17
theorem walk {l : PySem.W.OpenLaw} {q : Program} {loose : List Str} {XP : (Str → Option Value) → Heap → Prop} {YP : World → Heap → Prop} {d : DefRec} {K : Params → PySem.W.Frag} (hn : l.most = some 63) (hdf : d.params.defaults = [])
    (hY : ∀ (w : World) (h : Heap), YP w h → (K w.params).In h)
    (F : ∀ (w : World) (mg : Str → Option Value) (fa : Addr) (h : Heap), (K w.params).In h → h.Ns mainGlobals mg → mg d.name = some (.ref fa) →
      ∃ fd : FuncData, (∀ (s : Shared) (u : Value), BindsTo s fd ⟨[u], []⟩ [("script", u)]) ∧ ∀ base : Heap, (K w.params).In base → base.Ns mainGlobals mg → FnOk l.prog w (K w.params) mg base (CXW l.prog w) 7 fa fd ["script"] (spLaw (K w.params))) :
    PySem.W.WalkO q loose XP YP l.row.toRowW d [] (fun f vs => PySem.call f vs) :=
  L2.walk_of (n := 63) (k := 7) (x := "script") (CX := fun w => CXW l.prog w) (sp := fun w => spLaw (K w.params)) hn (by decide) hdf ⟨rfl, by decide, by decide⟩ hY F (fun _ _ a ns hl _ hS => ⟨a, ns, rfl, hS, hl, fun _ => rfl⟩) fun _ _ _ _ _ z => by
    obtain ⟨_, _, _, _, _, _, _, _, _, _, _, _, _, hE⟩ := z
    exact hE
end
end K52
theorem PySem.W.Fast.tw336631352205868424:True:=trivial
theorem PySem.W.Fast.tw8054867081032270581:True:=trivial
theorem PySem.W.Fast.tw1940326206104727245:True:=trivial
theorem PySem.W.Fast.tw14942157833024773334:True:=trivial
theorem PySem.W.Fast.tw4602775781048974680:True:=trivial
theorem PySem.W.Fast.tw11665835750059494131:True:=trivial
theorem PySem.W.Fast.tw6943437757432578282:True:=trivial
theorem PySem.W.Fast.tw9088213660345683297:True:=trivial
theorem PySem.W.Fast.tw16623086041064040568:True:=trivial
theorem PySem.W.Fast.tw3384218243153198075:True:=trivial
theorem PySem.W.Fast.tw11636125383581377841:True:=trivial
theorem PySem.W.Fast.tw16365239052408522728:True:=trivial
theorem PySem.W.Fast.tw9572466942236455495:True:=trivial
theorem PySem.W.Fast.tw127669565874454742:True:=trivial
theorem PySem.W.Fast.tw2073620303944817787:True:=trivial
theorem PySem.W.Fast.tw15054089740857783750:True:=trivial
theorem PySem.W.Fast.tw5479496115698670660:True:=trivial
theorem PySem.W.Fast.tw6512497260365214413:True:=trivial
theorem PySem.W.Fast.tw6397923417405950576:True:=trivial
theorem PySem.W.Fast.tw6587390001010728760:True:=trivial
theorem PySem.W.Fast.tw16866481637280875151:True:=trivial
theorem PySem.W.Fast.tw11481048279213963404:True:=trivial
open PySem PySem.W PyProof.Rows
set_option maxRecDepth 100000 in
set_option maxHeartbeats 0 in
theorem PySem.Challenge.cw_packhall_k52_shares_of_small_texts_holds : PySem.Challenge.rw_packhall_k52_shares_of_small_texts.Holds := by
  w_on; o_law; k_head; (case hw => w_witness2)
  k_fill
  refine K52.walk (l := PySem.Challenge.rw_packhall_k52_shares_of_small_texts) rfl rfl (fun w h Y => PySem.W.kIn_of Y) ?F
  case F =>
    intro w mg fa h KX G hmg
    refine' K52.all_mk KX G hmg ?a1 ?l1 ?cc1 ?k1 ?a2 ?l2 ?cc2 ?k2 ?a3 ?l3 ?cc3 ?k3 ?a4 ?l4 ?cc4 ?k4 ?a5 ?l5 ?cc5 ?k5 ?a6 ?l6 ?cc6 ?k6 ?a7 ?l7 ?cc7 ?k7 ?a8 ?l8 ?cc8 ?k8 ?a9 ?l9 ?cc9 ?k9 ?a10 ?l10 ?cc10 ?k10 ?a11 ?l11 ?cc11 ?k11 ?a12 ?l12 ?cc12 ?k12 ?a13 ?l13 ?cc13 ?k13 ?a14 ?l14 ?cc14 ?k14 ?a15 ?l15 ?cc15 ?k15 ?a16 ?l16 ?cc16 ?k16 ?a17 ?l17 ?cc17 ?k17 ?a18 ?l18 ?cc18 ?k18 ?z_isinstance ?z_list ?z_int ?z_bool ?z_len ?z_range ?z_max ?z_ValueError ?z_tuple ?z_min ?z_sorted ?z_all ?z_dict ?z_sum ?z_set ?e_PackError ?x0_PackError ?x1_PackError ?x2_PackError ?x3_PackError ?x4_PackError ?x5_PackError ?x6_PackError ?e_Broken ?x0_Broken ?x1_Broken ?x2_Broken ?x3_Broken ?x4_Broken ?x5_Broken ?x6_Broken ?g_LAST_SIGN ?g_MOST_SIGNS
    (case a1 => k_is)
    (case l1 => k_is)
    (case cc1 => k_is)
    (case k1 => k_is)
    (case a2 => k_is)
    (case l2 => k_is)
    (case cc2 => k_is)
    (case k2 => k_is)
    (case a3 => k_is)
    (case l3 => k_is)
    (case cc3 => k_is)
    (case k3 => k_is)
    (case a4 => k_is)
    (case l4 => k_is)
    (case cc4 => k_is)
    (case k4 => k_is)
    (case a5 => k_is)
    (case l5 => k_is)
    (case cc5 => k_is)
    (case k5 => k_is)
    (case a6 => k_is)
    (case l6 => k_is)
    (case cc6 => k_is)
    (case k6 => k_is)
    (case a7 => k_is)
    (case l7 => k_is)
    (case cc7 => k_is)
    (case k7 => k_is)
    (case a8 => k_is)
    (case l8 => k_is)
    (case cc8 => k_is)
    (case k8 => k_is)
    (case a9 => k_is)
    (case l9 => k_is)
    (case cc9 => k_is)
    (case k9 => k_is)
    (case a10 => k_is)
    (case l10 => k_is)
    (case cc10 => k_is)
    (case k10 => k_is)
    (case a11 => k_is)
    (case l11 => k_is)
    (case cc11 => k_is)
    (case k11 => k_is)
    (case a12 => k_is)
    (case l12 => k_is)
    (case cc12 => k_is)
    (case k12 => k_is)
    (case a13 => k_is)
    (case l13 => k_is)
    (case cc13 => k_is)
    (case k13 => k_is)
    (case a14 => k_is)
    (case l14 => k_is)
    (case cc14 => k_is)
    (case k14 => k_is)
    (case a15 => k_is)
    (case l15 => k_is)
    (case cc15 => k_is)
    (case k15 => k_is)
    (case a16 => k_is)
    (case l16 => k_is)
    (case cc16 => k_is)
    (case k16 => k_is)
    (case a17 => k_is)
    (case l17 => k_is)
    (case cc17 => k_is)
    (case k17 => k_is)
    (case a18 => k_is)
    (case l18 => k_is)
    (case cc18 => k_is)
    (case k18 => k_is)
    (case z_isinstance => k_is)
    (case z_list => k_is)
    (case z_int => k_is)
    (case z_bool => k_is)
    (case z_len => k_is)
    (case z_range => k_is)
    (case z_max => k_is)
    (case z_ValueError => k_is)
    (case z_tuple => k_is)
    (case z_min => k_is)
    (case z_sorted => k_is)
    (case z_all => k_is)
    (case z_dict => k_is)
    (case z_sum => k_is)
    (case z_set => k_is)
    (case e_PackError => k_is)
    (case x0_PackError => k_exc)
    (case x1_PackError => k_is)
    (case x2_PackError => k_is)
    (case x3_PackError => k_is)
    (case x4_PackError => k_is)
    (case x5_PackError => k_is)
    (case x6_PackError => k_is)
    (case e_Broken => k_is)
    (case x0_Broken => k_exc)
    (case x1_Broken => k_is)
    (case x2_Broken => k_is)
    (case x3_Broken => k_is)
    (case x4_Broken => k_is)
    (case x5_Broken => k_is)
    (case x6_Broken => k_is)
    (case g_LAST_SIGN => k_is)
    (case g_MOST_SIGNS => k_is)

