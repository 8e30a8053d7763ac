import PyProof.Rows.All
import Wide.All
import OpenK.AllK
import Wide.FinOn
import Lean
import PyProof.EqAt
import PyProof.EqKinds
import PyProof.TupleCall
import PyProof.NsDelKeeps
import PyProof.NeKinds
import PySem.Challenge.RW_packhall_k10_coded_and_decoded
local macro_rules | `(tactic| trivial) => `(tactic| first | with_reducible assumption | lia | omega)
set_option Elab.async false
set_option linter.all false
set_option maxRecDepth 100000
namespace L2
open PySem PySem.Spec PyProof.Rows
noncomputable abbrev Key := Sum Int Str
noncomputable def keyIs : Key → Value → Bool
  | .inl k, v => Value.isInt k v
  | .inr x, v => Value.isStrOf x v
noncomputable def keyH (w : World) : Key → Int
  | .inl k => hashInt k
  | .inr x => hashStr w x
theorem keyIs_shape : ∀ {k : Key} {v : Value}, keyIs k v = true → (∃ i t, k = Sum.inl i ∧ v = Value.int i t) ∨ (∃ x t, k = Sum.inr x ∧ v = Value.str x t)
  | .inl i, v, h => by
    obtain ⟨t, e⟩ := Value.isInt_shape (k := i) (v := v) h
    exact .inl ⟨i, t, rfl, e⟩
  | .inr x, v, h => by
    obtain ⟨t, e⟩ := Value.isStrOf_shape (x := x) (v := v) h
    exact .inr ⟨x, t, rfl, e⟩
theorem keyIs_int (i : Int) (t : Tok) : keyIs (.inl i) (.int i t) = true := by simp [keyIs, Value.isInt]
theorem keyIs_str (x : Str) (t : Tok) : keyIs (.inr x) (.str x t) = true := by simp [keyIs, Value.isStrOf]
theorem key_ll (a b : Int) : decide ((Sum.inl a : Key) = Sum.inl b) = (a == b) := by
  by_cases e : a = b
  · subst e; simp
  · have h : ¬ (Sum.inl a : Key) = Sum.inl b := fun q => e (Sum.inl.inj q)
    rw [decide_eq_false h]
    exact (beq_eq_false_iff_ne.mpr e).symm
theorem key_rr (a b : Str) : decide ((Sum.inr a : Key) = Sum.inr b) = decide (a = b) := by
  by_cases e : a = b
  · subst e; simp
  · have h : ¬ (Sum.inr a : Key) = Sum.inr b := fun q => e (Sum.inr.inj q)
    rw [decide_eq_false h, decide_eq_false e]
theorem key_lr (a : Int) (b : Str) : decide ((Sum.inl a : Key) = Sum.inr b) = false := decide_eq_false (fun q => nomatch q)
theorem key_rl (a : Str) (b : Int) : decide ((Sum.inr a : Key) = Sum.inl b) = false := decide_eq_false (fun q => nomatch q)
noncomputable def mixKind (prog : Program) (w : World) : PySem.KeyKind prog w Key where
  is := keyIs
  hash := keyH w
  inj := fun v a b ha hb => by
    rcases keyIs_shape ha with ⟨i, t, rfl, rfl⟩ | ⟨x, t, rfl, rfl⟩
    · rcases keyIs_shape hb with ⟨j, u, rfl, e⟩ | ⟨y, u, rfl, e⟩
      · injection e with e1 _; rw [e1]
      · exact nomatch e
    · rcases keyIs_shape hb with ⟨j, u, rfl, e⟩ | ⟨y, u, rfl, e⟩
      · exact nomatch e
      · injection e with e1 _; rw [e1]
  byValue := fun k v h => by
    rcases keyIs_shape h with ⟨i, t, rfl, rfl⟩ | ⟨x, t, rfl, rfl⟩ <;> rfl
  pyHash := fun hv h => by
    rcases keyIs_shape hv with ⟨i, t, rfl, rfl⟩ | ⟨x, t, rfl, rfl⟩
    · exact wpAny_pyHash_int h
    · exact wpAny_pyHash_str h
  eqBool := fun hu hv h => by
    rcases keyIs_shape hu with ⟨i, t, rfl, rfl⟩ | ⟨x, t, rfl, rfl⟩
    · rcases keyIs_shape hv with ⟨j, u, rfl, rfl⟩ | ⟨y, u, rfl, rfl⟩
      · rw [key_ll] at h; exact wpAny_eqBool_int h
      · rw [key_lr] at h; exact SeqAt.EqAt.int_str i t y u _ _ _ _ h
    · rcases keyIs_shape hv with ⟨j, u, rfl, rfl⟩ | ⟨y, u, rfl, rfl⟩
      · rw [key_rl] at h; exact SeqAt.EqAt.str_int x t j u _ _ _ _ h
      · rw [key_rr] at h; exact wpAny_eqBool_str h
  «strs» := fun k x t v h => by
    rcases keyIs_shape h with ⟨i, u, rfl, e⟩ | ⟨y, u, rfl, e⟩
    · exact nomatch e
    · injection e with e1 _
      subst e1
      cases v <;> rfl
theorem mixKind_int (prog : Program) (w : World) (i : Int) (t : Tok) : (mixKind prog w).is (.inl i) (.int i t) = true := keyIs_int i t
theorem mixKind_str (prog : Program) (w : World) (x : Str) (t : Tok) : (mixKind prog w).is (.inr x) (.str x t) = true := keyIs_str x t
end L2
namespace L2
open PySem PySem.Spec PyProof.Rows
inductive V where
  | non | bl (b : Bool) | int (i : Int) | str (x : Str) | byt (b : Array UInt8) | flt (b : UInt64) | ref (a : Addr) | ty (n : String)
  deriving DecidableEq
noncomputable def RelV : V → Value → Prop
  | .non, u => u = Value.none
  | .bl b, u => u = Value.bool b
  | .int i, u => ∃ t, u = Value.int i t
  | .str x, u => ∃ t, u = Value.str x t
  | .byt b, u => ∃ t, u = Value.bytes b t
  | .flt b, u => ∃ t, u = Value.float b t
  | .ref a, u => u = Value.ref a
  | .ty n, u => u = Value.type n
noncomputable abbrev Vals : List V → List Value → Prop := Paired RelV
theorem Vals.length {xs : List V} {us : List Value} (r : Vals xs us) : xs.length = us.length := Paired.length r
theorem Vals.get : ∀ {xs : List V} {us : List Value} {i : Nat} {x : V}, Vals xs us → xs[i]? = some x → ∃ u, us[i]? = some u ∧ RelV x u
  | _, _, _, _, .nil, e => by simp at e
  | _, _, 0, _, .cons r _, e => by simp at e; subst e; exact ⟨_, rfl, r⟩
  | _, _, i + 1, x, .cons _ t, e => by
    obtain ⟨u, h1, h2⟩ := Vals.get (i := i) (x := x) t (by simpa using e)
    exact ⟨u, by simpa using h1, h2⟩
theorem Vals.set {x : V} {u : Value} (r : RelV x u) : ∀ {xs : List V} {us : List Value} (i : Nat), Vals xs us → Vals (xs.set i x) (us.set i u)
  | _, _, _, .nil => .nil
  | _, _, 0, .cons _ t => .cons r t
  | _, _, i + 1, .cons q t => .cons q (Vals.set r i t)
theorem Vals.append : ∀ {xs ys : List V} {us ws : List Value}, Vals xs us → Vals ys ws → Vals (xs ++ ys) (us ++ ws)
  | _, _, _, _, .nil, s => s
  | _, _, _, _, .cons r t, s => .cons r (Vals.append t s)
theorem Vals.take : ∀ {xs : List V} {us : List Value} (n : Nat), Vals xs us → Vals (xs.take n) (us.take n)
  | _, _, 0, _ => .nil
  | _, _, _ + 1, .nil => .nil
  | _, _, n + 1, .cons r t => .cons r (Vals.take n t)
theorem Vals.drop : ∀ {xs : List V} {us : List Value} (n : Nat), Vals xs us → Vals (xs.drop n) (us.drop n)
  | _, _, 0, r => r
  | _, _, _ + 1, .nil => .nil
  | _, _, n + 1, .cons _ t => Vals.drop n t
noncomputable def RelO : Option V → Option Value → Prop
  | some v, some u => RelV v u
  | none, none => True
  | _, _ => False
noncomputable def KV {κ : Type} : List (κ × V) → List (κ × Value) → Prop := Paired fun (p : κ × V) (q : κ × Value) => p.1 = q.1 ∧ RelV p.2 q.2
noncomputable def kV : Key → V
  | .inl i => .int i
  | .inr x => .str x
inductive HO where
  /-- a list -/
  | lst (xs : List V)
  /-- a tuple (never changes) -/
  | tup (xs : List V)
  /-- a dict whose keys are ints and texts; one whose keys are tuples of ints and texts (the empty one is both) -/
  | dK (kvs : List (Key × V)) | dT (kvs : List (List Key × V))
  /-- a set of ints: its members, its size -/
  | set (S : Int → Bool) (n : Nat)
  /-- an instance of the class at C, its dict at dx, its attributes -/
  | ins (C dx : Addr) (fs : List (Str × V))
  /-- the dict of the instance at x -/
  | own (x : Addr)
  /-- the dict of an exception -/
  | xd (fs : List (Str × V))
  /-- a bound method, f of x -/
  | met (f x : Addr)
  /-- a range object lo, lo + 1, .. below hi -/
  | rng (lo hi : Int)
  /-- a thing that is known to the object (the script; a dict while a loop walks it): read, never written while it is so -/
  | frz (o : Obj) (u : HO)
  /-- a code object's table -/
  | tbl (ps : Array Value)
  /-- any other thing, by what is true of its one object (a def of one's own: SetO a S n := HO.ext fun h => ..) -/
  | ext (φ : Heap → Prop)
noncomputable abbrev Hp := Addr → Option HO
noncomputable def upd (H : Hp) (a : Addr) (o : HO) : Hp := fun b => if b = a then some o else H b
theorem upd_same {H : Hp} {a : Addr} {o : HO} : upd H a o a = some o := by unfold upd; rw [if_pos rfl]
theorem upd_ne {H : Hp} {a b : Addr} {o : HO} (h : b ≠ a) : upd H a o b = H b := by unfold upd; rw [if_neg h]
theorem upd_upd {H : Hp} {a : Addr} {o u : HO} : upd (upd H a o) a u = upd H a u := by
  funext b; unfold upd; split <;> rfl
theorem ne_of {H : Hp} {a b : Addr} {o u : HO} (h : H a = some o) (h' : H b = some u) (d : o ≠ u) : a ≠ b := by
  intro e; subst e; rw [h] at h'; exact d (Option.some.inj h')
theorem ne_of_none {H : Hp} {a b : Addr} {o : HO} (h : H a = some o) (h' : H b = none) : a ≠ b := by
  intro e; subst e; rw [h] at h'; cases h'
section
variable (P : Program) (w : World)
noncomputable def ObjOk (H : Hp) (h : Heap) (a : Addr) : HO → Prop
  | .lst xs => xs.length ≤ sizeLine ∧ ∃ (its : List Value) (n : Nat), Vals xs its ∧ h.get? a = some { cls := .type "list", data := .seq its.toArray n }
  | .tup xs => xs.length ≤ sizeLine ∧ ∃ its : List Value, Vals xs its ∧ IsTup h a its.toArray
  | .dK kvs => kvs.length ≤ sizeLine ∧ (a == sysModules) = false ∧ ∃ vs, KV kvs vs ∧ h.DictOf (mixKind P w) a vs
  | .dT kvs => kvs.length ≤ sizeLine ∧ (a == sysModules) = false ∧ ∃ xs : List (List Key × Addr × Value),
      Paired (fun (p : List Key × V) (q : List Key × Addr × Value) => p.1 = q.1 ∧ H q.2.1 = some (.tup (p.1.map kV)) ∧ RelV p.2 q.2.2) kvs xs ∧
      ∃ o es ep, h.get? a = some o ∧ o.ExactDict ∧ o.data = .dict es ep ∧ es.toList = xs.map (entryOfKey (tupleKind (mixKind P w))) ∧ (xs.map (·.1)).Nodup
  | .set S n => h.SetOf (intKind P w) a S n
  | .ins C dx fs => H dx = some (.own a) ∧ fs.length ≤ 1000 ∧ dx ≠ a ∧ h.get? a = some (PySem.W.instObj C dx) ∧
      ∃ mA, h.Ns1 dx mA ∧ (∀ f, RelO (fs.lookup f) (mA f)) ∧ PySem.Within mA (fs.map (·.1))
  | .own _ => ∃ o, h.get? a = some o
  | .xd fs => ∃ mA, h.Ns1 a mA ∧ ∀ f, RelO (fs.lookup f) (mA f)
  | .rng lo hi => ∃ t u v, h.get? a = some { cls := .type "range", data := .fields #[.int lo t, .int hi u, .int 1 v] }
  | .frz o u => h.get? a = some o ∧ ObjOk H h a u
  | .tbl ps => h.get? a = some { cls := .none, data := .fields ps }
  | .met f x => h.get? a = some (PySem.W.methodObj (.ref f) (.ref x))
  | .ext φ => φ h ∧ (∃ o, h.get? a = some o) ∧ ∀ h1 h2 : Heap, φ h1 → (∀ o, h1.get? a = some o → h2.get? a = some o) → φ h2
noncomputable def HOk (H : Hp) (h : Heap) : Prop := ∀ a o, H a = some o → ObjOk P w H h a o
end
section
variable {P : Program} {w : World} {H H' : Hp} {h h' : Heap} {a : Addr} {o : HO}
theorem ObjOk.lt (x : ObjOk P w H h a o) : a < h.objs.size := by
  cases o with
  | lst xs => obtain ⟨_, _, _, _, e⟩ := x; exact Heap.lt_size e
  | tup xs => obtain ⟨_, _, _, p⟩ := x; exact p.lt
  | dK kvs => obtain ⟨_, _, _, _, o, _, _, e, _⟩ := x; exact Heap.lt_size e
  | dT kvs => obtain ⟨_, _, _, _, o, _, _, e, _⟩ := x; exact Heap.lt_size e
  | set S n => obtain ⟨o, _, _, _, e, _⟩ := x; exact Heap.lt_size e
  | ins C dx fs => obtain ⟨_, _, _, e, _⟩ := x; exact Heap.lt_size e
  | own y => obtain ⟨_, e⟩ := x; exact Heap.lt_size e
  | xd fs => obtain ⟨_, ⟨_, _, _, e, _⟩, _⟩ := x; exact Heap.lt_size e
  | rng lo hi => obtain ⟨_, _, _, e⟩ := x; exact Heap.lt_size e
  | frz ob u => obtain ⟨e, _⟩ := x; exact Heap.lt_size e
  | tbl ps => exact Heap.lt_size (show h.get? a = some _ from x)
  | met f y => exact Heap.lt_size (show h.get? a = some _ from x)
  | ext φ => obtain ⟨_, ⟨_, e⟩, _⟩ := x; exact Heap.lt_size e
theorem Paired.mapP {α β : Type} {F G : α → β → Prop} : ∀ {l₁ : List α} {l₂ : List β}, Paired F l₁ l₂ → (∀ a b, F a b → G a b) → Paired G l₁ l₂
  | _, _, .nil, _ => .nil
  | _, _, .cons r t, f => .cons (f _ _ r) (Paired.mapP t f)
theorem ObjOk.stay (x : ObjOk P w H h a o) (k : ∀ b u, (b = a ∨ H b = some (.own a)) → h.get? b = some u → h'.get? b = some u)
    (ho : ∀ b, H b = some (.own a) → H' b = some (.own a)) (ht : ∀ b xs, H b = some (.tup xs) → H' b = some (.tup xs)) : ObjOk P w H' h' a o := by
  induction o with
  | lst xs => obtain ⟨z, its, n, r, e⟩ := x; exact ⟨z, its, n, r, k _ _ (.inl rfl) e⟩
  | tup xs => obtain ⟨z, its, r, ob, e, c⟩ := x; exact ⟨z, its, r, ob, k _ _ (.inl rfl) e, c⟩
  | dK kvs => obtain ⟨z, y, vs, r, ob, es, ep, e, c⟩ := x; exact ⟨z, y, vs, r, ob, es, ep, k _ _ (.inl rfl) e, c⟩
  | dT kvs =>
    obtain ⟨z, y, xs, r, ob, es, ep, e, c⟩ := x
    exact ⟨z, y, xs, Paired.mapP r fun p q z => ⟨z.1, ht _ _ z.2.1, z.2.2⟩, ob, es, ep, k _ _ (.inl rfl) e, c⟩
  | set S n => obtain ⟨ob, es, ep, t, e, c⟩ := x; exact ⟨ob, es, ep, t, k _ _ (.inl rfl) e, c⟩
  | ins C dx fs =>
    obtain ⟨d, z, ne, e, mA, ⟨od, es, ep, e2, c⟩, r⟩ := x
    exact ⟨ho _ d, z, ne, k _ _ (.inl rfl) e, mA, ⟨od, es, ep, k _ _ (.inr d) e2, c⟩, r⟩
  | own y => obtain ⟨ob, e⟩ := x; exact ⟨ob, k _ _ (.inl rfl) e⟩
  | xd fs => obtain ⟨mA, ⟨od, es, ep, e, c⟩, r⟩ := x; exact ⟨mA, ⟨od, es, ep, k _ _ (.inl rfl) e, c⟩, r⟩
  | rng lo hi => obtain ⟨t, u, v, e⟩ := x; exact ⟨t, u, v, k _ _ (.inl rfl) e⟩
  | frz ob u ih => obtain ⟨e, q⟩ := x; exact ⟨k _ _ (.inl rfl) e, ih q⟩
  | tbl ps =>
    have e : h.get? a = some { cls := .none, data := .fields ps } := x
    show h'.get? a = some { cls := .none, data := .fields ps }
    exact k a _ (.inl rfl) e
  | met f y =>
    have e : h.get? a = some (PySem.W.methodObj (.ref f) (.ref y)) := x
    show h'.get? a = some (PySem.W.methodObj (.ref f) (.ref y))
    exact k a _ (.inl rfl) e
  | ext φ => obtain ⟨p, ⟨o, e⟩, st⟩ := x; exact ⟨st _ _ p fun o q => k _ _ (.inl rfl) q, ⟨o, k _ _ (.inl rfl) e⟩, st⟩
theorem HOk.lt (x : HOk P w H h) (e : H a = some o) : a < h.objs.size := (x a o e).lt
theorem HOk.fresh (x : HOk P w H h) (e : h.objs.size ≤ a) : H a = none := by
  cases q : H a with
  | none => rfl
  | some u => exact absurd (Nat.lt_of_lt_of_le (x.lt q) e) (Nat.lt_irrefl _)
theorem HOk.kept (x : HOk P w H h) (k : ∀ b u, h.get? b = some u → h'.get? b = some u) : HOk P w H h' := fun a o e =>
  (x a o e).stay (fun b u _ q => k b u q) (fun _ q => q) fun _ _ q => q
theorem HOk.laid (x : HOk P w H h) (k : ∀ b u, h.get? b = some u → h'.get? b = some u) (hp : h.objs.size ≤ a) (new : ObjOk P w (upd H a o) h' a o) : HOk P w (upd H a o) h' := fun b u e => by
  have hn := x.fresh hp
  by_cases hb : b = a
  · subst hb; rw [upd_same] at e; cases e; exact new
  · rw [upd_ne hb] at e
    exact (x b u e).stay (fun c v _ q => k c v q) (fun c q => by rw [upd_ne (ne_of_none q hn)]; exact q) fun c xs q => by rw [upd_ne (ne_of_none q hn)]; exact q
end
noncomputable def Rd (H : Hp) (a : Addr) (u : HO) : Prop := H a = some u ∨ ∃ o, H a = some (.frz o u)
theorem Rd.ok {P : Program} {w : World} {H : Hp} {h : Heap} {a : Addr} {u : HO} (r : Rd H a u) (x : HOk P w H h) : ObjOk P w H h a u := by
  rcases r with r | ⟨o, r⟩
  · exact x a u r
  · obtain ⟨_, q⟩ := x a _ r
    exact q
noncomputable def Mut : Option HO → Prop
  | some (.lst _) => True
  | some (.dK _) => True
  | some (.dT _) => True
  | some (.set _ _) => True
  | some (.ins _ _ _) => True
  | some (.ext _) => True
  | _ => False
section
variable {P : Program} {w : World} {H : Hp} {h h' : Heap} {x e : Addr} {o' : HO}
theorem HOk.write (ok : HOk P w H h) (mu : Mut (H x)) (he : e = x ∨ H e = some (.own x)) (k : ∀ b u, b ≠ e → h.get? b = some u → h'.get? b = some u) (heo : ∃ u, h'.get? e = some u)
    (new : ObjOk P w (upd H x o') h' x o') : HOk P w (upd H x o') h' := fun b u q => by
  have nown : ∀ c y, H c = some (.own y) → c ≠ x := fun c y r z => by subst z; rw [r] at mu; exact mu
  have ntup : ∀ c xs, H c = some (.tup xs) → c ≠ x := fun c xs r z => by subst z; rw [r] at mu; exact mu
  by_cases hb : b = x
  · subst hb; rw [upd_same] at q; cases q; exact new
  · rw [upd_ne hb] at q
    by_cases hbe : b = e
    · have q' : H b = some (.own x) := by
        rcases he with z | z
        · exact absurd (hbe.trans z) hb
        · rw [hbe]; exact z
      rw [q] at q'; cases q'
      obtain ⟨v, hv⟩ := heo
      exact ⟨v, by rw [hbe]; exact hv⟩
    · refine (ok b u q).stay (fun c v hc r => k c v ?_ r) (fun c r => by rw [upd_ne (nown c b r)]; exact r) fun c xs r => by rw [upd_ne (ntup c xs r)]; exact r
      rcases hc with rfl | hc
      · exact hbe
      · rintro rfl
        rcases he with z | z
        · exact nown c b hc z
        · rw [hc] at z; cases z; exact hb rfl
end
structure Un (fs ex : List Addr) (H H' : Hp) (h h' : Heap) : Prop where
  keep : ∀ b o, h.get? b = some o → H b = none → b ∉ fs → b ∉ ex → h'.get? b = some o
  slot : ∀ b o, h.get? b = some o → H b = none → b ∈ fs → b ∉ ex → ∃ sl, h'.get? b = some { o with slots := sl }
  free : ∀ b o, h.get? b = some o → H b = none → b ∉ ex → H' b = none
  there : ∀ b o, h.get? b = some o → b ∉ ex → ∃ o', h'.get? b = some o'
  tups : ∀ b xs, H b = some (.tup xs) → H' b = some (.tup xs)
  frzs : ∀ b o u, H b = some (.frz o u) → H' b = some (.frz o u)
  tbls : ∀ b ps, H b = some (.tbl ps) → ∃ more, H' b = some (.tbl (ps ++ more))
section
variable {fs fs' ex ex' : List Addr} {H H1 H2 : Hp} {h h1 h2 h' : Heap} {a x e : Addr} {o : HO}
theorem Un.any (u : Un fs ex H H1 h h1) {b : Addr} {ob : Obj} (q : h.get? b = some ob) (n : H b = none) (hx : b ∉ ex) : ∃ sl, h1.get? b = some { ob with slots := sl } := by
  by_cases hb : b ∈ fs
  · exact u.slot b ob q n hb hx
  · exact ⟨ob.slots, u.keep b ob q n hb hx⟩
theorem Un.kept (k : ∀ b u, h.get? b = some u → h'.get? b = some u) : Un fs ex H H h h' :=
  ⟨fun b ob q _ _ _ => k b ob q, fun b ob q _ _ _ => ⟨ob.slots, k b ob q⟩, fun _ _ _ n _ => n, fun b ob q _ => ⟨ob, k b ob q⟩, fun _ _ q => q, fun _ _ _ q => q, fun _ ps q => ⟨#[], by rw [q]; simp⟩⟩
theorem Un.refl : Un fs ex H H h h := Un.kept fun _ _ q => q
theorem Un.laid (k : ∀ b u, h.get? b = some u → h'.get? b = some u) (hp : h.objs.size ≤ a) (hn : H a = none) : Un fs ex H (upd H a o) h h' where
  keep := fun b u q _ _ _ => k b u q
  slot := fun b u q _ _ _ => ⟨u.slots, k b u q⟩
  free := fun b u q n _ => by rw [upd_ne (Nat.ne_of_lt (Nat.lt_of_lt_of_le (Heap.lt_size q) hp))]; exact n
  there := fun b u q _ => ⟨u, k b u q⟩
  tups := fun b xs q => by rw [upd_ne (ne_of_none q hn)]; exact q
  frzs := fun b u xs q => by rw [upd_ne (ne_of_none q hn)]; exact q
  tbls := fun b ps q => ⟨#[], by rw [upd_ne (ne_of_none q hn), q]; simp⟩
theorem Un.write (mu : Mut (H x)) (he : e = x ∨ H e = some (.own x)) (k : ∀ b u, b ≠ e → h.get? b = some u → h'.get? b = some u) (heo : ∃ u, h'.get? e = some u) : Un fs ex H (upd H x o) h h' := by
  have hx : ∀ b, H b = none → b ≠ x := fun b n z => by subst z; rw [n] at mu; exact mu
  have hb : ∀ b, H b = none → b ≠ e := fun b n z => by
    subst z
    rcases he with r | r
    · exact hx b n r
    · rw [n] at r; cases r
  have hm : ∀ b u, H b = some u → ¬ Mut (some u) → b ≠ x := fun b u q nm z => by subst z; rw [q] at mu; exact nm mu
  refine ⟨fun b u q n _ _ => k b u (hb b n) q, fun b u q n _ _ => ⟨u.slots, k b u (hb b n) q⟩, fun b u q n _ => by rw [upd_ne (hx b n)]; exact n, fun b u q _ => ?_,
    fun b xs q => by rw [upd_ne (hm b _ q fun z => z)]; exact q, fun b u xs q => by rw [upd_ne (hm b _ q fun z => z)]; exact q, fun b ps q => ⟨#[], by rw [upd_ne (hm b _ q fun z => z), q]; simp⟩⟩
  by_cases hbe : b = e
  · subst hbe; exact heo
  · exact ⟨u, k b u hbe q⟩
end
noncomputable def trk (h : Heap) (H : Hp) : List Addr := (List.range h.objs.size).filter fun a => (H a).isSome
noncomputable def hidT (h : Heap) (H : Hp) : Heap := PySem.W.hideAll h (trk h H)
theorem hidT_size (h : Heap) (H : Hp) : (hidT h H).objs.size = h.objs.size := PySem.W.hideAll_size _ _
theorem hidT_get {h : Heap} {H : Hp} {b : Addr} {o : Obj} (e : h.get? b = some o) (n : H b = none) : (hidT h H).get? b = some o :=
  PySem.W.hideAll_get _ e fun hm => by
    have q : (H b).isSome = true := (List.mem_filter.mp hm).2
    rw [n] at q; simp at q
theorem of_hidT {h : Heap} {H : Hp} {b : Addr} {o : Obj} (e : (hidT h H).get? b = some o) : h.get? b = some o ∧ H b = none := by
  have e' : h.get? b = some o := PySem.W.of_hideAll (trk h H) e
  refine ⟨e', ?_⟩
  cases q : H b with
  | none => rfl
  | some x =>
    have hm : b ∈ trk h H := List.mem_filter.mpr ⟨List.mem_range.mpr (Heap.lt_size e'), by simp [q]⟩
    have z : (hidT h H).get? b = none := PySem.W.hideAll_none (trk h H) hm
    rw [z] at e; cases e
end L2
namespace L2
open PySem PySem.Spec PyProof.Rows
structure Mod (K : PySem.W.Frag) (mg : Str → Option Value) (base : Heap) : Prop where
  kin : K.In base
  glob : base.Ns mainGlobals mg
  blt : ∃ mb, base.Ns builtinsNs mb ∧ ∀ x : Str, x ≠ "__name__" → mb x = bootBuiltins x
  nolimit : base.NoLimit
structure Cx where
  prog : Program
  w : World
  K : PySem.W.Frag
  mg : Str → Option Value
  base : Heap
  A : Around
  N : List Str
  s₀ : Shared
  H₀ : Hp
  env : Env
  outer : List Env
  stack : List Env
  ex : List Addr
  fn : Str → Bool
  calm : Bool
  pn : List (Addr × Obj)
  xe : Value → Shared → Prop
noncomputable def frs (l : List Env) : List Addr := l.filterMap (·.frame)
noncomputable abbrev Cx.fs (X : Cx) : List Addr := frs X.outer
noncomputable def Vis (sc : Scope) (x : Str) : Prop := sc.names.lookup x = some .local ∨ sc.names.lookup x = some .cell ∨ sc.names.lookup x = some .free
noncomputable def Loc (sc : Scope) (x : Str) : Prop := sc.names.lookup x = some .local ∨ sc.names.lookup x = some .cell
noncomputable def Look (env : Env) (h : Heap) (m : Str → Option Value) (x : Str) (u : Value) : Prop :=
  (env.kindOf x = some .local ∧ m x = some u) ∨ ((env.kindOf x = some .cell ∨ env.kindOf x = some .free) ∧ ∃ c, env.cells.lookup x = some c ∧ h.IsCell c (some u))
structure Cx.Ok (X : Cx) : Prop where
  mod : Mod X.K X.mg X.base
  kind : X.env.scope.kind = .function
  glob : X.env.globals = mainGlobals
  blt : X.env.builtins = builtinsNs
  above : X.s₀.heap.objs.size ≤ X.env.locals
  inj : ∀ x y c, X.env.cells.lookup x = some c → X.env.cells.lookup y = some c → x = y
  has : ∀ x, (X.env.kindOf x = some .cell ∨ X.env.kindOf x = some .free) → ∃ c, X.env.cells.lookup x = some c
  cab : ∀ x c, X.fn x = true → X.env.cells.lookup x = some c → X.s₀.heap.objs.size ≤ c
  hd : X.calm = true → X.A.handled = none
  frames : X.A.frames = some X.stack
  stk : X.stack = X.outer ∨ (X.stack = X.env :: X.outer ∧ X.env.frame = some X.env.locals)
  exf : ∀ b ∈ X.ex, b ≠ X.env.locals ∧ ∀ x c, X.env.cells.lookup x = some c → c ≠ b
  bs : ∀ b o, X.base.get? b = some o → X.s₀.heap.get? b = some o ∧ X.H₀ b = none
  bsz : X.base.objs.size ≤ X.s₀.heap.objs.size
  noex : ∀ b o, X.base.get? b = some o → b ∉ X.ex
  exfs : ∀ b ∈ X.ex, b ∉ X.fs
  funs : X.s₀.heap.FunFrames X.base X.outer
  frf : ∀ b ∈ X.fs, X.H₀ b = none
structure Inv (X : Cx) (pins : List (Addr × Obj)) (σ : List (Option V)) (H : Hp) (s : Shared) : Prop where
  ok : X.Ok
  os : s.os = X.s₀.os
  bare : AllBare s.gens
  base : Un X.fs X.ex X.H₀ H X.s₀.heap s.heap
  loc : ∃ m, s.heap.Ns X.env.locals m ∧ ∀ (i : Nat) (x : Str) (v : V), X.N[i]? = some x → σ[i]? = some (some v) → Vis X.env.scope x → ∃ u, RelV v u ∧ Look X.env s.heap m x u
  cell : ∀ x c, X.env.cells.lookup x = some c → ∃ v, s.heap.IsCell c v
  free : H X.env.locals = none
  freeC : ∀ x c, X.env.cells.lookup x = some c → H c = none
  pin : ∀ p ∈ X.pn ++ pins, s.heap.get? p.1 = some p.2 ∧ H p.1 = none ∧ p.1 ≠ X.env.locals ∧ p.1 ∉ X.fs ∧ ∀ v, p.2.data ≠ .cell v
  hok : HOk X.prog X.w H s.heap
  len : σ.length = X.N.length
section
variable {X : Cx} {pins : List (Addr × Obj)} {σ : List (Option V)} {H H' : Hp} {s : Shared} {h' : Heap}
theorem Cx.Ok.nofr (ok : X.Ok) {b : Addr} {o : Obj} (e : X.base.get? b = some o) : b ∉ X.fs := fun hb => by
  have := (ok.funs.mem hb).1
  rw [e] at this; cases this
theorem Inv.bs (I : Inv X pins σ H s) : ∀ b o, X.base.get? b = some o → s.heap.get? b = some o ∧ H b = none := fun b o e =>
  ⟨I.base.keep b o (I.ok.bs b o e).1 (I.ok.bs b o e).2 (I.ok.nofr e) (I.ok.noex b o e), I.base.free b o (I.ok.bs b o e).1 (I.ok.bs b o e).2 (I.ok.noex b o e)⟩
theorem Inv.bk (I : Inv X pins σ H s) : ∀ b o, X.base.get? b = some o → s.heap.get? b = some o := fun b o e => (I.bs b o e).1
theorem Inv.mod (I : Inv X pins σ H s) : Mod X.K X.mg X.base := I.ok.mod
theorem Inv.kIn (I : Inv X pins σ H s) : X.K.In s.heap := I.ok.mod.kin.keeps I.bk
theorem Inv.lt (I : Inv X pins σ H s) : X.env.locals < s.heap.objs.size := let ⟨_, hn, _⟩ := I.loc; hn.lt
theorem Inv.sz (I : Inv X pins σ H s) : X.s₀.heap.objs.size ≤ s.heap.objs.size := Nat.le_trans I.ok.above (Nat.le_of_lt I.lt)
theorem Inv.nofs (I : Inv X pins σ H s) {a : Addr} (h : s.heap.objs.size ≤ a) : a ∉ X.fs := fun hb => by
  obtain ⟨_, o, ho, _⟩ := I.ok.funs.mem hb
  exact absurd (Nat.lt_of_lt_of_le (Heap.lt_size ho) (Nat.le_trans I.sz h)) (Nat.lt_irrefl _)
theorem Inv.cne (I : Inv X pins σ H s) : ∀ x c, X.env.cells.lookup x = some c → c ≠ X.env.locals := fun x c e z => by
  obtain ⟨v, o, ho, hd⟩ := I.cell x c e
  obtain ⟨m, ⟨o', es, ep, ho', hd', _⟩, _⟩ := I.loc
  rw [z, ho'] at ho; cases ho; rw [hd'] at hd; cases hd
theorem Inv.funs (I : Inv X pins σ H s) : s.heap.FunFrames X.base X.outer := by
  have all : ∀ (l : List Env), (∀ b ∈ frs l, b ∈ X.fs) → X.s₀.heap.FunFrames X.base l → s.heap.FunFrames X.base l := by
    intro l
    induction l with
    | nil => intro _ _; trivial
    | cons env r ih =>
      intro hs hl
      obtain ⟨hk, ⟨L, o, hf, hn, ho, hd⟩, hr⟩ := hl
      have hL : L ∈ X.fs := hs L (by unfold frs; rw [List.filterMap_cons, hf]; exact List.mem_cons_self)
      obtain ⟨sl, e⟩ := I.base.slot L o ho (I.ok.frf L hL) hL fun z => I.ok.exfs L z hL
      exact ⟨hk, ⟨L, _, hf, hn, e, hd⟩, ih (fun b hb => hs b (by unfold frs; rw [List.filterMap_cons, hf]; exact List.mem_cons_of_mem _ hb)) hr⟩
  exact all X.outer (fun _ hb => hb) I.ok.funs
theorem Inv.stack (I : Inv X pins σ H s) : s.heap.FunFrames X.base X.stack := by
  rcases I.ok.stk with e | ⟨e, hf⟩
  · rw [e]; exact I.funs
  · rw [e]
    obtain ⟨m, hn, _⟩ := I.loc
    refine .cons (by rw [I.ok.kind]; decide) hf hn ?_ I.funs
    exact Heap.get?_none_of_le (Nat.le_trans I.ok.bsz I.ok.above)
theorem Inv.stkSub (I : Inv X pins σ H s) : ∀ b ∈ frs X.stack, b ∈ X.env.locals :: X.fs := fun b hb => by
  rcases I.ok.stk with e | ⟨e, hf⟩
  · rw [e] at hb; exact List.mem_cons_of_mem _ hb
  · rw [e] at hb
    unfold frs at hb
    rw [List.filterMap_cons, hf] at hb
    exact hb
theorem Inv.stkFree (I : Inv X pins σ H s) : ∀ b ∈ frs X.stack, H b = none := fun b hb => by
  rcases List.mem_cons.mp (I.stkSub b hb) with e | hb
  · rw [e]; exact I.free
  · obtain ⟨_, o, ho, _⟩ := I.ok.funs.mem hb
    exact I.base.free b o ho (I.ok.frf b hb) fun z => I.ok.exfs b z hb
theorem Inv.step {g' : Array GenState} {t' : Nat} {d' : Drawn} {ch : List Addr} (I : Inv X pins σ H s)
    (hch : ∀ b ∈ ch, (b ∈ X.ex ∨ X.s₀.heap.objs.size ≤ b) ∧ b ≠ X.env.locals ∧ (∀ x c, X.env.cells.lookup x = some c → c ≠ b) ∧ ∀ p ∈ X.pn ++ pins, p.1 ≠ b)
    (keep : ∀ b o, b ≠ X.env.locals → b ∉ X.fs → b ∉ ch → s.heap.get? b = some o → H b = none → h'.get? b = some o)
    (slot : ∀ b o, b ≠ X.env.locals → b ∈ X.fs → b ∉ ch → s.heap.get? b = some o → H b = none → ∃ sl, h'.get? b = some { o with slots := sl }) (free : ∀ b o, b ∉ ch → s.heap.get? b = some o → H b = none → H' b = none)
    (there : ∀ b o, b ∉ ch → s.heap.get? b = some o → ∃ o', h'.get? b = some o')
    (tups : ∀ b xs, H b = some (.tup xs) → H' b = some (.tup xs)) (frzs : ∀ b o u, H b = some (.frz o u) → H' b = some (.frz o u)) (tbls : ∀ b ps, H b = some (.tbl ps) → ∃ more, H' b = some (.tbl (ps ++ more)))
    (ns : ∀ m, s.heap.Ns X.env.locals m → h'.Ns X.env.locals m) (hok : HOk X.prog X.w H' h') (hg : AllBare g') :
    Inv X pins σ H' { s with heap := h', gens := g', drawn := d', toks := t' } := by
  have neL : ∀ b o, X.s₀.heap.get? b = some o → b ≠ X.env.locals := fun b o e => Nat.ne_of_lt (Nat.lt_of_lt_of_le (Heap.lt_size e) I.ok.above)
  have neC : ∀ b o, X.s₀.heap.get? b = some o → b ∉ X.ex → b ∉ ch := fun b o e hx hb => by
    rcases (hch b hb).1 with z | z
    · exact hx z
    · exact absurd (Nat.lt_of_lt_of_le (Heap.lt_size e) z) (Nat.lt_irrefl _)
  have cellK : ∀ x c, X.env.cells.lookup x = some c → ∀ v, s.heap.IsCell c v → h'.IsCell c v := fun x c e v ⟨o, ho, hd⟩ => by
    have nch : c ∉ ch := fun z => (hch c z).2.2.1 x c e rfl
    by_cases hc : c ∈ X.fs
    · obtain ⟨sl, q⟩ := slot c o (I.cne x c e) hc nch ho (I.freeC x c e)
      exact ⟨_, q, hd⟩
    · exact ⟨o, keep c o (I.cne x c e) hc nch ho (I.freeC x c e), hd⟩
  refine ⟨I.ok, I.os, hg, ⟨fun b o e n hb hx => ?_, fun b o e n hb hx => ?_, fun b o e n hx => ?_, fun b o e hx => ?_, fun b xs e => tups b xs (I.base.tups b xs e), fun b o xs e => frzs b o xs (I.base.frzs b o xs e), fun b ps e => ?_⟩, ?_, fun x c e => ?_, ?_, fun x c e => ?_, fun p hp => ?_, hok, I.len⟩
  · exact keep b o (neL b o e) hb (neC b o e hx) (I.base.keep b o e n hb hx) (I.base.free b o e n hx)
  · obtain ⟨sl, e1⟩ := I.base.slot b o e n hb hx
    obtain ⟨sl', e2⟩ := slot b _ (neL b o e) hb (neC b o e hx) e1 (I.base.free b o e n hx)
    exact ⟨sl', e2⟩
  · obtain ⟨o', e1⟩ := I.base.there b o e hx
    exact free b o' (neC b o e hx) e1 (I.base.free b o e n hx)
  · obtain ⟨o', e1⟩ := I.base.there b o e hx
    exact there b o' (neC b o e hx) e1
  · obtain ⟨m1, e1⟩ := I.base.tbls b ps e
    obtain ⟨m2, e2⟩ := tbls b _ e1
    exact ⟨m1 ++ m2, by rw [e2, Array.append_assoc]⟩
  · obtain ⟨m, hn, hl⟩ := I.loc
    refine ⟨m, ns m hn, fun i x v e1 e2 e3 => ?_⟩
    obtain ⟨u, r, l⟩ := hl i x v e1 e2 e3
    refine ⟨u, r, ?_⟩
    rcases l with l | ⟨k, c, e, z⟩
    · exact .inl l
    · exact .inr ⟨k, c, e, cellK x c e _ z⟩
  · obtain ⟨v, z⟩ := I.cell x c e
    exact ⟨v, cellK x c e v z⟩
  · obtain ⟨m, ⟨o, _, _, ho, _⟩, _⟩ := I.loc
    exact free _ o (fun z => (hch _ z).2.1 rfl) ho I.free
  · obtain ⟨v, o, ho, hd⟩ := I.cell x c e
    exact free c o (fun z => (hch c z).2.2.1 x c e rfl) ho (I.freeC x c e)
  · obtain ⟨e, n, ne, nf, d⟩ := I.pin p hp
    have nch : p.1 ∉ ch := fun z => (hch p.1 z).2.2.2 p hp rfl
    exact ⟨keep p.1 p.2 ne nf nch e n, free p.1 p.2 nch e n, ne, nf, d⟩
theorem Inv.un {t' : Nat} (I : Inv X pins σ H s) (u : Un X.fs [] H H' s.heap h') (hok : HOk X.prog X.w H' h') : Inv X pins σ H' { s with heap := h', toks := t' } := by
  obtain ⟨m, ⟨o, es, ep, ho, r⟩, _⟩ := id I.loc
  obtain ⟨sl, hL⟩ := u.any ho I.free (by simp)
  exact I.step (g' := s.gens) (d' := s.drawn) (ch := []) (fun _ z => nomatch z) (fun b o _ hb _ e n => u.keep b o e n hb (by simp)) (fun b o _ hb _ e n => u.slot b o e n hb (by simp)) (fun b o _ e n => u.free b o e n (by simp)) (fun b o _ e => u.there b o e (by simp)) u.tups u.frzs u.tbls (fun m' hm => by
    obtain ⟨o', es', ep', ho', r'⟩ := hm
    rw [ho] at ho'; cases ho'
    exact ⟨_, es', ep', hL, r'⟩) hok I.bare
theorem Inv.call {g' : Array GenState} {t' : Nat} {d' : Drawn} {ch : List Addr} (I : Inv X pins σ H s) (u : Un (frs X.stack) ch H H' s.heap h') (hok : HOk X.prog X.w H' h') (hg : AllBare g')
    (hch : ∀ b ∈ ch, (b ∈ X.ex ∨ X.s₀.heap.objs.size ≤ b) ∧ b ≠ X.env.locals ∧ (∀ x c, X.env.cells.lookup x = some c → c ≠ b) ∧ ∀ p ∈ X.pn ++ pins, p.1 ≠ b) :
    Inv X pins σ H' { s with heap := h', gens := g', drawn := d', toks := t' } := by
  obtain ⟨m, ⟨o, es, ep, ho, r⟩, _⟩ := id I.loc
  obtain ⟨sl, hL⟩ := u.any ho I.free fun z => (hch _ z).2.1 rfl
  exact I.step (ch := ch) hch (fun b o hL hb hc e n => u.keep b o e n (fun z => (List.mem_cons.mp (I.stkSub b z)).elim hL hb) hc) (fun b o _ _ hc e n => u.any e n hc) (fun b o hc e n => u.free b o e n hc) (fun b o hc e => u.there b o e hc) u.tups u.frzs u.tbls (fun m' hm => by
    obtain ⟨o', es', ep', ho', r'⟩ := hm
    rw [ho] at ho'; cases ho'
    exact ⟨_, es', ep', hL, r'⟩) hok hg
theorem Inv.turned {t' : Nat} {it : Addr} (I : Inv X pins σ H s) (k : ∀ b o, b ≠ it → s.heap.get? b = some o → h'.get? b = some o) (hn : H it = none) (hL : it ≠ X.env.locals)
    (h1 : it ∈ X.ex ∨ X.s₀.heap.objs.size ≤ it) (h2 : ∀ x c, X.env.cells.lookup x = some c → c ≠ it) (h3 : ∀ p ∈ X.pn ++ pins, p.1 ≠ it) : Inv X pins σ H { s with heap := h', toks := t' } := by
  have nit : ∀ b u, H b = some u → b ≠ it := fun b u e z => by rw [z, hn] at e; cases e
  refine I.step (g' := s.gens) (d' := s.drawn) (ch := [it]) (fun b hb => ?_) (fun b o _ _ hc e _ => k b o (fun z => hc (by simp [z])) e) (fun b o _ _ hc e _ => ⟨o.slots, k b o (fun z => hc (by simp [z])) e⟩) (fun _ _ _ _ n => n)
    (fun b o hc e => ⟨o, k b o (fun z => hc (by simp [z])) e⟩) (fun _ _ e => e) (fun _ _ _ e => e) (fun b ps e => ⟨#[], by rw [e]; simp⟩) (fun m hm => ?_) (fun b u e => ?_) I.bare
  · have e : b = it := by simpa using hb
    subst e
    exact ⟨h1, hL, h2, h3⟩
  · obtain ⟨o, es, ep, ho, r⟩ := hm
    exact ⟨o, es, ep, k _ o (Ne.symm hL) ho, r⟩
  · refine (I.hok b u e).stay (fun c v hc q => k c v ?_ q) (fun _ q => q) fun _ _ q => q
    rcases hc with z | z
    · rw [z]; exact nit b u e
    · exact nit c _ z
theorem Inv.tok (I : Inv X pins σ H s) (t : Nat) : Inv X pins σ H { s with toks := t } := I.un (h' := s.heap) (t' := t) Un.refl I.hok
theorem Inv.kept {t' : Nat} (I : Inv X pins σ H s) (k : ∀ b u, s.heap.get? b = some u → h'.get? b = some u) : Inv X pins σ H { s with heap := h', toks := t' } := I.un (Un.kept k) (I.hok.kept k)
theorem Inv.laid {a : Addr} {o : HO} {t' : Nat} (I : Inv X pins σ H s) (k : ∀ b u, s.heap.get? b = some u → h'.get? b = some u) (hp : s.heap.objs.size ≤ a) (new : ObjOk X.prog X.w (upd H a o) h' a o) :
    Inv X pins σ (upd H a o) { s with heap := h', toks := t' } := I.un (Un.laid k hp (I.hok.fresh hp)) (I.hok.laid k hp new)
theorem Inv.write {x e : Addr} {o : HO} {t' : Nat} (I : Inv X pins σ H s) (mu : Mut (H x)) (he : e = x ∨ H e = some (.own x)) (k : ∀ b u, b ≠ e → s.heap.get? b = some u → h'.get? b = some u) (heo : ∃ u, h'.get? e = some u)
    (new : ObjOk X.prog X.w (upd H x o) h' x o) : Inv X pins σ (upd H x o) { s with heap := h', toks := t' } := I.un (Un.write mu he k heo) (I.hok.write mu he k heo new)
theorem Inv.pins_of {pins' : List (Addr × Obj)} (I : Inv X pins σ H s) (h : ∀ p ∈ pins', s.heap.get? p.1 = some p.2 ∧ H p.1 = none ∧ p.1 ≠ X.env.locals ∧ p.1 ∉ X.fs ∧ ∀ v, p.2.data ≠ .cell v) : Inv X pins' σ H s :=
  ⟨I.ok, I.os, I.bare, I.base, I.loc, I.cell, I.free, I.freeC, fun p hp => (List.mem_append.mp hp).elim (fun z => I.pin p (List.mem_append_left _ z)) (h p), I.hok, I.len⟩
theorem nodup_ix {N : List Str} (hN : N.Nodup) {i j : Nat} {x : Str} (a : N[i]? = some x) (b : N[j]? = some x) : i = j := by
  obtain ⟨h1, e1⟩ := List.getElem?_eq_some_iff.mp a
  obtain ⟨h2, e2⟩ := List.getElem?_eq_some_iff.mp b
  exact (List.getElem_inj hN).mp (e1.trans e2.symm)
theorem store_ok2 {M : Model} {A : Around} {E : Value → Shared → Prop} {i : Nat} {x : Str} {v : V} {u : Value} {Q : Unit → Shared → Prop} (I : Inv X pins σ H s) (hN : X.N.Nodup) (hi : X.N[i]? = some x) (hx : Loc X.env.scope x) (r : RelV v u)
    (h : ∀ s', Inv X pins (σ.set i (some v)) H s' → (∃ a, Heap.SameBut a s.heap s'.heap ∧ (a = X.env.locals ∨ X.env.cells.lookup x = some a)) → Q () s') (hf : X.fn x = true ∨ X.env.scope.names.lookup x = some .local := by first | exact .inl rfl | exact .inr rfl | assumption) : wpAny M A (storeName X.env x u) Q E s := by
  obtain ⟨m, hn, hl⟩ := id I.loc
  have hcls : (X.env.scope.kind == .class || (X.env.scope.kind == .module && X.env.locals != X.env.globals)) = false := by rw [I.ok.kind]; rfl
  have hiσ : i < σ.length := by rw [I.len]; exact (List.getElem?_eq_some_iff.mp hi).1
  have cne := I.cne
  have tracked : ∀ {a : Addr} {h' : Heap}, (∃ o, s.heap.get? a = some o ∧ H a = none) → Heap.SameBut a s.heap h' → HOk X.prog X.w H h' := fun {a h'} ha hs b ob e => by
    obtain ⟨_, _, hfree⟩ := ha
    refine (I.hok b ob e).stay (fun c w' hc q => (hs.2 c ?_).trans q) (fun _ q => q) fun _ _ q => q
    rintro rfl
    rcases hc with rfl | hc
    · rw [hfree] at e; cases e
    · rw [hfree] at hc; cases hc
  rcases hx with hk | hk
  · refine wpAny_storeName_local hk hn (fun h' hn' hs => ?_) hcls
    obtain ⟨oL, _, _, hoL, _⟩ := id hn
    refine h _ ⟨I.ok, I.os, I.bare, ⟨fun b o e n hb hx => ?_, fun b o e n hb hx => ?_, I.base.free, fun b o e hx => ?_, I.base.tups, I.base.frzs, I.base.tbls⟩, ⟨_, hn', fun j y v' e1 e2 e3 => ?_⟩, fun y c e => ?_, I.free, I.freeC, fun p hp => ?_, tracked ⟨oL, hoL, I.free⟩ hs, by simpa using I.len⟩ ⟨_, hs, .inl rfl⟩
    · exact (hs.2 b (Nat.ne_of_lt (Nat.lt_of_lt_of_le (Heap.lt_size e) I.ok.above))).trans (I.base.keep b o e n hb hx)
    · obtain ⟨sl, e1⟩ := I.base.slot b o e n hb hx
      exact ⟨sl, (hs.2 b (Nat.ne_of_lt (Nat.lt_of_lt_of_le (Heap.lt_size e) I.ok.above))).trans e1⟩
    · obtain ⟨o', e1⟩ := I.base.there b o e hx
      exact ⟨o', (hs.2 b (Nat.ne_of_lt (Nat.lt_of_lt_of_le (Heap.lt_size e) I.ok.above))).trans e1⟩
    · by_cases hj : j = i
      · subst hj
        rw [hi] at e1; cases e1
        rw [List.getElem?_set_self hiσ] at e2
        cases e2
        exact ⟨u, r, .inl ⟨hk, by simp⟩⟩
      · rw [List.getElem?_set_ne (Ne.symm hj)] at e2
        obtain ⟨u', r', q⟩ := hl j y v' e1 e2 e3
        refine ⟨u', r', ?_⟩
        rcases q with ⟨k, e⟩ | ⟨k, c, e, z⟩
        · refine .inl ⟨k, ?_⟩
          have : y ≠ x := fun e => hj (nodup_ix hN e1 (e ▸ hi))
          simp [this, e]
        · exact .inr ⟨k, c, e, z.sameBut hs (cne y c e)⟩
    · obtain ⟨w', z⟩ := I.cell y c e
      exact ⟨w', z.sameBut hs (cne y c e)⟩
    · obtain ⟨e, n, ne, nf, d⟩ := I.pin p hp
      exact ⟨(hs.2 p.1 ne).trans e, n, ne, nf, d⟩
  · have hfn : X.fn x = true := by
      rcases hf with z | z
      · exact z
      · rw [z] at hk; cases hk
    obtain ⟨c, hc⟩ := I.ok.has x (.inl hk)
    obtain ⟨w', z⟩ := I.cell x c hc
    refine wpAny_storeName_cell I.ok.kind hk hc z (fun h' hc' hs => ?_)
    obtain ⟨oc, hoc, hocd⟩ := id z
    refine h { s with heap := h' } ⟨I.ok, I.os, I.bare, ⟨fun b o e n hb hx => ?_, fun b o e n hb hx => ?_, I.base.free, fun b o e hx => ?_, I.base.tups, I.base.frzs, I.base.tbls⟩, ⟨m, hn.sameBut hs (Ne.symm (cne x c hc)), fun j y v' e1 e2 e3 => ?_⟩, fun y c' e => ?_, I.free, I.freeC, fun p hp => ?_, tracked ⟨oc, hoc, I.freeC x c hc⟩ hs, by simpa using I.len⟩ ⟨c, hs, .inr hc⟩
    · exact (hs.2 b (Nat.ne_of_lt (Nat.lt_of_lt_of_le (Heap.lt_size e) (I.ok.cab x c hfn hc)))).trans (I.base.keep b o e n hb hx)
    · obtain ⟨sl, e1⟩ := I.base.slot b o e n hb hx
      exact ⟨sl, (hs.2 b (Nat.ne_of_lt (Nat.lt_of_lt_of_le (Heap.lt_size e) (I.ok.cab x c hfn hc)))).trans e1⟩
    · obtain ⟨o', e1⟩ := I.base.there b o e hx
      exact ⟨o', (hs.2 b (Nat.ne_of_lt (Nat.lt_of_lt_of_le (Heap.lt_size e) (I.ok.cab x c hfn hc)))).trans e1⟩
    · by_cases hj : j = i
      · subst hj
        rw [hi] at e1; cases e1
        rw [List.getElem?_set_self hiσ] at e2
        cases e2
        exact ⟨u, r, .inr ⟨.inl hk, c, hc, hc'⟩⟩
      · rw [List.getElem?_set_ne (Ne.symm hj)] at e2
        obtain ⟨u', r', q⟩ := hl j y v' e1 e2 e3
        refine ⟨u', r', ?_⟩
        rcases q with q | ⟨k, c', e, z'⟩
        · exact .inl q
        · refine .inr ⟨k, c', e, z'.sameBut hs ?_⟩
          rintro rfl
          exact hj (nodup_ix hN e1 (I.ok.inj _ _ _ e hc ▸ hi))
    · by_cases hcc : c' = c
      · subst hcc; exact ⟨_, hc'⟩
      · obtain ⟨w2, z2⟩ := I.cell y c' e
        exact ⟨w2, z2.sameBut hs hcc⟩
    · obtain ⟨e, n, ne, nf, d⟩ := I.pin p hp
      refine ⟨(hs.2 p.1 ?_).trans e, n, ne, nf, d⟩
      intro q
      rw [q, hoc] at e
      have q' : oc = p.2 := Option.some.inj e
      exact d w' (by rw [← q']; exact hocd)
theorem store_ok {M : Model} {A : Around} {E : Value → Shared → Prop} {i : Nat} {x : Str} {v : V} {u : Value} {Q : Unit → Shared → Prop} (I : Inv X pins σ H s) (hN : X.N.Nodup) (hi : X.N[i]? = some x) (hx : Loc X.env.scope x) (r : RelV v u)
    (h : ∀ s', Inv X pins (σ.set i (some v)) H s' → Q () s') (hf : X.fn x = true ∨ X.env.scope.names.lookup x = some .local := by first | exact .inl rfl | exact .inr rfl | assumption) : wpAny M A (storeName X.env x u) Q E s :=
  store_ok2 I hN hi hx r (fun s' I' _ => h s' I') hf
end
noncomputable abbrev XK := Value → Option Addr → Hp → Prop
noncomputable abbrev St := List (Option V)
noncomputable abbrev VK := V → Hp → Prop
noncomputable abbrev TE := St → Hp → VK → Prop
noncomputable abbrev TT := St → Hp → (Bool → Hp → Prop) → Prop
noncomputable abbrev TA := St → Hp → (List V → Hp → Prop) → Prop
structure Ends where
  nx : St → Hp → Prop
  rt : VK
  bk : St → Hp → Prop := fun _ _ => False
  ct : St → Hp → Prop := fun _ _ => False
noncomputable abbrev TS := Ends → St → Hp → Prop
noncomputable def EP (X : Cx) (pins : List (Addr × Obj)) (σ : St) (Q : VK) (u : Value) (s' : Shared) : Prop := ∃ v H', Inv X pins σ H' s' ∧ RelV v u ∧ Q v H'
noncomputable def TP (X : Cx) (pins : List (Addr × Obj)) (σ : St) (Q : Bool → Hp → Prop) (b : Bool) (s' : Shared) : Prop := ∃ H', Inv X pins σ H' s' ∧ Q b H'
noncomputable def AP (X : Cx) (pins : List (Addr × Obj)) (σ : St) (Q : List V → Hp → Prop) (us : List Value) (s' : Shared) : Prop := ∃ vs H', Inv X pins σ H' s' ∧ Vals vs us ∧ Q vs H'
noncomputable def SP (X : Cx) (pins : List (Addr × Obj)) (D : Ends) (f : Flow) (s' : Shared) : Prop :=
  match f with
  | .next => ∃ σ' H', Inv X pins σ' H' s' ∧ D.nx σ' H'
  | .brk => ∃ σ' H', Inv X pins σ' H' s' ∧ D.bk σ' H'
  | .cont => ∃ σ' H', Inv X pins σ' H' s' ∧ D.ct σ' H'
  | .ret u => ∃ v σ' H', Inv X pins σ' H' s' ∧ RelV v u ∧ D.rt v H'
noncomputable def PE (X : Cx) (e : Expr) (t : TE) : Prop :=
  ∀ (pins : List (Addr × Obj)) (s : Shared) (σ : St) (H : Hp) (Q : VK), Inv X pins σ H s → t σ H Q → wpAny (model X.prog X.w) X.A (eval e X.env) (EP X pins σ Q) X.xe s
noncomputable def PT (X : Cx) (e : Expr) (t : TT) : Prop :=
  ∀ (pins : List (Addr × Obj)) (s : Shared) (σ : St) (H : Hp) (Q : Bool → Hp → Prop), Inv X pins σ H s → t σ H Q → wpAny (model X.prog X.w) X.A (isTrue e X.env (eval e X.env)) (TP X pins σ Q) X.xe s
noncomputable def PW (X : Cx) (e : Expr) (t : TT) : Prop :=
  ∀ (whole : Sem Value) (pins : List (Addr × Obj)) (s : Shared) (σ : St) (H : Hp) (Q : Bool → Hp → Prop), Inv X pins σ H s → t σ H Q → wpAny (model X.prog X.w) X.A (isTrue e X.env whole) (TP X pins σ Q) X.xe s
theorem PW.pt {X : Cx} {e : Expr} {t : TT} (h : PW X e t) : PT X e t := h _
noncomputable def PA (X : Cx) (es : List Expr) (t : TA) : Prop :=
  ∀ (pos : Pos) (pins : List (Addr × Obj)) (s : Shared) (σ : St) (H : Hp) (Q : List V → Hp → Prop), Inv X pins σ H s → t σ H Q → wpAny (model X.prog X.w) X.A (spliced (backTo pos (starEach es X.env))) (AP X pins σ Q) X.xe s
noncomputable def PS (X : Cx) (st : Stmt) (t : TS) : Prop :=
  ∀ (pins : List (Addr × Obj)) (s : Shared) (σ : St) (H : Hp) (D : Ends), Inv X pins σ H s → t D σ H → wpAny (model X.prog X.w) X.A (exec st X.env) (SP X pins D) X.xe s
noncomputable def PSs (X : Cx) (st : List Stmt) (t : TS) : Prop :=
  ∀ (pins : List (Addr × Obj)) (s : Shared) (σ : St) (H : Hp) (D : Ends), Inv X pins σ H s → t D σ H → wpAny (model X.prog X.w) X.A (execs st X.env) (SP X pins D) X.xe s
theorem thn {α : Type} {t : Sem α} {Q Q' : α → Shared → Prop} {M : Model} {A : Around} {E : Value → Shared → Prop} {s : Shared} (h : wpAny M A t Q E s) (hQ : ∀ a s, Q a s → Q' a s) : wpAny M A t Q' E s := wpAny_mono h hQ fun _ _ x => x
end L2
namespace L2
open PySem PySem.Spec PyProof.Rows
section
variable {X : Cx}
theorem bin {a b : Expr} {ta tb : TE} (ha : PE X a ta) (hb : PE X b tb) {pins : List (Addr × Obj)} {s : Shared} {σ : St} {H : Hp} {R : V → V → Hp → Prop} (I : Inv X pins σ H s) (h : ta σ H fun x H1 => tb σ H1 fun y H2 => R x y H2)
    {α : Type} {Q : α → Shared → Prop} {f : Value → Value → Sem α}
    (hf : ∀ v u s2 x y H2, Inv X pins σ H2 s2 → RelV x v → RelV y u → R x y H2 → wpAny (model X.prog X.w) X.A (f v u) Q X.xe s2) :
    wpAny (model X.prog X.w) X.A (eval a X.env) (fun v s₁ => wpAny (model X.prog X.w) X.A (eval b X.env) (fun u s₂ => wpAny (model X.prog X.w) X.A (f v u) Q X.xe s₂) X.xe s₁) X.xe s := by
  refine thn (ha pins s σ H _ I h) fun v s1 ⟨x, H1, I1, r1, q1⟩ => ?_
  refine thn (hb pins s1 σ H1 _ I1 q1) fun u s2 ⟨y, H2, I2, r2, q2⟩ => ?_
  exact hf v u s2 x y H2 I2 r1 r2 q2
noncomputable def tVar (i : Nat) : TE := fun σ H Q => ∃ v, σ[i]? = some (some v) ∧ Q v H
noncomputable def tC (v : V) : TE := fun _ H Q => Q v H
theorem pe_var {i : Nat} {x : Str} {pos : Pos} (hN : X.N[i]? = some x) (hv : Vis X.env.scope x) (hd : (x == ("__debug__" : Str)) = false := by decide) (hcd : (x == ("__classdict__" : Str)) = false := by decide) : PE X (.Name x pos) (tVar i) := by
  intro pins s σ H Q I h
  obtain ⟨v, e, h⟩ := h
  obtain ⟨m, hn, hl⟩ := I.loc
  obtain ⟨u, r, l⟩ := hl i x v hN e hv
  have fin : EP X pins σ Q u s := ⟨v, H, I, r, h⟩
  rcases l with ⟨hk, hm⟩ | ⟨hk, c, hc, hcell⟩
  · exact wpAny_Name (wpAny_loadName_local I.ok.kind hk hn hm fin) hd
  · rcases hk with hk | hk
    · exact wpAny_Name (wpAny_loadName_cell I.ok.kind hk hc hcell fin) hd
    · exact wpAny_Name (wpAny_loadName_free I.ok.kind hk hc hcell fin hcd) hd
theorem pe_int {i j pos} : PE X (.Constant (.int i) j pos) (tC (.int i)) := fun _ _ _ H _ I h => wpAny_Constant_int ⟨.int i, H, I.tok _, ⟨_, rfl⟩, h⟩
theorem pe_bl {b j pos} : PE X (.Constant (.bool b) j pos) (tC (.bl b)) := fun _ _ _ H _ I h => Constant_bool ⟨.bl b, H, I, rfl, h⟩
theorem pe_non {j pos} : PE X (.Constant .none j pos) (tC .non) := fun _ _ _ H _ I h => Constant_none ⟨.non, H, I, rfl, h⟩
theorem pe_str {x j pos} : PE X (.Constant (.str x) j pos) (tC (.str x)) := fun _ _ _ H _ I h => Calls.Constant_str ⟨.str x, H, I.tok _, ⟨_, rfl⟩, h⟩
noncomputable def Gl (X : Cx) (x : Str) : Prop := X.env.kindOf x = some .globalImplicit
theorem ld_glob {E : Value → Shared → Prop} {pins : List (Addr × Obj)} {s : Shared} {σ : St} {H : Hp} {x : Str} {u : Value} {pos : Pos} {Q : Value → Shared → Prop} (I : Inv X pins σ H s) (hg : Gl X x) (hm : X.mg x = some u) (h : Q u s)
    (hd : (x == ("__debug__" : Str)) = false := by decide) : wpAny (model X.prog X.w) X.A (eval (.Name x pos) X.env) Q E s :=
  Calls.Name_function_global I.ok.kind hg (Calls.loadGlobal_global (by rw [I.ok.glob]; exact I.mod.glob.keeps I.bk) hm h) hd
theorem ld_blt {E : Value → Shared → Prop} {pins : List (Addr × Obj)} {s : Shared} {σ : St} {H : Hp} {x : Str} {u : Value} {pos : Pos} {Q : Value → Shared → Prop} (I : Inv X pins σ H s) (hg : Gl X x) (hm : X.mg x = none) (hv : bootBuiltins x = some u) (h : Q u s)
    (hn : x ≠ "__name__" := by decide) (hd : (x == ("__debug__" : Str)) = false := by decide) : wpAny (model X.prog X.w) X.A (eval (.Name x pos) X.env) Q E s := by
  obtain ⟨mb, h1, h2⟩ := I.mod.blt
  exact Calls.Name_function_global I.ok.kind hg (Calls.loadGlobal_builtin (by rw [I.ok.glob]; exact I.mod.glob.keeps I.bk) hm (by rw [I.ok.blt]; exact h1.keeps I.bk) ((h2 x hn).trans hv) h) hd
theorem pe_glob {x : Str} {v : V} {u : Value} {pos : Pos} (hg : Gl X x) (hm : X.mg x = some u) (r : RelV v u) (hd : (x == ("__debug__" : Str)) = false := by decide) : PE X (.Name x pos) (tC v) :=
  fun _ _ _ H _ I h => ld_glob I hg hm ⟨v, H, I, r, h⟩ hd
theorem pe_bltn {x : Str} {v : V} {u : Value} {pos : Pos} (hg : Gl X x) (hm : X.mg x = none) (hv : bootBuiltins x = some u) (r : RelV v u) (hn : x ≠ "__name__" := by decide) (hd : (x == ("__debug__" : Str)) = false := by decide) : PE X (.Name x pos) (tC v) :=
  fun _ _ _ H _ I h => ld_blt I hg hm hv ⟨v, H, I, r, h⟩ hn hd
variable {a b : Expr} {ta tb : TE} {pos : Pos}
noncomputable def PC (X : Cx) (op : CmpOp) (a b : Expr) (t : TE) : Prop :=
  ∀ (pins : List (Addr × Obj)) (s : Shared) (σ : St) (H : Hp) (Q : VK), Inv X pins σ H s → t σ H Q →
    wpAny (model X.prog X.w) X.A (eval a X.env) (fun v s₁ => wpAny (model X.prog X.w) X.A (eval b X.env) (fun u s₂ => wpAny (model X.prog X.w) X.A (compareOp op v u) (EP X pins σ Q) X.xe s₂) X.xe s₁) X.xe s
theorem nobehind (b : Expr) {op : CmpOp} (h : op ≠ .In) (h2 : op ≠ .NotIn) : behindInMarks op b = false := by
  have e1 : (op == CmpOp.In) = false := by cases op <;> first | rfl | exact absurd rfl h
  have e2 : (op == CmpOp.NotIn) = false := by cases op <;> first | rfl | exact absurd rfl h2
  cases b <;> simp [behindInMarks, e1, e2]
noncomputable def tIsN (ta : TE) : TE := fun σ H Q => ta σ H fun x H1 => Q (.bl (decide (x = .non))) H1
theorem RelV.none_iff {x : V} {v : Value} (r : RelV x v) : (v == Value.none) = decide (x = .non) := by
  cases x with
  | non => cases r; rfl
  | bl _ => cases r; rfl
  | int _ => obtain ⟨t, rfl⟩ := r; rfl
  | str _ => obtain ⟨t, rfl⟩ := r; rfl
  | byt _ => obtain ⟨t, rfl⟩ := r; rfl
  | flt _ => obtain ⟨t, rfl⟩ := r; rfl
  | ref _ => cases r; rfl
  | ty _ => cases r; rfl
theorem pc_isN {j pos'} (ha : PE X a ta) : PC X .Is a (.Constant .none j pos') (tIsN ta) := by
  intro pins s σ H Q I h
  refine thn (ha pins s σ H _ I h) fun v s1 ⟨x, H1, I1, r1, q1⟩ => ?_
  exact Constant_none (is_none_gen ⟨.bl _, H1, I1, by rw [r1.none_iff]; rfl, q1⟩)
noncomputable def tB (t : TE) : TT := fun σ H Q => t σ H fun x H1 => ∃ c, x = .bl c ∧ Q c H1
theorem pt_cmp {op : CmpOp} {t : TE} (h : PC X op a b t) (h1 : behindInMarks op b = false := by first | exact nobehind _ (by decide) (by decide) | rfl) : PT X (.Compare a [op] [b] pos) (tB t) := by
  intro pins s σ H Q I hw
  refine wpAny_isTrue_Compare1 (thn (h pins s σ H _ I hw) fun v s1 h1 => thn h1 fun u s2 h2 => thn h2 fun c s3 ⟨x, H1, I1, r1, q1⟩ => ?_) h1
  obtain ⟨d, rfl, q⟩ := q1
  cases r1
  exact wpAny_truthy_bool ⟨H1, I1, q⟩
theorem pt_val {e : Expr} {t : TE} (h : PE X e t) (he : ∀ whole, isTrue e X.env whole = (do let v ← whole; standAt e.pos; holding [v] (truthy v)) := by intro _; rfl) : PT X e (tB t) := by
  intro pins s σ H Q I hw
  refine isTrue_plain (thn (h pins s σ H _ I hw) fun v s1 ⟨x, H1, I1, r1, q1⟩ => ?_) (he _)
  obtain ⟨d, rfl, q⟩ := q1
  cases r1
  exact wpAny_truthy_bool ⟨H1, I1, q⟩
variable {tA tB' : TT} {rest : List Expr}
noncomputable def tOr (t u : TT) : TT := fun σ H Q => t σ H fun c H1 => if c = true then Q true H1 else u σ H1 Q
noncomputable def tNot (t : TT) : TT := fun σ H Q => t σ H fun c H1 => Q (!c) H1
theorem pw_or1 (ha : PT X a tA) : PW X (.BoolOp .Or [a] pos) tA := by
  intro wh pins s σ H Q I h
  refine isTrue_or (thn (ha pins s σ H Q I h) fun c s1 e => ?_)
  cases c with
  | false => exact isTrue_or_nil e
  | true => exact e
theorem pw_or (ha : PT X a tA) (hb : PW X (.BoolOp .Or (b :: rest) pos) tB') : PW X (.BoolOp .Or (a :: b :: rest) pos) (tOr tA tB') := by
  intro wh pins s σ H Q I h
  refine isTrue_or (thn (ha pins s σ H _ I h) fun c s1 ⟨H1, I1, q1⟩ => ?_)
  cases c with
  | true => exact ⟨H1, I1, q1⟩
  | false => exact hb wh pins s1 σ H1 Q I1 q1
theorem pt_not (ha : PT X a tA) : PT X (.UnaryOp .Not a pos) (tNot tA) := by
  intro pins s σ H Q I h
  exact isTrue_not (ha pins s σ H (fun c H1 => Q (!c) H1) I h)
noncomputable def tAndV (ta tb : TE) : TE := fun σ H Q => ta σ H fun x H1 => ∃ c, x = .bl c ∧ if c = true then tb σ H1 Q else Q (.bl false) H1
noncomputable def tOrV (ta tb : TE) : TE := fun σ H Q => ta σ H fun x H1 => ∃ c, x = .bl c ∧ if c = true then Q (.bl true) H1 else tb σ H1 Q
theorem pe_one {op} {t : TE} (h : PE X a t) : PE X (.BoolOp op [a] pos) t := fun pins s σ H Q I hw => BoolOp_one (h pins s σ H Q I hw)
theorem pe_and (ha : PE X a ta) (hb : PE X (.BoolOp .And (b :: rest) pos) tb) : PE X (.BoolOp .And (a :: b :: rest) pos) (tAndV ta tb) := by
  intro pins s σ H Q I h
  refine BoolOp_and (thn (ha pins s σ H _ I h) fun v s1 ⟨x, H1, I1, r1, q1⟩ => ?_)
  obtain ⟨c, rfl, q1⟩ := q1
  cases r1
  refine wpAny_truthy_bool ?_
  cases c with
  | true => exact hb pins s1 σ H1 Q I1 q1
  | false => exact ⟨.bl false, H1, I1, rfl, q1⟩
theorem pe_or (ha : PE X a ta) (hb : PE X (.BoolOp .Or (b :: rest) pos) tb) : PE X (.BoolOp .Or (a :: b :: rest) pos) (tOrV ta tb) := by
  intro pins s σ H Q I h
  refine BoolOp_or (thn (ha pins s σ H _ I h) fun v s1 ⟨x, H1, I1, r1, q1⟩ => ?_)
  obtain ⟨c, rfl, q1⟩ := q1
  cases r1
  refine wpAny_truthy_bool ?_
  cases c with
  | false => exact hb pins s1 σ H1 Q I1 q1
  | true => exact ⟨.bl true, H1, I1, rfl, q1⟩
end
end L2
namespace L2
open PySem PySem.Spec PyProof.Rows
noncomputable def SqL (K : PySem.W.Frag) (H : Hp) (a : Addr) (xs : List V) : Prop :=
  Rd H a (.lst xs) ∨
    ∃ (o : Obj) (its : Array Value) (n : Nat), K.lookup a = some o ∧ o.cls = .type "list" ∧ o.dict = none ∧ o.data = .seq its n ∧ its.size ≤ sizeLine ∧ Vals xs its.toList
noncomputable def SqT (K : PySem.W.Frag) (H : Hp) (a : Addr) (xs : List V) : Prop :=
  Rd H a (.tup xs) ∨
    ∃ (o : Obj) (its : Array Value) (n : Nat), K.lookup a = some o ∧ o.cls = .type "tuple" ∧ o.data = .seq its n ∧ its.size ≤ sizeLine ∧ Vals xs its.toList
noncomputable def absV : Value → Option V
  | .none => some .non
  | .bool b => some (.bl b)
  | .int i _ => some (.int i)
  | .str x _ => some (.str x)
  | .bytes b _ => some (.byt b)
  | .float b _ => some (.flt b)
  | .ref a => some (.ref a)
  | .type n => some (.ty n)
  | _ => none
theorem RelV.abs {x : V} {u : Value} (r : RelV x u) : absV u = some x := by
  cases x with
  | non => cases r; rfl
  | bl _ => cases r; rfl
  | int _ => obtain ⟨t, rfl⟩ := r; rfl
  | str _ => obtain ⟨t, rfl⟩ := r; rfl
  | byt _ => obtain ⟨t, rfl⟩ := r; rfl
  | flt _ => obtain ⟨t, rfl⟩ := r; rfl
  | ref _ => cases r; rfl
  | ty _ => cases r; rfl
theorem RelV.inj {x y : V} {u : Value} (r : RelV x u) (q : RelV y u) : x = y := Option.some.inj (r.abs.symm.trans q.abs)
theorem Vals.inj : ∀ {xs ys : List V} {us : List Value}, Vals xs us → Vals ys us → xs = ys
  | _, _, _, .nil, .nil => rfl
  | _, _, _, .cons r t, .cons r' t' => by rw [r.inj r', Vals.inj t t']
section
variable {X : Cx} {pins : List (Addr × Obj)} {σ : St} {H : Hp} {s : Shared} {a : Addr} {xs ys : List V}
theorem SqL.of {K : PySem.W.Frag} (h : H a = some (.lst xs)) : SqL K H a xs := .inl (.inl h)
theorem SqT.of {K : PySem.W.Frag} (h : H a = some (.tup xs)) : SqT K H a xs := .inl (.inl h)
theorem Inv.list (I : Inv X pins σ H s) (h : SqL X.K H a xs) : ∃ its : List Value, Vals xs its ∧ PlainL s.heap a its.toArray ∧ xs.length ≤ sizeLine := by
  rcases h with h | ⟨o, its, n, hk, hc, hd, hs, hz, r⟩
  · obtain ⟨z, its, n, r, e⟩ := h.ok I.hok
    exact ⟨its, r, ⟨_, n, e, rfl, rfl, rfl⟩, z⟩
  · refine ⟨its.toList, r, ⟨o, n, I.kIn a o hk, hc, hd, by simpa using hs⟩, ?_⟩
    have e := r.length
    simp only [Array.length_toList] at e
    trivial
theorem Inv.tuple (I : Inv X pins σ H s) (h : SqT X.K H a xs) : ∃ its : List Value, Vals xs its ∧ IsTup s.heap a its.toArray ∧ xs.length ≤ sizeLine := by
  rcases h with h | ⟨o, its, n, hk, hc, hs, hz, r⟩
  · obtain ⟨z, its, r, p⟩ := h.ok I.hok
    exact ⟨its, r, p, z⟩
  · refine ⟨its.toList, r, ⟨o, I.kIn a o hk, hc, n, by simpa using hs⟩, ?_⟩
    have e := r.length
    simp only [Array.length_toList] at e
    trivial
theorem Inv.list_inj (I : Inv X pins σ H s) (h : SqL X.K H a xs) (h' : SqL X.K H a ys) : xs = ys := by
  obtain ⟨its, r, ⟨o, n, e, _, _, d⟩, _⟩ := I.list h
  obtain ⟨its', r', ⟨o', n', e', _, _, d'⟩, _⟩ := I.list h'
  rw [e] at e'; cases e'
  rw [d] at d'
  injection d' with d1 _
  have : its = its' := by simpa using congrArg Array.toList d1
  subst this
  exact r.inj r'
theorem Inv.tuple_inj (I : Inv X pins σ H s) (h : SqT X.K H a xs) (h' : SqT X.K H a ys) : xs = ys := by
  obtain ⟨its, r, ⟨o, e, _, n, d⟩, _⟩ := I.tuple h
  obtain ⟨its', r', ⟨o', e', _, n', d'⟩, _⟩ := I.tuple h'
  rw [e] at e'; cases e'
  rw [d] at d'
  injection d' with d1 _
  have : its = its' := by simpa using congrArg Array.toList d1
  subst this
  exact r.inj r'
end
noncomputable abbrev Cx.wish (X : Cx) (E : Value → Shared → Prop) : Cx := { X with xe := E }
noncomputable abbrev Cx.nox (X : Cx) : Cx := X.wish fun _ _ => False
theorem Cx.Ok.wish {X : Cx} (ok : X.Ok) (E : Value → Shared → Prop) : (X.wish E).Ok :=
  ⟨ok.mod, ok.kind, ok.glob, ok.blt, ok.above, ok.inj, ok.has, ok.cab, ok.hd, ok.frames, ok.stk, ok.exf, ok.bs, ok.bsz, ok.noex, ok.exfs, ok.funs, ok.frf⟩
theorem Cx.Ok.unwish {X : Cx} {E : Value → Shared → Prop} (ok : (X.wish E).Ok) : X.Ok :=
  ⟨ok.mod, ok.kind, ok.glob, ok.blt, ok.above, ok.inj, ok.has, ok.cab, ok.hd, ok.frames, ok.stk, ok.exf, ok.bs, ok.bsz, ok.noex, ok.exfs, ok.funs, ok.frf⟩
section
variable {X : Cx} {pins : List (Addr × Obj)} {σ : St} {H : Hp} {s : Shared} {E : Value → Shared → Prop}
theorem Inv.wish (I : Inv X pins σ H s) (E : Value → Shared → Prop) : Inv (X.wish E) pins σ H s := ⟨I.ok.wish E, I.os, I.bare, I.base, I.loc, I.cell, I.free, I.freeC, I.pin, I.hok, I.len⟩
theorem Inv.unwish (I : Inv (X.wish E) pins σ H s) : Inv X pins σ H s := ⟨I.ok.unwish, I.os, I.bare, I.base, I.loc, I.cell, I.free, I.freeC, I.pin, I.hok, I.len⟩
theorem SP.unwish {D : Ends} {f : Flow} {s' : Shared} (h : SP (X.wish E) pins D f s') : SP X pins D f s' := by
  cases f with
  | next => obtain ⟨σ', H', I, q⟩ := h; exact ⟨σ', H', I.unwish, q⟩
  | brk => obtain ⟨σ', H', I, q⟩ := h; exact ⟨σ', H', I.unwish, q⟩
  | cont => obtain ⟨σ', H', I, q⟩ := h; exact ⟨σ', H', I.unwish, q⟩
  | ret u => obtain ⟨v, σ', H', I, r, q⟩ := h; exact ⟨v, σ', H', I.unwish, r, q⟩
theorem PSs.nox {st : List Stmt} {t : TS} (h : PSs X.nox st t) : PSs X st t := fun pins s σ H D I hw =>
  wpAny_mono (h pins s σ H D (I.wish _) hw) (fun _ _ q => q.unwish) fun _ _ z => False.elim z
end
section
variable {X : Cx} {st : Stmt} {rest : List Stmt} {t u : TS} {e : Expr} {te : TE} {pos : Pos}
noncomputable def tNext : TS := fun D σ H => D.nx σ H
noncomputable def tSeq (t u : TS) : TS := fun D σ H => t { D with nx := u D } σ H
theorem pss_nil : PSs X [] tNext := fun _ _ σ H _ I h => wpAny_execs_nil ⟨σ, H, I, h⟩
theorem pss_cons (h1 : PS X st t) (h2 : PSs X rest u) : PSs X (st :: rest) (tSeq t u) := by
  intro pins s σ H D I h
  refine wpAny_execs_cons (thn (h1 pins s σ H { D with nx := u D } I h) fun f s1 q => ?_)
  cases f with
  | next =>
    obtain ⟨σ', H', I', q⟩ := q
    exact h2 pins s1 σ' H' D I' q
  | ret v => exact q
  | brk => exact q
  | cont => exact q
theorem pss_one (h1 : PS X st t) : PSs X [st] t := by
  intro pins s σ H D I h
  refine wpAny_execs_cons (thn (h1 pins s σ H D I h) fun f s1 q => ?_)
  cases f with
  | next => exact wpAny_execs_nil q
  | ret v => exact q
  | brk => exact q
  | cont => exact q
theorem Inv.quiet {pins : List (Addr × Obj)} {σ : St} {H : Hp} {s : Shared} (I : Inv X pins σ H s) : interactive X.env = false := by simp [interactive, I.ok.kind]
noncomputable def tDrop (te : TE) : TS := fun D σ H => te σ H fun _ H1 => D.nx σ H1
theorem ps_expr (he : PE X e te) (hs : swapsWith e none pos.line X.env = pure false := by rfl) : PS X (.Expr e pos) (tDrop te) := by
  intro pins s σ H D I h
  exact wpAny_Expr_any (thn (he pins s σ H _ I h) fun v s1 ⟨x, H1, I1, r1, q1⟩ => ⟨σ, H1, I1, q1⟩) I.quiet hs
noncomputable def tRet (te : TE) : TS := fun D σ H => te σ H D.rt
theorem ps_ret (he : PE X e te) : PS X (.Return (some e) pos) (tRet te) := by
  intro pins s σ H D I h
  exact wpAny_Return_some (thn (he pins s σ H _ I h) fun v s1 ⟨x, H1, I1, r1, q1⟩ => ⟨x, σ, H1, I1, r1, q1⟩)
noncomputable def tIfS (c : TT) (t u : TS) : TS := fun D σ H => c σ H fun b H1 => if b = true then t D σ H1 else u D σ H1
theorem ps_if {c : Expr} {a b : List Stmt} {tc : TT} (hc : PT X c tc) (ha : PSs X a t) (hb : PSs X b u) : PS X (.If c a b pos) (tIfS tc t u) := by
  intro pins s σ H D I h
  refine wpAny_If (thn (hc pins s σ H _ I h) fun d s1 ⟨H1, I1, q1⟩ => ?_)
  cases d with
  | true => exact ha pins s1 σ H1 D I1 q1
  | false => exact hb pins s1 σ H1 D I1 q1
end
noncomputable abbrev TG := V → St → Hp → (St → Hp → Prop) → Prop
noncomputable abbrev TGs := List V → St → Hp → (St → Hp → Prop) → Prop
noncomputable def PG (X : Cx) (target : Expr) (t : TG) : Prop :=
  ∀ (pins : List (Addr × Obj)) (s : Shared) (σ : St) (H : Hp) (v : V) (u : Value) (Q : St → Hp → Prop), Inv X pins σ H s → RelV v u → t v σ H Q →
    wpAny (model X.prog X.w) X.A (assign target X.env u) (fun _ s' => ∃ σ' H', Inv X pins σ' H' s' ∧ Q σ' H') X.xe s
noncomputable def PGs (X : Cx) (ts : List Expr) (t : TGs) : Prop :=
  ∀ (pins : List (Addr × Obj)) (s : Shared) (σ : St) (H : Hp) (vs : List V) (us : List Value) (Q : St → Hp → Prop), Inv X pins σ H s → Vals vs us → t vs σ H Q →
    wpAny (model X.prog X.w) X.A (assignInOrder ((assignEach ts X.env).map (·.2)) us) (fun _ s' => ∃ σ' H', Inv X pins σ' H' s' ∧ Q σ' H') X.xe s
noncomputable abbrev TSet := V → V → V → Hp → (Hp → Prop) → Prop
noncomputable def PSet (X : Cx) (t : TSet) : Prop :=
  ∀ (pins : List (Addr × Obj)) (s : Shared) (σ : St) (H : Hp) (o i v : V) (ov iv u : Value) (Q : Hp → Prop), Inv X pins σ H s → RelV o ov → RelV i iv → RelV v u → t o i v H Q →
    wpAny (model X.prog X.w) X.A (setItem ov iv u) (fun _ s' => ∃ H', Inv X pins σ H' s' ∧ Q H') X.xe s
section
variable {X : Cx} {pos : Pos}
noncomputable def gName (i : Nat) : TG := fun v σ H Q => Q (σ.set i (some v)) H
theorem pg_name {i : Nat} {x : Str} (hN : X.N.Nodup) (hi : X.N[i]? = some x) (hx : Loc X.env.scope x) (hf : X.fn x = true ∨ X.env.scope.names.lookup x = some .local := by first | exact .inl rfl | exact .inr rfl | assumption) : PG X (.Name x pos) (gName i) := by
  intro pins s σ H v u Q I r h
  exact wpAny_assign_Name (store_ok I hN hi hx r (fun s' I' => ⟨_, H, I', h⟩) hf)
noncomputable def gNil : TGs := fun vs σ H Q => vs = [] ∧ Q σ H
noncomputable def gCons (t : TG) (u : TGs) : TGs := fun vs σ H Q => ∃ v r, vs = v :: r ∧ t v σ H fun σ' H' => u r σ' H' Q
theorem pgs_nil : PGs X [] gNil := by
  intro pins s σ H vs us Q I r h
  obtain ⟨e, h⟩ := h
  subst e
  cases r
  exact assignInOrder_nil ⟨σ, H, I, h⟩
theorem pgs_cons {e : Expr} {es : List Expr} {t : TG} {u : TGs} (h1 : PG X e t) (h2 : PGs X es u)
    (hs : (assignEach (e :: es) X.env).map (·.2) = assign e X.env :: (assignEach es X.env).map (·.2) := by rfl) : PGs X (e :: es) (gCons t u) := by
  intro pins s σ H vs us Q I r h
  obtain ⟨v, vr, e1, h⟩ := h
  subst e1
  cases r with
  | cons r rr =>
    rw [hs]
    refine assignInOrder_cons (thn (h1 pins s σ H _ _ _ I r h) fun _ s1 ⟨σ1, H1, I1, q1⟩ => ?_)
    exact h2 pins s1 σ1 H1 _ _ Q I1 rr q1
noncomputable def gTup (K : PySem.W.Frag) (n : Nat) (t : TGs) : TG := fun v σ H Q => ∃ a xs, v = .ref a ∧ SqT K H a xs ∧ xs.length = n ∧ t xs σ H Q
theorem pg_tup {es : List Expr} {k : Nat} {t : TGs} {n : Nat} (hc : X.calm = true) (h : PGs X es t)
    (hn : (assignEach es X.env).length = n := by rfl) (hst : (assignEach es X.env).findIdx? (·.1) = none := by rfl) : PG X (.Tuple es k pos) (gTup X.K n t) := by
  intro pins s σ H v u Q I r hw
  obtain ⟨a, xs, e1, hq, hl, hw⟩ := hw
  subst e1
  cases r
  obtain ⟨its, rv, ht, hz⟩ := I.tuple hq
  refine assign_Tuple_tuple (I.ok.hd hc) ht (by simp [hn, ← hl, rv.length]) hst fun h' hx => ?_
  have I1 : Inv X pins σ H { s with heap := h' } := I.kept (t' := s.toks) fun b o e => hx b o (Nat.ne_of_lt (Heap.lt_size e)) e
  exact h pins _ σ H xs _ Q I1 (by simpa using rv) hw
noncomputable def gSub (to ti : TE) (t : TSet) : TG := fun v σ H Q => to σ H fun o H1 => ti σ H1 fun i H2 => t o i v H2 fun H3 => Q σ H3
theorem pg_sub {o i : Expr} {to ti : TE} {t : TSet} (ho : PE X o to) (hi : PE X i ti) (hs : PSet X t)
    (ha : ∀ v, assign (.Subscript o i pos) X.env v = (do
      let ov ← holding [v] (eval o X.env)
      let iv ← holding [v, ov] (eval i X.env)
      standAt pos
      holding [v, ov, iv] (setItem ov iv v)
      release [v, ov, iv] []) := by intro _; rfl) : PG X (.Subscript o i pos) (gSub to ti t) := by
  intro pins s σ H v u Q I r h
  rw [ha]
  refine wpAny_bind (wpAny_holding (thn (ho pins s σ H _ I h) fun ov s1 ⟨x, H1, I1, r1, q1⟩ => ?_))
  refine wpAny_bind (wpAny_holding (thn (hi pins s1 σ H1 _ I1 q1) fun iv s2 ⟨y, H2, I2, r2, q2⟩ => ?_))
  refine wpAny_bind (wpAny_standAt (wpAny_bind (wpAny_holding (thn (hs pins s2 σ H2 x y v ov iv u _ I2 r1 r2 r q2) fun _ s3 ⟨H3, I3, q3⟩ => ?_))))
  exact wpAny_release ⟨σ, H3, I3, q3⟩
noncomputable def tAsg (te : TE) (g : TG) : TS := fun D σ H => te σ H fun x H1 => g x σ H1 D.nx
theorem ps_asg {tg e : Expr} {te : TE} {g : TG} (he : PE X e te) (hg : PG X tg g) (hs : swapsWithSole [tg] e pos.line X.env = pure false := by rfl) (hw : swappedStores [tg] e X.env = pure none := by rfl)
    (h1 : (assignEach [tg] X.env).map (·.2) = [assign tg X.env] := by rfl) : PS X (.Assign [tg] e pos) (tAsg te g) := by
  intro pins s σ H D I h
  refine wpAny_Assign_stores (thn (he pins s σ H _ I h) fun v s1 ⟨x, H1, I1, r1, q1⟩ => ?_) hs hw
  rw [h1]
  exact thn (hg pins s1 σ H1 x v _ I1 r1 q1) fun _ s2 q => q
theorem ps_set {i : Nat} {x : Str} {e : Expr} {te : TE} {pos' : Pos} (hN : X.N.Nodup) (hi : X.N[i]? = some x) (hx : Loc X.env.scope x) (he : PE X e te) (hs : swapsWith e (some (.Name x pos')) pos.line X.env = pure false := by rfl) (hf : X.fn x = true ∨ X.env.scope.names.lookup x = some .local := by first | exact .inl rfl | exact .inr rfl | assumption) :
    PS X (.Assign [.Name x pos'] e pos) (tAsg te (gName i)) := by
  intro pins s σ H D I h
  refine wpAny_Assign_Name (thn (he pins s σ H _ I h) fun v s1 ⟨y, H1, I1, r1, q1⟩ => ?_) hs
  exact store_ok I1 hN hi hx r1 (fun s2 I2 => ⟨_, H1, I2, q1⟩) hf
end
section
variable {X : Cx} {pos : Pos}
noncomputable def tWhile (c : TT) (tb : TS) : TS := fun D σ H => ∃ W : Nat → St → Hp → Prop, (∃ m, W m σ H) ∧ ∀ m σ H, W m σ H →
  c σ H fun b H1 => if b = true then ∃ N : St → Hp → Prop, (∀ σ' H', N σ' H' → ∃ m', m' < m ∧ W m' σ' H') ∧ tb { D with nx := N, ct := N, bk := D.nx } σ H1 else D.nx σ H1
theorem ps_while {c : Expr} {body : List Stmt} {tc : TT} {tb : TS} (hp : PassesOwn (model X.prog X.w) X.A X.env X.xe) (hc : PT X c tc) (hb : PSs X body tb) : PS X (.While c body [] pos) (tWhile tc tb) := by
  intro pins s σ H D I h
  obtain ⟨W, ⟨m0, w0⟩, turn⟩ := h
  refine wpAny_While (codeAny_whileLoop (fun n s' => ∃ σ' H', Inv X pins σ' H' s' ∧ W n σ' H') ?_ m0 ⟨σ, H, I, w0⟩)
  rintro n s1 ⟨σ1, H1, I1, w1⟩
  refine wpAny_passesOwn hp (thn (hc pins s1 σ1 H1 _ I1 (turn n σ1 H1 w1)) fun b s2 ⟨H2, I2, q2⟩ => ?_)
  cases b with
  | true =>
    obtain ⟨N, hN, q2⟩ := q2
    rw [if_pos rfl]
    refine wpAny_passesOwn hp (thn (hb pins s2 σ1 H2 _ I2 q2) fun f s3 q3 => ?_)
    cases f with
    | next =>
      obtain ⟨σ3, H3, I3, n3⟩ := q3
      obtain ⟨m', hm, w3⟩ := hN σ3 H3 n3
      exact ⟨m', hm, σ3, H3, I3, w3⟩
    | cont =>
      obtain ⟨σ3, H3, I3, n3⟩ := q3
      obtain ⟨m', hm, w3⟩ := hN σ3 H3 n3
      exact ⟨m', hm, σ3, H3, I3, w3⟩
    | brk => exact q3
    | ret v => exact q3
  | false =>
    rw [if_neg Bool.false_ne_true]
    exact wpAny_execs_nil ⟨σ1, H2, I2, q2⟩
end
structure It where
  go : Nat → Hp → Prop
  yld : Nat → Hp → V → Hp → Prop
  stop : Nat → Hp → Prop
noncomputable def FpOk (X : Cx) (pins : List (Addr × Obj)) (H : Hp) (b : Addr) : Prop :=
  H b = none ∧ b ≠ X.env.locals ∧ b ∉ X.fs ∧ (b ∈ X.ex ∨ X.s₀.heap.objs.size ≤ b) ∧ (∀ x c, X.env.cells.lookup x = some c → c ≠ b) ∧ ∀ p ∈ X.pn ++ pins, p.1 ≠ b
theorem Inv.fpOk {X : Cx} {pins : List (Addr × Obj)} {σ : St} {H H' : Hp} {s : Shared} {b : Addr} (I : Inv X pins σ H s) (hb : s.heap.objs.size ≤ b) (hn : H' b = none) : FpOk X pins H' b := by
  refine ⟨hn, Nat.ne_of_gt (Nat.lt_of_lt_of_le I.lt hb), I.nofs hb, .inr (Nat.le_trans I.sz hb), fun x c e z => ?_, fun p hp z => ?_⟩
  · obtain ⟨v, q⟩ := I.cell x c e
    exact absurd (Nat.lt_of_lt_of_le q.lt (by rw [z]; exact hb)) (Nat.lt_irrefl _)
  · exact absurd (Nat.lt_of_lt_of_le (Heap.lt_size (I.pin p hp).1) (by rw [z]; exact hb)) (Nat.lt_irrefl _)
structure Turn (P : Program) (w : World) (K : PySem.W.Frag) (tg : Expr) (J : It) (fp : List Addr) (it : Addr) (tn : Nat → Heap → Prop) : Prop where
  mem : it ∈ fp
  obj : ∀ i h, tn i h → ∀ b ∈ fp, ∃ o, h.get? b = some o ∧ ∀ v, o.data ≠ .cell v
  keep : ∀ i h h', tn i h → (∀ b ∈ fp, ∀ o, h.get? b = some o → h'.get? b = some o) → tn i h'
  item : ∀ (X : Cx), X.prog = P → X.w = w → X.K = K → X.calm = true → ∀ (i : Nat) (pins : List (Addr × Obj)) (s : Shared) (σ : St) (H : Hp) (E : Value → Shared → Prop), Inv X pins σ H s → (∀ b ∈ fp, FpOk X pins H b) → tn i s.heap → J.go i H →
    wpAny (model P w) X.A (pyNext (.ref it)) (fun r s1 => ∃ u, r = some u ∧
      wpAny (model P w) X.A (letOwnedTupleGo tg (.ref it) u) (fun _ s2 => ∃ x H', Inv X pins σ H' s2 ∧ RelV x u ∧ J.yld i H x H' ∧ tn (i + 1) s2.heap ∧ ∀ b ∈ fp, H' b = none) E s1) E s
  done : ∀ (X : Cx), X.prog = P → X.w = w → X.K = K → X.calm = true → ∀ (i : Nat) (pins : List (Addr × Obj)) (s : Shared) (σ : St) (H : Hp) (E : Value → Shared → Prop), Inv X pins σ H s → (∀ b ∈ fp, FpOk X pins H b) → tn i s.heap → J.stop i H →
    wpAny (model P w) X.A (pyNext (.ref it)) (fun r s1 => r = none ∧ Inv X pins σ H s1) E s
  self : ∀ (A : Around) (i : Nat) (s : Shared) (Q : Value → Shared → Prop) (E : Value → Shared → Prop), tn i s.heap → Q (.ref it) s → wpAny (model P w) A (pyIter (.ref it)) Q E s
noncomputable abbrev TI := St → Hp → (It → Hp → Prop) → Prop
noncomputable def PIE (X : Cx) (pins : List (Addr × Obj)) (σ : St) (tg : Expr) (R : It → Hp → Prop) (itv : Value) (s2 : Shared) : Prop :=
  ∃ (it : Addr) (fp : List Addr) (tn : Nat → Heap → Prop) (J : It) (H' : Hp), itv = .ref it ∧ Inv X pins σ H' s2 ∧ Turn X.prog X.w X.K tg J fp it tn ∧ tn 0 s2.heap ∧ (∀ b ∈ fp, FpOk X pins H' b) ∧ R J H'
noncomputable def PI (X : Cx) (tg iter : Expr) (wi : TI) : Prop :=
  ∀ (pins : List (Addr × Obj)) (s : Shared) (σ : St) (H : Hp) (R : It → Hp → Prop), Inv X pins σ H s → wi σ H R →
    wpAny (model X.prog X.w) X.A (eval iter X.env) (fun v s1 => wpAny (model X.prog X.w) X.A (pyIter v) (PIE X pins σ tg R) X.xe s1) X.xe s
theorem go_of {M : Model} {A : Around} {E : Value → Shared → Prop} {s : Shared} {tg : Expr} {it : Addr} {u : Value} {o : Obj} {n : String} {vs : Array Value} {Q : Unit → Shared → Prop} (ho : s.heap.get? it = some o) (hc : o.cls = .type n) (hd : o.data = .fields vs)
    (hn : ["enumerate", "zip", "dict_itemiterator", "dict_reverseitemiterator", "odict_iterator", "itertools.zip_longest", "itertools.pairwise"].contains n = false) (hQ : Q () s) : wpAny M A (letOwnedTupleGo tg (.ref it) u) Q E s := by
  unfold letOwnedTupleGo
  cases tg <;> first
    | exact wpAny_pure hQ
    | (cases u <;> first
        | exact wpAny_pure hQ
        | (refine wpAny_bind (wpAny_load ho ?_)
           rw [hc, hd]
           show wpAny M A (if (["enumerate", "zip", "dict_itemiterator", "dict_reverseitemiterator", "odict_iterator", "itertools.zip_longest", "itertools.pairwise"].contains n && vs[0]? == some (rawInt _)) = true then _ else _) Q E s
           rw [if_neg (by intro h; rw [hn, Bool.false_and] at h; cases h)]
           exact wpAny_pure hQ))
noncomputable def Itl (K : PySem.W.Frag) (a : Addr) : It :=
  ⟨fun i H => ∃ xs x, SqL K H a xs ∧ xs[i]? = some x, fun i H x H' => H' = H ∧ ∀ xs, SqL K H a xs → xs[i]? = some x, fun i H => ∃ xs, SqL K H a xs ∧ xs.length ≤ i⟩
noncomputable def Itr (lo : Int) (n : Nat) : It := ⟨fun i _ => i < n, fun i H x H' => H' = H ∧ x = .int (lo + i), fun i _ => n ≤ i⟩
theorem turn_list {P : Program} {w : World} {K : PySem.W.Frag} {tg : Expr} (a it : Addr) : Turn P w K tg (Itl K a) [it] it (fun i h => h.IsListIter it a i) where
  mem := by simp
  obj := fun i h st b hb => by
    have e : b = it := by simpa using hb
    subst e
    obtain ⟨o, e, c, d⟩ := st
    exact ⟨o, e, fun v z => by rw [d] at z; cases z⟩
  keep := fun i h h' st k => st.at fun o e => k it (by simp) o e
  item := by
    intro X hP hw hK hc i pins s σ H E I hf st hg
    subst hP hw hK
    obtain ⟨xs, x, hq, hx⟩ := hg
    obtain ⟨its, rv, p, hz⟩ := I.list hq
    obtain ⟨u, hu, ru⟩ := rv.get hx
    obtain ⟨f0, f1, f2, f3, f4, f5⟩ := hf it (by simp)
    refine wpAny_pyNext_list_item st p.isList (x := u) (by simpa using hu) fun h' st' sb => ?_
    have I1 : Inv X pins σ H { s with heap := h' } := I.turned (t' := s.toks) (fun b o hb e => (sb.2 b hb).trans e) f0 f1 f3 f4 f5
    obtain ⟨o, e, c, d⟩ := id st'
    exact ⟨u, rfl, go_of (s := { s with heap := h' }) e c d (by decide) ⟨x, H, I1, ru, ⟨rfl, fun ys hy => by rw [I.list_inj hy hq]; exact hx⟩, st', fun b hb => (hf b hb).1⟩⟩
  done := by
    intro X hP hw hK hc i pins s σ H E I hf st hg
    subst hP hw hK
    obtain ⟨xs, hq, hx⟩ := hg
    obtain ⟨its, rv, p, hz⟩ := I.list hq
    obtain ⟨f0, f1, f2, f3, f4, f5⟩ := hf it (by simp)
    have hl := rv.length
    exact wpAny_pyNext_list_end (I.ok.hd hc) st p.isList (by simp; trivial) fun h' eb => ⟨rfl, I.turned (t' := s.toks) (fun b o hb e => eb b o hb e) f0 f1 f3 f4 f5⟩
  self := fun _ _ _ _ _ st h => wpAny_pyIter_listiter st h
theorem turn_range {P : Program} {w : World} {K : PySem.W.Frag} {tg : Expr} (it : Addr) (lo : Int) (n : Nat) : Turn P w K tg (Itr lo n) [it] it (fun i h => IsRangeIter h it (lo + (i : Nat) * 1) ((n : Int) - (i : Nat)) 1) where
  mem := by simp
  obj := fun i h st b hb => by
    have e : b = it := by simpa using hb
    subst e
    exact ⟨_, st, fun v z => by
      have z' : Data.fields _ = Data.cell v := z
      cases z'⟩
  keep := fun i h h' st k => k it (by simp) _ st
  item := by
    intro X hP hw hK hc i pins s σ H E I hf st hg
    subst hP hw hK
    obtain ⟨f0, f1, f2, f3, f4, f5⟩ := hf it (by simp)
    have W := Walks.range (prog := X.prog) (w := X.w) (I.ok.hd hc) it lo 1 n
    refine W.item i s _ _ hg st fun v h' tk hv st' kk => ?_
    obtain ⟨t, rfl⟩ := hv
    have I1 : Inv X pins σ H { s with heap := h', toks := tk } := I.turned (fun b o hb e => kk b o (by simpa using hb) e) f0 f1 f3 f4 f5
    refine ⟨_, rfl, go_of (s := { s with heap := h', toks := tk }) (n := "range_iterator") st' rfl rfl (by decide) ⟨.int (lo + i), H, I1, ⟨t, ?_⟩, ⟨rfl, rfl⟩, st', fun b hb => (hf b hb).1⟩⟩
    rw [Int.mul_one]
  done := by
    intro X hP hw hK hc i pins s σ H E I hf st hg
    subst hP hw hK
    obtain ⟨f0, f1, f2, f3, f4, f5⟩ := hf it (by simp)
    exact wpAny_pyNext_range_end (I.ok.hd hc) st (by have : n ≤ i := hg; trivial) fun h' eb => ⟨rfl, I.turned (t' := s.toks) (fun b o hb e => eb b o hb e) f0 f1 f3 f4 f5⟩
  self := fun _ _ _ _ _ st h => wpAny_pyIter_rangeiter st h
end L2
namespace L2
open PySem PySem.Spec PyProof.Rows
section
variable {X : Cx} {tg : Expr}
noncomputable def iList (K : PySem.W.Frag) (tl : TE) : TI := fun σ H R => tl σ H fun x H1 => ∃ a, x = .ref a ∧ (∃ xs, SqL K H1 a xs) ∧ R (Itl K a) H1
theorem pi_list {l : Expr} {tl : TE} (hl : PE X l tl) : PI X tg l (iList X.K tl) := by
  intro pins s σ H R I h
  refine thn (hl pins s σ H _ I h) fun v s1 ⟨x, H1, I1, r1, q1⟩ => ?_
  obtain ⟨a, e, ⟨xs, hq⟩, q⟩ := q1
  subst e
  cases r1
  obtain ⟨its, rv, p, hz⟩ := I1.list hq
  refine wpAny_pyIter_list p.isList ?_
  refine ⟨s1.heap.objs.size, [s1.heap.objs.size], _, _, H1, rfl, I1.kept (t' := s1.toks) fun b o e => Heap.get?_push_of_some _ e, turn_list a _, ⟨_, Heap.get?_push_size _ rfl, rfl, rfl⟩, fun b hb => ?_, q⟩
  have e : b = s1.heap.objs.size := by simpa using hb
  subst e
  exact I1.fpOk (Nat.le_refl _) (I1.hok.fresh (Nat.le_refl _))
theorem range_it {pins : List (Addr × Obj)} {σ : St} {H : Hp} {s : Shared} {R : It → Hp → Prop} {E : Value → Shared → Prop} {lo hi : Int} {t u v : Tok} {tk : Nat} (I : Inv X pins σ H s) (h1 : -(2 ^ 62) ≤ lo) (h2 : lo < 2 ^ 62) (h3 : -(2 ^ 62) ≤ hi) (h4 : hi < 2 ^ 62)
    (q : R (Itr lo (hi - lo).toNat) H) : wpAny (model X.prog X.w) X.A (pyIter (.ref s.heap.objs.size)) (PIE X pins σ tg R) E { s with heap := s.heap.push { cls := .type "range", data := .fields #[.int lo t, .int hi u, .int 1 v] }, toks := tk } := by
  refine wpAny_pyIter_range (IsRange.new ..) (small_one h1 h2 h3 h4) ?_
  have I1 : Inv X pins σ H { s with heap := s.heap.push { cls := .type "range", data := .fields #[.int lo t, .int hi u, .int 1 v] }, toks := tk } := I.kept fun b o e => Heap.get?_push_of_some _ e
  refine ⟨(s.heap.push { cls := .type "range", data := .fields #[.int lo t, .int hi u, .int 1 v] }).objs.size, [(s.heap.push { cls := .type "range", data := .fields #[.int lo t, .int hi u, .int 1 v] }).objs.size], _, _, H, rfl,
    I1.kept (t' := tk) fun b o e => Heap.get?_push_of_some _ e, turn_range _ lo (hi - lo).toNat, ?_, fun b hb => ?_, q⟩
  · have e1 : lo + ((0 : Nat) : Int) * 1 = lo := by simp
    have e2 : (((hi - lo).toNat : Nat) : Int) - ((0 : Nat) : Int) = Builtin.Range.rangeSize lo hi 1 := by rw [rangeSize_one]; split <;> trivial
    show IsRangeIter _ _ (lo + ((0 : Nat) : Int) * 1) ((((hi - lo).toNat : Nat) : Int) - ((0 : Nat) : Int)) 1
    rw [e1, e2]
    exact Heap.get?_push_size _ rfl
  · have e : b = (s.heap.push { cls := .type "range", data := .fields #[.int lo t, .int hi u, .int 1 v] }).objs.size := by simpa using hb
    subst e
    exact I1.fpOk (Nat.le_refl _) (I1.hok.fresh (Nat.le_refl _))
noncomputable def iRng1 (ta : TA) : TI := fun σ H R => ta σ H fun vs H1 => ∃ j : Int, vs = [.int j] ∧ -(2 ^ 62) ≤ j ∧ j < 2 ^ 62 ∧ R (Itr 0 j.toNat) H1
noncomputable def iRng2 (ta : TA) : TI := fun σ H R => ta σ H fun vs H1 => ∃ i j : Int, vs = [.int i, .int j] ∧ (-(2 ^ 62) ≤ i ∧ i < 2 ^ 62 ∧ -(2 ^ 62) ≤ j ∧ j < 2 ^ 62) ∧ R (Itr i (j - i).toNat) H1
theorem pi_range1 {a : Expr} {ta : TA} {p pos : Pos} (hg : Gl X "range") (hm : X.mg "range" = none) (ha : PA X [a] ta) (hs : starEach [a] X.env = [(false, eval a X.env)] := by rfl) : PI X tg (.Call (.Name "range" p) [a] [] pos) (iRng1 ta) := by
  intro pins s σ H R I h
  refine Call_ (ld_blt I hg hm boot_range (PyProof.Rows.callWith_type1 (thn (ha pos pins s σ H _ I h) fun us s1 ⟨vs, H1, I1, r1, q1⟩ => ?_) hs rfl))
  obtain ⟨j, e, q1, q2, q⟩ := q1
  subst e
  cases r1 with
  | cons r rr =>
    cases rr
    obtain ⟨t, rfl⟩ := r
    exact call_range_1 (range_it I1 (by trivial) (by trivial) q1 q2 (by simpa using q))
theorem pi_range2 {a b : Expr} {ta : TA} {p pos : Pos} (hg : Gl X "range") (hm : X.mg "range" = none) (ha : PA X [a, b] ta) (hs : starEach [a, b] X.env = [(false, eval a X.env), (false, eval b X.env)] := by rfl) (hs2 : starEach [b] X.env = [(false, eval b X.env)] := by rfl) :
    PI X tg (.Call (.Name "range" p) [a, b] [] pos) (iRng2 ta) := by
  intro pins s σ H R I h
  refine Call_ (ld_blt I hg hm boot_range (PyProof.Rows.callWith_type1 (thn (ha pos pins s σ H _ I h) fun us s1 ⟨vs, H1, I1, r1, q1⟩ => ?_) (by rw [hs, hs2]) (by rw [hs2]; rfl)))
  obtain ⟨i, j, e, ⟨q1, q2, q3, q4⟩, q⟩ := q1
  subst e
  cases r1 with
  | cons r rr =>
    cases rr with
    | cons r' rr =>
      cases rr
      obtain ⟨t, rfl⟩ := r
      obtain ⟨t', rfl⟩ := r'
      exact call_range_2 (range_it I1 q1 q2 q3 q4 q)
noncomputable def tFor (wi : TI) (g : TG) (tb : TS) : TS := fun D σ H => wi σ H fun J H1 => ∃ W : Nat → Nat → St → Hp → Prop, (∃ m, W 0 m σ H1) ∧ ∀ i m σ H, W i m σ H →
  (J.stop i H ∧ D.nx σ H) ∨ (J.go i H ∧ ∃ N : St → Hp → Prop, (∀ σ' H', N σ' H' → ∃ m', m' < m ∧ W (i + 1) m' σ' H') ∧ ∀ x H', J.yld i H x H' → g x σ H' fun σ2 H2 => tb { D with nx := N, ct := N, bk := D.nx } σ2 H2)
noncomputable def pinsAt (fp : List Addr) (h : Heap) : List (Addr × Obj) := fp.filterMap fun b => (h.get? b).map fun o => (b, o)
theorem mem_pinsAt {fp : List Addr} {h : Heap} {b : Addr} {o : Obj} (hb : b ∈ fp) (e : h.get? b = some o) : (b, o) ∈ pinsAt fp h := List.mem_filterMap.mpr ⟨b, hb, by rw [e]; rfl⟩
theorem of_pinsAt {fp : List Addr} {h : Heap} {p : Addr × Obj} (hp : p ∈ pinsAt fp h) : p.1 ∈ fp ∧ h.get? p.1 = some p.2 := by
  obtain ⟨b, hb, e⟩ := List.mem_filterMap.mp hp
  cases q : h.get? b with
  | none => rw [q] at e; cases e
  | some o =>
    rw [q] at e
    have e' : (b, o) = p := Option.some.inj e
    subst e'
    exact ⟨hb, q⟩
theorem Inv.pinned {pins : List (Addr × Obj)} {σ : St} {H : Hp} {s : Shared} {fp : List Addr} (I : Inv X pins σ H s) (hf : ∀ b ∈ fp, FpOk X pins H b) (ho : ∀ b ∈ fp, ∃ o, s.heap.get? b = some o ∧ ∀ v, o.data ≠ .cell v) : Inv X (pins ++ pinsAt fp s.heap) σ H s :=
  I.pins_of fun p hp => (List.mem_append.mp hp).elim (fun z => I.pin p (List.mem_append_right _ z)) fun z => by
    obtain ⟨hb, e⟩ := of_pinsAt z
    obtain ⟨f0, f1, f2, _⟩ := hf p.1 hb
    obtain ⟨o, e', d⟩ := ho p.1 hb
    rw [e] at e'; cases e'
    exact ⟨e, f0, f1, f2, d⟩
theorem Inv.unpinned {pins pl : List (Addr × Obj)} {σ : St} {H : Hp} {s : Shared} (I : Inv X (pins ++ pl) σ H s) : Inv X pins σ H s := I.pins_of fun p hp => I.pin p (List.mem_append_right _ (List.mem_append_left _ hp))
theorem ps_for {iter : Expr} {body : List Stmt} {wi : TI} {g : TG} {tb : TS} {pos : Pos} (hp : PassesOwn (model X.prog X.w) X.A X.env X.xe) (hc : X.calm = true) (hi : PI X tg iter wi) (hg : PG X tg g) (hb : PSs X body tb)
    (hs : ∀ x, foldedSetIterable iter X.env x = pure x := by intro _; rfl) : PS X (.For tg iter body [] pos) (tFor wi g tb) := by
  intro pins s σ H D I h
  refine wpAny_For (thn (hi pins s σ H _ I h) fun v s1 h1 => thn h1 fun itv s2 h2 => ?_) hs
  obtain ⟨it, fp, tn, J, H2, e, I2, T, st2, f2, W, ⟨m0, w0⟩, turn⟩ := h2
  subst e
  -- what stays true of the iterator's objects through the loop
  have stat : ∀ {H' : Hp}, (∀ b ∈ fp, H' b = none) → ∀ b ∈ fp, FpOk X pins H' b := fun hn b hb => ⟨hn b hb, (f2 b hb).2⟩
  refine codeAny_forLoop_any (fun n s' => ∃ i σ' H', Inv X pins σ' H' s' ∧ tn i s'.heap ∧ (∀ b ∈ fp, H' b = none) ∧ W i n σ' H') ?_ m0 ⟨0, σ, H2, I2, st2, fun b hb => (f2 b hb).1, w0⟩
  rintro n s3 ⟨i, σ3, H3, I3, st3, fr3, w3⟩
  rcases turn i n σ3 H3 w3 with ⟨stop, qn⟩ | ⟨go, N, hN, step⟩
  · refine wpAny_passesOwn hp (thn (T.done X rfl rfl rfl hc i pins s3 σ3 H3 X.xe I3 (stat fr3) st3 stop) fun r s4 ⟨hr, I4⟩ => ?_)
    subst hr
    exact wpAny_execs_nil ⟨σ3, H3, I4, qn⟩
  · refine wpAny_passesOwn hp (thn (T.item X rfl rfl rfl hc i pins s3 σ3 H3 X.xe I3 (stat fr3) st3 go) fun r s4 ⟨u, hr, h4⟩ => ?_)
    subst hr
    refine wpAny_passesOwn hp (thn h4 fun _ s5 ⟨x, H5, I5, r5, y5, st5, fr5⟩ => ?_)
    have I5' := I5.pinned (stat fr5) (T.obj _ _ st5)
    refine wpAny_passesOwn hp (thn (hg _ s5 σ3 H5 x u _ I5' r5 (step x H5 y5)) fun _ s6 ⟨σ6, H6, I6, q6⟩ => ?_)
    refine wpAny_passesOwn hp (thn (hb _ s6 σ6 H6 _ I6 q6) fun f s7 q7 => ?_)
    have again : ∀ {σ7 : St} {H7 : Hp}, Inv X (pins ++ pinsAt fp s5.heap) σ7 H7 s7 → N σ7 H7 → ∃ m, m < n ∧ ∃ i σ' H', Inv X pins σ' H' s7 ∧ tn i s7.heap ∧ (∀ b ∈ fp, H' b = none) ∧ W i m σ' H' := fun {σ7 H7} I7 n7 => by
      obtain ⟨m', hm, w7⟩ := hN σ7 H7 n7
      refine ⟨m', hm, i + 1, σ7, H7, I7.unpinned, T.keep _ _ _ st5 fun b hb o e => (I7.pin (b, o) (List.mem_append_right _ (List.mem_append_right _ (mem_pinsAt hb e)))).1, fun b hb => ?_, w7⟩
      obtain ⟨o, e, d⟩ := T.obj _ _ st5 b hb
      exact (I7.pin (b, o) (List.mem_append_right _ (List.mem_append_right _ (mem_pinsAt hb e)))).2.1
    cases f with
    | next => obtain ⟨σ7, H7, I7, n7⟩ := q7; exact again I7 n7
    | cont => obtain ⟨σ7, H7, I7, n7⟩ := q7; exact again I7 n7
    | brk => obtain ⟨σ7, H7, I7, q7⟩ := q7; exact ⟨σ7, H7, I7.unpinned, q7⟩
    | ret v => obtain ⟨x7, σ7, H7, I7, r7, q7⟩ := q7; exact ⟨x7, σ7, H7, I7.unpinned, r7, q7⟩
end
theorem for_list {K : PySem.W.Frag} {a : Addr} {xs : List V} {g : TG} {tb : TS} {D : Ends} {σ : St} {H : Hp} (Pv : Nat → St → Hp → Prop) (h0 : Pv 0 σ H) (hl : ∀ i σ H, i ≤ xs.length → Pv i σ H → SqL K H a xs)
    (hs : ∀ i x σ H, xs[i]? = some x → Pv i σ H → g x σ H fun σ2 H2 => tb { D with nx := Pv (i + 1), ct := Pv (i + 1), bk := D.nx } σ2 H2) (hd : ∀ σ H, Pv xs.length σ H → D.nx σ H) :
    ∃ W : Nat → Nat → St → Hp → Prop, (∃ m, W 0 m σ H) ∧ ∀ i m σ H, W i m σ H →
      ((Itl K a).stop i H ∧ D.nx σ H) ∨ ((Itl K a).go i H ∧ ∃ N : St → Hp → Prop, (∀ σ' H', N σ' H' → ∃ m', m' < m ∧ W (i + 1) m' σ' H') ∧ ∀ x H', (Itl K a).yld i H x H' → g x σ H' fun σ2 H2 => tb { D with nx := N, ct := N, bk := D.nx } σ2 H2) := by
  refine ⟨fun i m σ H => m = xs.length - i ∧ i ≤ xs.length ∧ Pv i σ H, ⟨xs.length, by simp, Nat.zero_le _, h0⟩, ?_⟩
  rintro i m σ H ⟨rfl, hi, p⟩
  have q := hl i σ H hi p
  by_cases hlt : i < xs.length
  · refine .inr ⟨⟨xs, xs[i], q, by simp [hlt]⟩, Pv (i + 1), fun σ' H' p' => ⟨xs.length - (i + 1), by trivial, rfl, hlt, p'⟩, fun x H' y => ?_⟩
    obtain ⟨e, y⟩ := y
    subst e
    exact hs i x σ _ (y xs q) p
  · have e : i = xs.length := by trivial
    subst e
    exact .inl ⟨⟨xs, q, Nat.le_refl _⟩, hd σ H p⟩
theorem for_range {lo : Int} {n : Nat} {g : TG} {tb : TS} {D : Ends} {σ : St} {H : Hp} (Pv : Nat → St → Hp → Prop) (h0 : Pv 0 σ H)
    (hs : ∀ i σ H, i < n → Pv i σ H → g (.int (lo + i)) σ H fun σ2 H2 => tb { D with nx := Pv (i + 1), ct := Pv (i + 1), bk := D.nx } σ2 H2) (hd : ∀ σ H, Pv n σ H → D.nx σ H) :
    ∃ W : Nat → Nat → St → Hp → Prop, (∃ m, W 0 m σ H) ∧ ∀ i m σ H, W i m σ H →
      ((Itr lo n).stop i H ∧ D.nx σ H) ∨ ((Itr lo n).go i H ∧ ∃ N : St → Hp → Prop, (∀ σ' H', N σ' H' → ∃ m', m' < m ∧ W (i + 1) m' σ' H') ∧ ∀ x H', (Itr lo n).yld i H x H' → g x σ H' fun σ2 H2 => tb { D with nx := N, ct := N, bk := D.nx } σ2 H2) := by
  refine ⟨fun i m σ H => m = n - i ∧ i ≤ n ∧ Pv i σ H, ⟨n, by simp, Nat.zero_le _, h0⟩, ?_⟩
  rintro i m σ H ⟨rfl, hi, p⟩
  by_cases hlt : i < n
  · refine .inr ⟨hlt, Pv (i + 1), fun σ' H' p' => ⟨n - (i + 1), by trivial, rfl, hlt, p'⟩, fun x H' y => ?_⟩
    obtain ⟨e, y⟩ := y
    subst e y
    exact hs i σ _ hlt p
  · have e : i = n := by trivial
    subst e
    exact .inl ⟨Nat.le_refl _, hd σ H p⟩
end L2
namespace L2
open PySem PySem.Spec PyProof.Rows
noncomputable abbrev R2 := V → V → Hp → VK → Prop
noncomputable def OpR (X : Cx) (f : Value → Value → Sem Value) (r : R2) : Prop :=
  ∀ (pins : List (Addr × Obj)) (s : Shared) (σ : St) (H : Hp) (x y : V) (v u : Value) (Q : VK), Inv X pins σ H s → RelV x v → RelV y u → r x y H Q →
    wpAny (model X.prog X.w) X.A (f v u) (EP X pins σ Q) X.xe s
noncomputable def UnR (X : Cx) (f : Value → Sem Value) (r : V → Hp → VK → Prop) : Prop :=
  ∀ (pins : List (Addr × Obj)) (s : Shared) (σ : St) (H : Hp) (x : V) (v : Value) (Q : VK), Inv X pins σ H s → RelV x v → r x H Q →
    wpAny (model X.prog X.w) X.A (f v) (EP X pins σ Q) X.xe s
noncomputable def CallR (X : Cx) (f : Value) (r : List V → Hp → VK → Prop) : Prop :=
  ∀ (pins : List (Addr × Obj)) (s : Shared) (σ : St) (H : Hp) (xs : List V) (us : List Value) (Q : VK), Inv X pins σ H s → Vals xs us → r xs H Q →
    wpAny (model X.prog X.w) X.A (call f us) (EP X pins σ Q) X.xe s
noncomputable def tOp (r : R2) (ta tb : TE) : TE := fun σ H Q => ta σ H fun x H1 => tb σ H1 fun y H2 => r x y H2 Q
noncomputable def tUn (r : V → Hp → VK → Prop) (ta : TE) : TE := fun σ H Q => ta σ H fun x H1 => r x H1 Q
noncomputable def rI (C : Int → Int → Prop) (g : Int → Int → V) : R2 := fun x y H Q => ∃ i j, x = .int i ∧ y = .int j ∧ C i j ∧ Q (g i j) H
noncomputable def rI0 (g : Int → Int → V) : R2 := fun x y H Q => ∃ i j, x = .int i ∧ y = .int j ∧ Q (g i j) H
noncomputable def rU (g : Int → V) : V → Hp → VK → Prop := fun x H Q => ∃ i, x = .int i ∧ Q (g i) H
section
variable {X : Cx} {a b c : Expr} {ta tb tc : TE} {pos : Pos}
theorem binT (ha : PE X a ta) (hb : PE X b tb) {pins : List (Addr × Obj)} {s : Shared} {σ : St} {H : Hp} {R : V → V → Hp → Prop} (I : Inv X pins σ H s)
    (h : ta σ H fun x H1 => tb σ H1 fun y H2 => R x y H2) {Q : Value → Shared → Prop} {f : Value → Value → Sem Value}
    (hf : ∀ v u s2 x y H2, Inv X pins σ H2 s2 → RelV x v → RelV y u → R x y H2 → wpAny (model X.prog X.w) X.A (f v u) Q X.xe s2) :
    wpAny (model X.prog X.w) X.A (eval a X.env) (fun v s₁ => wpAny (model X.prog X.w) X.A (eval b X.env) (fun u s₂ => wpAny (model X.prog X.w) X.A (f v u) Q X.xe s₂) X.xe s₁) X.xe s := by
  refine thn (ha pins s σ H _ I h) fun v s1 ⟨x, H1, I1, r1, q1⟩ => ?_
  refine thn (hb pins s1 σ H1 _ I1 q1) fun u s2 ⟨y, H2, I2, r2, q2⟩ => ?_
  exact hf v u s2 x y H2 I2 r1 r2 q2
theorem pe_op {op : Operator} {r : R2} (ho : OpR X (binaryOp op) r) (ha : PE X a ta) (hb : PE X b tb) : PE X (.BinOp a op b pos) (tOp r ta tb) := by
  intro pins s σ H Q I h
  exact wpAny_BinOp (binT ha hb I h fun v u s2 x y H2 I2 rx ry q => ho pins s2 σ H2 x y v u Q I2 rx ry q)
theorem pe_un {op : UnaryOp} {r : V → Hp → VK → Prop} (ho : UnR X (unaryOp op) r) (ha : PE X a ta) : PE X (.UnaryOp op a pos) (tUn r ta) := by
  intro pins s σ H Q I h
  exact UnaryOp_ (thn (ha pins s σ H _ I h) fun v s1 ⟨x, H1, I1, r1, q1⟩ => ho pins s1 σ H1 x v Q I1 r1 q1)
theorem opI {f : Value → Value → Sem Value} {C : Int → Int → Prop} {g : Int → Int → Int}
    (rule : ∀ (i j : Int) (t u : Tok) (s : Shared) (Q : Value → Shared → Prop) (E : Value → Shared → Prop), C i j → Q (.int (g i j) s.toks) { s with toks := s.toks + 1 } → wpAny (model X.prog X.w) X.A (f (.int i t) (.int j u)) Q E s) :
    OpR X f (rI C fun i j => .int (g i j)) := by
  intro pins s σ H x y v u Q I rx ry h
  obtain ⟨i, j, rfl, rfl, hc, q⟩ := h
  obtain ⟨t, rfl⟩ := rx
  obtain ⟨t', rfl⟩ := ry
  exact rule i j t t' s _ _ hc ⟨.int (g i j), H, I.tok _, ⟨_, rfl⟩, q⟩
theorem opI0 {f : Value → Value → Sem Value} {g : Int → Int → Int}
    (rule : ∀ (i j : Int) (t u : Tok) (s : Shared) (Q : Value → Shared → Prop) (E : Value → Shared → Prop), Q (.int (g i j) s.toks) { s with toks := s.toks + 1 } → wpAny (model X.prog X.w) X.A (f (.int i t) (.int j u)) Q E s) :
    OpR X f (rI0 fun i j => .int (g i j)) := by
  intro pins s σ H x y v u Q I rx ry h
  obtain ⟨i, j, rfl, rfl, q⟩ := h
  obtain ⟨t, rfl⟩ := rx
  obtain ⟨t', rfl⟩ := ry
  exact rule i j t t' s _ _ ⟨.int (g i j), H, I.tok _, ⟨_, rfl⟩, q⟩
theorem opB0 {f : Value → Value → Sem Value} {g : Int → Int → Bool}
    (rule : ∀ (i j : Int) (t u : Tok) (s : Shared) (Q : Value → Shared → Prop) (E : Value → Shared → Prop), Q (.bool (g i j)) s → wpAny (model X.prog X.w) X.A (f (.int i t) (.int j u)) Q E s) :
    OpR X f (rI0 fun i j => .bl (g i j)) := by
  intro pins s σ H x y v u Q I rx ry h
  obtain ⟨i, j, rfl, rfl, q⟩ := h
  obtain ⟨t, rfl⟩ := rx
  obtain ⟨t', rfl⟩ := ry
  exact rule i j t t' s _ _ ⟨.bl (g i j), H, I, rfl, q⟩
noncomputable def CDiv (i j : Int) : Prop := 0 < j ∧ j < 1073741824
noncomputable def CPow (i j : Int) : Prop := 0 ≤ j ∧ j ≤ 1000000 ∧ i.natAbs < 2 ^ 64
noncomputable def CMul (i j : Int) : Prop := (-(2 ^ 64) < i ∧ i < 2 ^ 64) ∨ (-(2 ^ 64) < j ∧ j < 2 ^ 64)
theorem CMul.ok {i j : Int} (h : CMul i j) : IntMulOk i j := by
  rcases h with ⟨h1, h2⟩ | ⟨h1, h2⟩
  · exact .of_left (intBits_le_64 h1 h2)
  · exact .of_right (intBits_le_64 h1 h2)
theorem op_add : OpR X (binaryOp .Add) (rI0 fun i j => .int (i + j)) := opI0 fun _ _ _ _ _ _ _ q => add_int q
theorem op_sub : OpR X (binaryOp .Sub) (rI0 fun i j => .int (i - j)) := opI0 fun _ _ _ _ _ _ _ q => sub_int q
theorem op_mul : OpR X (binaryOp .Mult) (rI CMul fun i j => .int (i * j)) := opI fun _ _ _ _ _ _ _ hc q => mul_int q hc.ok
theorem op_fdiv : OpR X (binaryOp .FloorDiv) (rI CDiv fun i j => .int (i / j)) := opI fun i j _ _ _ _ _ hc q => by
  have h1 : (0 : Int) < j := hc.1
  have h2 : j < 1073741824 := hc.2
  exact floordiv_int (by trivial) (by rw [Int.fdiv_eq_ediv_of_nonneg i (by trivial)]; exact q) (.inl (PyProof.noPylong_small (by trivial)))
theorem op_mod : OpR X (binaryOp .Mod) (rI (fun _ j => 0 < j) fun i j => .int (i % j)) := opI fun i j _ _ _ _ _ hc q => by
  have h1 : (0 : Int) < j := hc
  exact mod_int' (by trivial) (by rw [Int.fmod_eq_emod_of_nonneg i (by trivial)]; exact q)
theorem op_pow : OpR X (binaryOp .Pow) (rI CPow fun i j => .int (i ^ j.toNat)) := opI fun _ _ _ _ _ _ _ hc q => pow_int_small hc.1 hc.2.1 hc.2.2 q
theorem unI {f : Value → Sem Value} {g : Int → Int}
    (rule : ∀ (i : Int) (t : Tok) (s : Shared) (Q : Value → Shared → Prop) (E : Value → Shared → Prop), Q (.int (g i) s.toks) { s with toks := s.toks + 1 } → wpAny (model X.prog X.w) X.A (f (.int i t)) Q E s) :
    UnR X f (rU fun i => .int (g i)) := by
  intro pins s σ H x v Q I rx h
  obtain ⟨i, rfl, q⟩ := h
  obtain ⟨t, rfl⟩ := rx
  exact rule i t s _ _ ⟨.int (g i), H, I.tok _, ⟨_, rfl⟩, q⟩
theorem un_neg : UnR X (unaryOp .USub) (rU fun i => .int (-i)) := unI fun _ _ _ _ _ q => neg_int q
end
noncomputable def scal : V → V → Bool
  | .non, .non => true | .non, .int _ => true | .int _, .non => true | .non, .bl _ => true | .bl _, .non => true | .non, .str _ => true | .str _, .non => true
  | .int _, .int _ => true | .bl _, .bl _ => true | .str _, .str _ => true | .byt _, .byt _ => true
  | .int _, .str _ => true | .str _, .int _ => true | .bl _, .str _ => true | .str _, .bl _ => true
  | _, _ => false
noncomputable def rEq : R2 := fun x y H Q => scal x y = true ∧ Q (.bl (decide (x = y))) H
noncomputable def rNe : R2 := fun x y H Q => scal x y = true ∧ Q (.bl (!decide (x = y))) H
theorem dec_int {i j : Int} : decide (V.int i = V.int j) = (i == j) := by
  rw [Bool.eq_iff_iff]
  simp
theorem dec_bl {i j : Bool} : decide (V.bl i = V.bl j) = (i == j) := by
  rw [Bool.eq_iff_iff]
  simp
theorem dec_str {i j : Str} : decide (V.str i = V.str j) = (i == j) := by
  rw [Bool.eq_iff_iff]
  simp
theorem dec_byt {i j : Array UInt8} : decide (V.byt i = V.byt j) = (i.toList == j.toList) := by
  rw [Bool.eq_iff_iff]
  cases i
  cases j
  simp
section
variable {X : Cx} {a b c : Expr} {ta tb tc : TE} {pos : Pos}
theorem fin_bl {pins : List (Addr × Obj)} {σ : St} {H : Hp} {s : Shared} {Q : VK} {k k' : Bool} (I : Inv X pins σ H s) (q : Q (.bl k) H) (e : k = k') : EP X pins σ Q (.bool k') s := by
  subst e
  exact ⟨.bl k, H, I, rfl, q⟩
theorem op_eq : OpR X (compareOp .Eq) rEq := by
  intro pins s σ H x y v u Q I rx ry h
  obtain ⟨hs, q⟩ := h
  cases x with
  | non =>
    cases rx
    cases y with
    | non => cases ry; exact PySem.EqNone.eq_none_none (fin_bl I q (by simp))
    | bl j => cases ry; exact PySem.EqNone.eq_none_bool (fin_bl I q (by simp))
    | int j => obtain ⟨t', rfl⟩ := ry; exact PySem.EqNone.eq_none_int (fin_bl I q (by simp))
    | str j => obtain ⟨t', rfl⟩ := ry; exact PySem.EqNone.eq_none_str (fin_bl I q (by simp))
    | _ => exact absurd (show false = true from hs) Bool.false_ne_true
  | bl i =>
    cases rx
    cases y with
    | non => cases ry; exact PySem.EqNone.eq_bool_none (fin_bl I q (by simp))
    | bl j => cases ry; exact eq_bool (fin_bl I q dec_bl)
    | str j => obtain ⟨t', rfl⟩ := ry; exact PySem.EqMixed.eq_bool_str (fin_bl I q (by simp))
    | _ => exact absurd (show false = true from hs) Bool.false_ne_true
  | int i =>
    obtain ⟨t, rfl⟩ := rx
    cases y with
    | non => cases ry; exact PySem.EqNone.eq_int_none (fin_bl I q (by simp))
    | int j => obtain ⟨t', rfl⟩ := ry; exact eq_int (fin_bl I q dec_int)
    | str j => obtain ⟨t', rfl⟩ := ry; exact PySem.EqMixed.eq_int_str (fin_bl I q (by simp))
    | _ => exact absurd (show false = true from hs) Bool.false_ne_true
  | str i =>
    obtain ⟨t, rfl⟩ := rx
    cases y with
    | non => cases ry; exact PySem.EqNone.eq_str_none (fin_bl I q (by simp))
    | bl j => cases ry; exact PySem.EqMixed.eq_str_bool (fin_bl I q (by simp))
    | int j => obtain ⟨t', rfl⟩ := ry; exact PySem.EqMixed.eq_str_int (fin_bl I q (by simp))
    | str j => obtain ⟨t', rfl⟩ := ry; exact eq_str (fin_bl I q dec_str)
    | _ => exact absurd (show false = true from hs) Bool.false_ne_true
  | byt i =>
    obtain ⟨t, rfl⟩ := rx
    cases y with
    | byt j => obtain ⟨t', rfl⟩ := ry; exact PySem.W.eq_bytes (fin_bl I q dec_byt)
    | _ => exact absurd (show false = true from hs) Bool.false_ne_true
  | _ => cases y <;> exact absurd (show false = true from hs) Bool.false_ne_true
theorem op_ne : OpR X (compareOp .NotEq) rNe := by
  intro pins s σ H x y v u Q I rx ry h
  obtain ⟨hs, q⟩ := h
  cases x with
  | non =>
    cases rx
    cases y with
    | non => cases ry; exact PySem.EqNone.ne_none_none (fin_bl I q (by simp))
    | bl j => cases ry; exact PySem.EqNone.ne_none_bool (fin_bl I q (by simp))
    | int j => obtain ⟨t', rfl⟩ := ry; exact PySem.EqNone.ne_none_int (fin_bl I q (by simp))
    | str j => obtain ⟨t', rfl⟩ := ry; exact PySem.EqNone.ne_none_str (fin_bl I q (by simp))
    | _ => exact absurd (show false = true from hs) Bool.false_ne_true
  | bl i =>
    cases rx
    cases y with
    | non => cases ry; exact PySem.EqNone.ne_bool_none (fin_bl I q (by simp))
    | bl j => cases ry; exact ne_bool (fin_bl I q (congrArg not dec_bl))
    | str j => obtain ⟨t', rfl⟩ := ry; exact PySem.EqMixed.ne_bool_str (fin_bl I q (by simp))
    | _ => exact absurd (show false = true from hs) Bool.false_ne_true
  | int i =>
    obtain ⟨t, rfl⟩ := rx
    cases y with
    | non => cases ry; exact PySem.EqNone.ne_int_none (fin_bl I q (by simp))
    | int j => obtain ⟨t', rfl⟩ := ry; exact ne_int (fin_bl I q (congrArg not dec_int))
    | str j => obtain ⟨t', rfl⟩ := ry; exact PySem.EqMixed.ne_int_str (fin_bl I q (by simp))
    | _ => exact absurd (show false = true from hs) Bool.false_ne_true
  | str i =>
    obtain ⟨t, rfl⟩ := rx
    cases y with
    | non => cases ry; exact PySem.EqNone.ne_str_none (fin_bl I q (by simp))
    | bl j => cases ry; exact PySem.EqMixed.ne_str_bool (fin_bl I q (by simp))
    | int j => obtain ⟨t', rfl⟩ := ry; exact PySem.EqMixed.ne_str_int (fin_bl I q (by simp))
    | str j => obtain ⟨t', rfl⟩ := ry; exact ne_str (fin_bl I q (congrArg not dec_str))
    | _ => exact absurd (show false = true from hs) Bool.false_ne_true
  | byt i =>
    obtain ⟨t, rfl⟩ := rx
    cases y with
    | byt j => obtain ⟨t', rfl⟩ := ry; exact PySem.W.ne_bytes (fin_bl I q (congrArg not dec_byt))
    | _ => exact absurd (show false = true from hs) Bool.false_ne_true
  | _ => cases y <;> exact absurd (show false = true from hs) Bool.false_ne_true
theorem op_lt : OpR X (compareOp .Lt) (rI0 fun i j => .bl (decide (i < j))) := opB0 fun _ _ _ _ _ _ _ q => lt_int q
theorem op_le : OpR X (compareOp .LtE) (rI0 fun i j => .bl (decide (i ≤ j))) := opB0 fun _ _ _ _ _ _ _ q => le_int q
theorem op_gt : OpR X (compareOp .Gt) (rI0 fun i j => .bl (decide (j < i))) := opB0 fun _ _ _ _ _ _ _ q => gt_int q
theorem nomark (b : Expr) {op : CmpOp} (h : op ≠ .In := by decide) (h2 : op ≠ .NotIn := by decide) : behindInMarks op b = false := by
  have e1 : (op == CmpOp.In) = false := by cases op <;> first | rfl | exact absurd rfl h
  have e2 : (op == CmpOp.NotIn) = false := by cases op <;> first | rfl | exact absurd rfl h2
  cases b <;> simp [behindInMarks, e1, e2]
theorem pe_cmpR {op : CmpOp} {r : R2} (ho : OpR X (compareOp op) r) (ha : PE X a ta) (hb : PE X b tb) (hm : behindInMarks op b = false) : PE X (.Compare a [op] [b] pos) (tOp r ta tb) := by
  intro pins s σ H Q I h
  exact wpAny_Compare1 (binT ha hb I h fun v u s2 x y H2 I2 rx ry q => ho pins s2 σ H2 x y v u Q I2 rx ry q) hm
noncomputable def tTest (t : TE) : TT := fun σ H Q => t σ H fun x H' => ∃ k, x = .bl k ∧ Q k H'
theorem pt_cmpR {op : CmpOp} {r : R2} (ho : OpR X (compareOp op) r) (ha : PE X a ta) (hb : PE X b tb) (hm : behindInMarks op b = false) : PT X (.Compare a [op] [b] pos) (tTest (tOp r ta tb)) := by
  intro pins s σ H Q I h
  refine wpAny_isTrue_Compare1 (thn (ha pins s σ H _ I h) fun v s1 ⟨x, H1, I1, r1, q1⟩ => thn (hb pins s1 σ H1 _ I1 q1) fun u s2 ⟨y, H2, I2, r2, q2⟩ =>
    thn (ho pins s2 σ H2 x y v u _ I2 r1 r2 q2) fun c s3 ⟨z, H3, I3, r3, k, e, q3⟩ => ?_) hm
  subst e
  cases r3
  exact wpAny_truthy_bool ⟨H3, I3, q3⟩
noncomputable def tChain (r r' : R2) (ta tb tc : TE) : TE := fun σ H Q => ta σ H fun x H1 => tb σ H1 fun y H2 => r x y H2 fun z H3 => ∃ k, z = .bl k ∧
  (if k = true then tc σ H3 fun w' H4 => r' y w' H4 Q else Q (.bl false) H3)
theorem pe_chain {op op' : CmpOp} {r r' : R2} (ho : OpR X (compareOp op) r) (ho' : OpR X (compareOp op') r') (ha : PE X a ta) (hb : PE X b tb) (hc : PE X c tc)
    (hm : lastMarks [op, op'] [b, c] = false := by with_unfolding_all rfl) : PE X (.Compare a [op, op'] [b, c] pos) (tChain r r' ta tb tc) := by
  intro pins s σ H Q I h
  refine Compare_chain (thn (ha pins s σ H _ I h) fun v s1 ⟨x, H1, I1, r1, q1⟩ => chain_link (thn (hb pins s1 σ H1 _ I1 q1) fun u s2 ⟨y, H2, I2, r2, q2⟩ =>
    thn (ho pins s2 σ H2 x y v u _ I2 r1 r2 q2) fun d s3 ⟨z, H3, I3, r3, k, e, q3⟩ => ?_)) hm
  subst e
  cases r3
  refine wpAny_truthy_bool ?_
  cases k with
  | false => exact ite_ff ⟨.bl false, H3, I3, rfl, q3⟩
  | true => exact ite_tt (chain_last (thn (hc pins s3 σ H3 _ I3 q3) fun w' s4 ⟨z', H4, I4, r4, q4⟩ => ho' pins s4 σ H4 y z' u w' Q I4 r2 r4 q4))
theorem line63 : (sizeLine : Nat) < 2 ^ 63 := by rw [sizeLine_eq]; decide
theorem vals1 {x : V} {us : List Value} (r : Vals [x] us) : ∃ u, us = [u] ∧ RelV x u := by
  cases r with
  | cons r1 r2 => cases r2; exact ⟨_, rfl, r1⟩
theorem vals2 {x y : V} {us : List Value} (r : Vals [x, y] us) : ∃ u w', us = [u, w'] ∧ RelV x u ∧ RelV y w' := by
  cases r with
  | cons r1 r2 =>
    cases r2 with
    | cons r3 r4 => cases r4; exact ⟨_, _, rfl, r1, r3⟩
theorem call_max2 (hc : X.calm = true) : CallR X (.builtin "max") (fun xs H Q => ∃ i j, xs = [.int i, .int j] ∧ Q (.int (if j > i then j else i)) H) := by
  intro pins s σ H xs us Q I r h
  obtain ⟨i, j, rfl, q⟩ := h
  obtain ⟨u, w', rfl, ⟨t, rfl⟩, ⟨t', rfl⟩⟩ := vals2 r
  refine max_two_ints (I.ok.hd hc) fun h' tk k => ⟨_, H, I.kept k, ?_, q⟩
  by_cases hj : j > i
  · rw [if_pos hj, if_pos hj]; exact ⟨_, rfl⟩
  · rw [if_neg hj, if_neg hj]; exact ⟨_, rfl⟩
end
end L2
namespace L2
open PySem PySem.Spec PyProof.Rows
structure ObjM (h : Heap) (x dx C : Addr) (mA : Str → Option Value) : Prop where
  obj : h.get? x = some (PySem.W.instObj C dx)
  ns : h.Ns1 dx mA
  ne : dx ≠ x
theorem lookIn_ns {h : Heap} {dx : Addr} {mA : Str → Option Value} (n : h.Ns1 dx mA) : ∃ od, h.get? dx = some od ∧ ∀ name, PySem.W.lookIn name od = some (mA name) := by
  obtain ⟨o, es, ep, ho, hd, hk, _, hm⟩ := n
  refine ⟨o, ho, fun name => ?_⟩
  have e := hm name
  unfold nsFind findBy at e
  rw [← Array.find?_toList] at e
  unfold PySem.W.lookIn
  rw [hd]
  dsimp only
  split
  · rename_i y q
    rw [q] at e
    exact congrArg some e
  · rename_i q
    rw [q] at e
    have a : es.toList.any (·.refKey) = false := by
      rw [List.any_eq_false]
      intro y hy
      obtain ⟨z, t, hkey⟩ := hk y (Array.mem_toList_iff.mp hy)
      simp [DictEntry.refKey, hkey]
    have a' : ¬ es.toList.any (·.refKey) = true := by rw [a]; exact Bool.false_ne_true
    rw [if_neg a']
    exact congrArg some e
theorem ObjM.look {h : Heap} {x dx C : Addr} {mA : Str → Option Value} (I : ObjM h x dx C mA) : ∃ od, PySem.W.InstAt h x (PySem.W.instObj C dx) C (some od) ∧ ∀ name, PySem.W.lookIn name od = some (mA name) :=
  let ⟨od, ho, hl⟩ := lookIn_ns I.ns
  ⟨od, ⟨I.obj, rfl, rfl, ho⟩, hl⟩
section
variable {prog : Program} {w : World} {A : Around} {E : Value → Shared → Prop} {s : Shared} {K : PySem.W.Frag} {x dx C f : Addr} {mA : Str → Option Value} {name : Str} {v : Value}
end
theorem RelO.some_of {v : V} {o : Option Value} (r : RelO (some v) o) : ∃ u, o = some u ∧ RelV v u := by
  cases o with
  | none => exact (show False from r).elim
  | some u => exact ⟨u, rfl, r⟩
section
variable {P : Program} {w : World} {H H' : Hp} {h h' : Heap} {a C dx : Addr} {fs fs' : List (Str × V)}
theorem ins_get (hok : HOk P w H h) (e : H a = some (.ins C dx fs)) : ∃ mA, ObjM h a dx C mA ∧ (∀ f, RelO (fs.lookup f) (mA f)) ∧ PySem.Within mA (fs.map (·.1)) ∧ fs.length ≤ 1000 ∧ H dx = some (.own a) := by
  obtain ⟨d, z, ne, ob, mA, n, r, q⟩ := (show ObjOk P w H h a (.ins C dx fs) from hok a _ e)
  exact ⟨mA, ⟨ob, n, ne⟩, r, q, z, d⟩
end
structure Cls (K : PySem.W.Frag) (C : Addr) : Prop where
  pg : PySem.W.plainGet K C Str.empty = true
  hd : PySem.W.hasDictIn K C = true
  po : PySem.W.plainOver K C = true
  sa : PySem.W.findIn K (.ref C) "__setattr__" = some (some (.builtin "object.__setattr__"))
theorem Cls.get {K : PySem.W.Frag} {C : Addr} (c : Cls K C) (f : Str) : PySem.W.plainGet K C f = true := c.pg
structure Con (K : PySem.W.Frag) (C : Addr) (f : Str) (v : V) (u : Value) : Prop where
  at_ : PySem.W.findIn K (.ref C) f = some (some u)
  rel : RelV v u
  get : PySem.W.specialIn K u "__get__" = some none
  cp : PySem.W.copiedNames.contains f = false
structure Meth (K : PySem.W.Frag) (C : Addr) (m : Str) (f : Addr) : Prop where
  at_ : PySem.W.findIn K (.ref C) m = some (some (.ref f))
  fn : PySem.W.isFn K (.ref f) = true
  kp : PySem.W.keepIn K (.ref f) = true
section
variable {X : Cx} {pins : List (Addr × Obj)} {σ : St} {H : Hp} {s : Shared} {a C dx : Addr} {fs : List (Str × V)} {f : Str} {v : V} {A : Around} {E : Value → Shared → Prop}
end
section
variable {X : Cx} {o e value : Expr} {f : Str} {pos pos' tpos : Pos} {ta tv : TE}
end
section
variable {X : Cx} {pins : List (Addr × Obj)} {σ : St} {H : Hp} {s : Shared} {A : Around} {E : Value → Shared → Prop} {Q : Value → Shared → Prop} {c : Value} {b : Bool}
inductive TyOf (K : PySem.W.Frag) (H : Hp) : V → Value → Prop where
  | non : TyOf K H .non (.type "NoneType")
  | bl (x : Bool) : TyOf K H (.bl x) (.type "bool")
  | int (i : Int) : TyOf K H (.int i) (.type "int")
  | str (x : Str) : TyOf K H (.str x) (.type "str")
  | flt (x : UInt64) : TyOf K H (.flt x) (.type "float")
  | lst {a : Addr} {xs : List V} (e : H a = some (.lst xs)) : TyOf K H (.ref a) (.type "list")
  | frz {a : Addr} {o : Obj} {xs : List V} (e : H a = some (.frz o (.lst xs))) : TyOf K H (.ref a) (.type "list")
  | tup {a : Addr} {xs : List V} (e : H a = some (.tup xs)) : TyOf K H (.ref a) (.type "tuple")
  | dK {a : Addr} {kvs : List (Key × V)} (e : H a = some (.dK kvs)) : TyOf K H (.ref a) (.type "dict")
  | dT {a : Addr} {kvs : List (List Key × V)} (e : H a = some (.dT kvs)) : TyOf K H (.ref a) (.type "dict")
  | ins {a C dx : Addr} {fs : List (Str × V)} (e : H a = some (.ins C dx fs)) (cl : Cls K C) (ha : PySem.W.findIn K (.ref C) "__class__" = some (some (.builtin "object.__class__")))
      (hn : PySem.W.specialIn K (.builtin "object.__class__") "__get__" = some (some (.builtin "getset_descriptor.__get__"))) (htk : PySem.W.takesIn K (.builtin "object.__class__") = some true)
      (hm : PySem.W.mroIn K C (.type "object") = some true) : TyOf K H (.ref a) (.ref C)
theorem isinst_ok {x : V} {u t : Value} (I : Inv X pins σ H s) (rx : RelV x u) (ty : TyOf X.K H x t) (e : PySem.W.kitOne X.K t c = some b) (h : ∀ tk, Q (.bool b) { s with toks := tk }) :
    wpAny (model X.prog X.w) A (call (.builtin "isinstance") [u, c]) Q E s := by
  cases ty with
  | non => cases (show u = Value.none from rx); exact PySem.W.kia_one PySem.W.kitx_none I.kIn True.intro e (fun z => nomatch z) h
  | bl y => cases (show u = Value.bool y from rx); exact PySem.W.kia_one PySem.W.kitx_bool I.kIn True.intro e (fun z => nomatch z) h
  | int i => obtain ⟨t, q⟩ := (show ∃ t, u = Value.int i t from rx); cases q; exact PySem.W.kia_one PySem.W.kitx_int I.kIn True.intro e (fun z => nomatch z) h
  | str y => obtain ⟨t, q⟩ := (show ∃ t, u = Value.str y t from rx); cases q; exact PySem.W.kia_one PySem.W.kitx_str I.kIn True.intro e (fun z => nomatch z) h
  | flt y => obtain ⟨t, q⟩ := (show ∃ t, u = Value.float y t from rx); cases q; exact PySem.W.kia_one PySem.W.kitx_float I.kIn True.intro e (fun z => nomatch z) h
  | @lst a xs ea =>
    cases (show u = Value.ref a from rx)
    obtain ⟨_, _, n, _, h1⟩ := (show ObjOk X.prog X.w H s.heap a (.lst xs) from I.hok a _ ea)
    exact PySem.W.kia_one PySem.W.kitx_list I.kIn ⟨_, h1, rfl⟩ e (fun z => nomatch z) h
  | @frz a ob xs ea =>
    cases (show u = Value.ref a from rx)
    obtain ⟨_, _, _, n, _, h1⟩ := (show ObjOk X.prog X.w H s.heap a (.frz ob (.lst xs)) from I.hok a _ ea)
    exact PySem.W.kia_one PySem.W.kitx_list I.kIn ⟨_, h1, rfl⟩ e (fun z => nomatch z) h
  | @tup a xs ea =>
    cases (show u = Value.ref a from rx)
    obtain ⟨_, _, _, p⟩ := (show ObjOk X.prog X.w H s.heap a (.tup xs) from I.hok a _ ea)
    obtain ⟨o, h1, h2, _⟩ := p
    exact PySem.W.kia_one PySem.W.kitx_tuple I.kIn ⟨o, h1, h2⟩ e (fun z => nomatch z) h
  | @dK a kvs ea =>
    cases (show u = Value.ref a from rx)
    obtain ⟨_, _, vs, _, p⟩ := (show ObjOk X.prog X.w H s.heap a (.dK kvs) from I.hok a _ ea)
    obtain ⟨o, es, ep, h1, h2, _⟩ := p
    exact PySem.W.kia_one PySem.W.kitx_dict I.kIn ⟨o, h1, h2.1⟩ e (fun z => nomatch z) h
  | @dT a kvs ea =>
    cases (show u = Value.ref a from rx)
    obtain ⟨_, _, xs, _, o, es, ep, h1, h2, _⟩ := (show ObjOk X.prog X.w H s.heap a (.dT kvs) from I.hok a _ ea)
    exact PySem.W.kia_one PySem.W.kitx_dict I.kIn ⟨o, h1, h2.1⟩ e (fun z => nomatch z) h
  | @ins a C dx fs ea cl ha hn htk hm =>
    cases (show u = Value.ref a from rx)
    obtain ⟨mA, O, _⟩ := ins_get I.hok ea
    obtain ⟨od, J, _⟩ := O.look
    exact PySem.W.kia_one (PySem.W.kitx_own (cl.get _) cl.hd ha hn htk hm) I.kIn J e (fun z => nomatch z) h
end
end L2
namespace L2
open PySem PySem.Spec PyProof.Rows
structure Room (k : Nat) (A : Around) : Prop where
  hd : A.handled = none
  dp : A.depth + 3 * k + 5 < recursionLimit
  un : A.units + 16 * k + 200 < cLine
theorem Room.mono {j k : Nat} {A : Around} (r : Room k A) (h : j ≤ k) : Room j A := ⟨r.hd, by have := r.dp; trivial, by have := r.un; trivial⟩
theorem Room.deeper {k : Nat} {A : Around} (r : Room (k + 1) A) (env : Env) : Room k (A.deeper env) :=
  ⟨r.hd, by have := r.dp; show A.depth + 1 + 3 * k + 5 < _; trivial, by have := r.un; show A.units + 3 + 16 * k + 200 < _; trivial⟩
theorem Room.depth {k : Nat} {A : Around} (r : Room k A) : A.depth < recursionLimit := by have := r.dp; trivial
theorem Room.units {k : Nat} {A : Around} (r : Room k A) : A.units + 64 < cLine := by have := r.un; trivial
noncomputable def tNil : TA := fun _ H Q => Q [] H
noncomputable def tCons (ta : TE) (tr : TA) : TA := fun σ H Q => ta σ H fun x H1 => tr σ H1 fun xs H2 => Q (x :: xs) H2
section
variable {X : Cx} {e : Expr} {es : List Expr} {te : TE} {t : TA} {pos : Pos}
theorem pa_nil : PA X [] tNil := fun _ _ _ _ H Q I h => Calls.spliced_nil ⟨[], H, I, .nil, h⟩
theorem pa_cons (ha : PE X e te) (hr : PA X es t) (hs : starEach (e :: es) X.env = (false, eval e X.env) :: starEach es X.env := by rfl) : PA X (e :: es) (tCons te t) := by
  intro pos pins s σ H Q I h
  rw [hs]
  show wpAny _ _ (spliced ((false, eval e X.env) :: backTo pos (starEach es X.env))) _ _ s
  refine Calls.spliced_cons (thn (ha pins s σ H _ I h) fun u s1 ⟨x, H1, I1, r1, q1⟩ => ?_)
  exact thn (hr pos pins s1 σ H1 _ I1 q1) fun us s2 ⟨xs, H2, I2, r2, q2⟩ => ⟨x :: xs, H2, I2, .cons r1 r2, q2⟩
noncomputable def tTup (t : TA) : TE := fun σ H Q => t σ H fun xs H1 => xs.length ≤ sizeLine ∧ ∀ p, H1 p = none → Q (.ref p) (upd H1 p (.tup xs))
noncomputable def tLst (t : TA) : TE := fun σ H Q => t σ H fun xs H1 => xs.length ≤ sizeLine ∧ ∀ p, H1 p = none → Q (.ref p) (upd H1 p (.lst xs))
theorem pe_tup {x1} (h : PA X es t) : PE X (.Tuple es x1 pos) (tTup t) := by
  intro pins s σ H Q I hq
  refine wpAny_Tuple_spliced (thn (h pos pins s σ H _ I hq) fun us s1 ⟨xs, H1, I1, r, z, q⟩ => ⟨by rw [← r.length]; exact z, ?_⟩)
  have hf : H1 s1.heap.objs.size = none := I1.hok.fresh (Nat.le_refl _)
  refine ⟨.ref s1.heap.objs.size, upd H1 s1.heap.objs.size (.tup xs), I1.laid (t' := s1.toks) (fun b u e => Heap.get?_push_of_some _ e) (Nat.le_refl _) ?_, rfl, q _ hf⟩
  exact ⟨z, us, r, ⟨_, Heap.get?_push_size _ rfl, rfl, _, rfl⟩⟩
theorem pe_lst (h : PA X es t) : PE X (.List es pos) (tLst t) := by
  intro pins s σ H Q I hq
  refine wpAny_List_spliced (thn (h pos pins s σ H _ I hq) fun us s1 ⟨xs, H1, I1, r, z, q⟩ => ⟨by rw [← r.length]; exact z, ?_⟩)
  have hf : H1 s1.heap.objs.size = none := I1.hok.fresh (Nat.le_refl _)
  refine ⟨.ref s1.heap.objs.size, upd H1 s1.heap.objs.size (.lst xs), I1.laid (t' := s1.toks) (fun b u e => Heap.get?_push_of_some _ e) (Nat.le_refl _) ?_, rfl, q _ hf⟩
  exact ⟨z, us, 0, r, Heap.get?_push_size _ rfl⟩
end
noncomputable abbrev Sp := List V → Hp → VK → XK → Prop
noncomputable abbrev CXT := List Env → Hp → Shared → XK → Value → Shared → Prop
structure Env0 (P : Program) (w : World) (K : PySem.W.Frag) (mg : Str → Option Value) (base : Heap) (A : Around) (outer : List Env) (s : Shared) (H : Hp) : Prop where
  frames : A.frames = some outer
  mod : Mod K mg base
  bs : ∀ b o, base.get? b = some o → s.heap.get? b = some o ∧ H b = none
  bsz : base.objs.size ≤ s.heap.objs.size
  funs : s.heap.FunFrames base outer
  frf : ∀ b ∈ frs outer, H b = none
  hok : HOk P w H s.heap
  bare : AllBare s.gens
noncomputable def CE (outer : List Env) (P : Program) (w : World) (H : Hp) (s : Shared) (Q : VK) (u : Value) (s' : Shared) : Prop :=
  ∃ v H', s'.os = s.os ∧ AllBare s'.gens ∧ Un (frs outer) [] H H' s.heap s'.heap ∧ HOk P w H' s'.heap ∧ RelV v u ∧ Q v H'
noncomputable def CR (CX : CXT) (outer : List Env) (P : Program) (w : World) (H : Hp) (s : Shared) (Q : VK) (E : XK) (r : Result) (s' : Shared) : Prop :=
  match r with
  | .ok (.ret u) => CE outer P w H s Q u s'
  | .ok _ => False
  | .error e => CX outer H s E e s'
structure FnOk (P : Program) (w : World) (K : PySem.W.Frag) (mg : Str → Option Value) (base : Heap) (CX : CXT) (k : Nat) (f : Addr) (fd : FuncData) (ps : List Str) (sp : Sp) : Prop where
  len : ∀ vs H Q E, sp vs H Q E → vs.length = ps.length
  run : ∀ (A : Around) (outer : List Env) (s : Shared) (H : Hp) (args : Args) (us : List Value) (vs : List V) (Q : VK) (E : XK), Room k A → Env0 P w K mg base A outer s H → BindsTo s fd args (ps.zip us) → Vals vs us → sp vs H Q E →
    codeAny (model P w) A (.call (.ref f) args) (CR CX outer P w H s Q E) s
section
variable {X : Cx} {pins : List (Addr × Obj)} {σ : St} {H : Hp} {s s' : Shared}
theorem Inv.env0 (I : Inv X pins σ H s) : Env0 X.prog X.w X.K X.mg X.base X.A X.stack s H :=
  ⟨I.ok.frames, I.ok.mod, I.bs, Nat.le_trans I.ok.bsz I.sz, I.stack, I.stkFree, I.hok, I.bare⟩
theorem Inv.after {Q : VK} {u : Value} (I : Inv X pins σ H s) (h : CE X.stack X.prog X.w H s Q u s') : EP X pins σ Q u s' := by
  obtain ⟨v, H', os, bare, un, hok, r, q⟩ := h
  obtain ⟨hh, g, d, t, os'⟩ := s'
  obtain rfl : os' = s.os := os
  exact ⟨v, H', I.call (h' := hh) (g' := g) (d' := d) (t' := t) (ch := []) un hok bare (fun b z => absurd z (by simp)), r, q⟩
end
noncomputable def tCall (sp : Sp) (dvs : List V) (E : XK) (t : TA) : TE := fun σ H Q => t σ H fun vs H1 => sp (vs ++ dvs) H1 Q E
noncomputable def Binds (K : PySem.W.Frag) (fd : FuncData) (ps : List Str) (ds : List Value) : Prop :=
  ∀ (s : Shared) (us : List Value), K.In s.heap → (us ++ ds).length = ps.length → BindsTo s fd ⟨us, []⟩ (ps.zip (us ++ ds))
theorem Binds.all {K : PySem.W.Frag} {fd : FuncData} {ps : List Str} (h : ∀ us : List Value, us.length = ps.length → bindArgs fd ⟨us, []⟩ = pure (ps.zip us)) : Binds K fd ps [] := fun s us _ hl => by
  rw [List.append_nil] at hl ⊢
  exact .of_eq (h us hl)
noncomputable def Passes (CX : CXT) (X : Cx) (E : XK) : Prop := ∀ (pins : List (Addr × Obj)) (σ : St) (H : Hp) (s : Shared) (e : Value) (s' : Shared), Inv X pins σ H s → CX X.stack H s E e s' → X.xe e s'
section
variable {X : Cx} {CX : CXT} {k : Nat} {f C : Addr} {fd : FuncData} {ps : List Str} {sp : Sp} {dvs : List V} {ds : List Value} {E : XK} {x m : Str} {p pos apos : Pos} {e o : Expr} {es : List Expr} {ta : TE} {t : TA}
theorem run_fn {pins : List (Addr × Obj)} {σ : St} {H : Hp} {s : Shared} {Q : VK} {us : List Value} {vs : List V} (F : FnOk X.prog X.w X.K X.mg X.base CX k f fd ps sp) (hr : Room k X.A) (hb : Binds X.K fd ps ds) (hd : Vals dvs ds) (hx : Passes CX X E)
    (I : Inv X pins σ H s) (r : Vals vs us) (h : sp (vs ++ dvs) H Q E) : wpAny (model X.prog X.w) X.A (call (.ref f) us) (EP X pins σ Q) X.xe s := by
  have r2 : Vals (vs ++ dvs) (us ++ ds) := r.append hd
  have hl : (us ++ ds).length = ps.length := by rw [← r2.length]; exact F.len _ _ _ _ h
  refine wpAny_call (codeAny_mono (F.run X.A X.stack s H ⟨us, []⟩ (us ++ ds) (vs ++ dvs) Q E hr I.env0 (hb s us I.kIn hl) r2 h) fun r s' hq => ?_)
  cases r with
  | error e => exact hx pins σ H s e s' I hq
  | ok fl =>
    cases fl with
    | ret u => exact I.after hq
    | next => exact False.elim hq
    | brk => exact False.elim hq
    | cont => exact False.elim hq
theorem pe_call (F : FnOk X.prog X.w X.K X.mg X.base CX k f fd ps sp) (hr : Room k X.A) (hg : Gl X x) (hm : X.mg x = some (.ref f)) (hk : PySem.W.keepIn X.K (.ref f) = true) (hb : Binds X.K fd ps ds) (hd : Vals dvs ds) (hx : Passes CX X E)
    (ha : PA X (e :: es) t) (hdb : (x == ("__debug__" : Str)) = false := by decide) (he : starEach (e :: es) X.env = (false, eval e X.env) :: starEach es X.env := by rfl) (hpl : (backTo pos (starEach es X.env)).any (·.1) = false := by rfl) :
    PE X (.Call (.Name x p) (e :: es) [] pos) (tCall sp dvs E t) := by
  intro pins s σ H Q I h
  refine wpAny_Call_Name_kw (ld_glob I hg hm ?_ hdb)
  refine PySem.W.callWith_K (h₀ := X.base) I.ok.mod.kin hk (thn (ha pos pins s σ H _ I h) fun us s1 ⟨vs, H1, I1, r, q⟩ => ⟨I1.kIn, ?_⟩) he hpl
  exact run_fn F hr hb hd hx I1 r q
structure Mk (K : PySem.W.Frag) (C f : Addr) : Prop where
  makes : PySem.W.makesIn K C = true
  init : PySem.W.findIn K (.ref C) "__init__" = some (some (.ref f))
  fn : PySem.W.isFn K (.ref f) = true
  kp : PySem.W.keepIn K (.ref C) = true
end
section
variable {X : Cx} {CX : CXT} {k : Nat} {f C : Addr} {fd : FuncData} {ps ks : List Str} {sp : Sp} {E : XK} {x m : Str} {p pos apos kpos : Pos} {e o : Expr} {es : List Expr} {kws : List Keyword} {te ta : TE} {t tk : TA} {nm : Option Str}
structure KBinds (K : PySem.W.Frag) (fd : FuncData) (ps ks : List Str) (g : List Value → List Value → List Value) (gV : List V → List V → List V) : Prop where
  to : ∀ (s : Shared) (us ws : List Value), K.In s.heap → (g us ws).length = ps.length → BindsTo s fd ⟨us, ks.zip ws⟩ (ps.zip (g us ws))
  rel : ∀ {vs : List V} {us : List Value} {zs : List V} {ws : List Value}, Vals vs us → Vals zs ws → Vals (gV vs zs) (g us ws)
variable {g : List Value → List Value → List Value} {gV : List V → List V → List V}
end
structure FnScope (N P : List Str) (sc : Scope) : Prop where
  kind : sc.kind = .function
  co : sc.isCoroutine = false
  gen : sc.isGenerator = false
  nd : N.Nodup
  pre : N.take P.length = P
  par : ∀ x ∈ P, sc.names.lookup x = some .local ∨ sc.names.lookup x = some .cell
  nofree : ∀ y ∈ sc.names, y.2 ≠ .free
theorem bindL_out {kindOf : Str → Option NameKind} {x : Str} : ∀ {binds : List (Str × Value)} {m : Str → Option Value}, (∀ v, (x, v) ∉ binds) → bindL kindOf binds m x = m x
  | [], _, _ => rfl
  | (n, v) :: r, m, h => by
    unfold bindL
    rw [bindL_out fun w hw => h w (List.mem_cons_of_mem _ hw)]
    split
    · have : x ≠ n := by rintro rfl; exact h v List.mem_cons_self
      simp [this]
    · rfl
theorem bindC_out {kindOf : Str → Option NameKind} {x : Str} : ∀ {binds : List (Str × Value)} {m : Str → Option Value}, (∀ v, (x, v) ∉ binds) → bindC kindOf binds m x = m x
  | [], _, _ => rfl
  | (n, v) :: r, m, h => by
    unfold bindC
    rw [bindC_out fun w hw => h w (List.mem_cons_of_mem _ hw)]
    split
    · rfl
    · have : x ≠ n := by rintro rfl; exact h v List.mem_cons_self
      simp [this]
theorem bindL_get {kindOf : Str → Option NameKind} {x : Str} {v : Value} : ∀ {P : List Str} {vs : List Value} {i : Nat} {m : Str → Option Value}, P.Nodup → P[i]? = some x → vs[i]? = some v → kindOf x = some .local →
    bindL kindOf (P.zip vs) m x = some v
  | [], _, _, _, _, h, _, _ => by simp at h
  | _ :: _, [], _, _, _, _, h, _ => by simp at h
  | p :: P, w :: vs, 0, m, nd, h1, h2, hk => by
    simp at h1 h2; subst h1; subst h2
    show bindL kindOf ((p, w) :: P.zip vs) m p = _
    unfold bindL
    rw [bindL_out fun v hv => (List.nodup_cons.mp nd).1 (List.of_mem_zip hv).1, if_pos hk]
    simp
  | p :: P, w :: vs, i + 1, m, nd, h1, h2, hk => by
    show bindL kindOf ((p, w) :: P.zip vs) m x = _
    unfold bindL
    exact bindL_get (i := i) (List.nodup_cons.mp nd).2 (by simpa using h1) (by simpa using h2) hk
theorem bindC_get {kindOf : Str → Option NameKind} {x : Str} {v : Value} : ∀ {P : List Str} {vs : List Value} {i : Nat} {m : Str → Option Value}, P.Nodup → P[i]? = some x → vs[i]? = some v → kindOf x ≠ some .local →
    bindC kindOf (P.zip vs) m x = some v
  | [], _, _, _, _, h, _, _ => by simp at h
  | _ :: _, [], _, _, _, _, h, _ => by simp at h
  | p :: P, w :: vs, 0, m, nd, h1, h2, hk => by
    simp at h1 h2; subst h1; subst h2
    show bindC kindOf ((p, w) :: P.zip vs) m p = _
    unfold bindC
    rw [bindC_out fun v hv => (List.nodup_cons.mp nd).1 (List.of_mem_zip hv).1, if_neg hk]
    simp
  | p :: P, w :: vs, i + 1, m, nd, h1, h2, hk => by
    show bindC kindOf ((p, w) :: P.zip vs) m x = _
    unfold bindC
    exact bindC_get (i := i) (List.nodup_cons.mp nd).2 (by simpa using h1) (by simpa using h2) hk
noncomputable def start (N : List Str) (vs : List V) : St := vs.map some ++ List.replicate (N.length - vs.length) none
noncomputable def cxOf (CX : CXT) (P : Program) (w : World) (K : PySem.W.Frag) (mg : Str → Option Value) (base : Heap) (N : List Str) (qual : Str) (scope : Scope) (f : Addr) (cd : Value) (A : Around) (outer : List Env) (s : Shared) (H : Hp) (E : XK) : Cx where
  prog := P
  w := w
  K := K
  mg := mg
  base := base
  A := A.deeper (envOfC qual scope s.heap.objs.size f cd)
  N := N
  s₀ := s
  H₀ := H
  env := envOfC qual scope s.heap.objs.size f cd
  outer := outer
  stack := envOfC qual scope s.heap.objs.size f cd :: outer
  ex := []
  calm := true
  fn := fun _ => true
  pn := []
  xe := fun e s' => wpAny (model P w) (A.deeper (envOfC qual scope s.heap.objs.size f cd)) (leaving (envOfC qual scope s.heap.objs.size f cd) e) (fun _ s'' => CX outer H s E e s'') (fun e' s'' => CX outer H s E e' s'') s'
theorem cell_has {sc : Scope} {n : Nat} {x : Str} (h : sc.names.lookup x = some .cell) : ∃ c, (cellsFrom n sc.names []).lookup x = some c := by
  have q := PySem.W.cellsFrom_some sc.names n [] (.inl h)
  exact Option.isSome_iff_exists.mp q
theorem inv_start {CX : CXT} {P : Program} {w : World} {K : PySem.W.Frag} {mg : Str → Option Value} {base : Heap} {N ps : List Str} {qual : Str} {scope : Scope} {f : Addr} {cd : Value} {A : Around} {outer : List Env} {s s1 : Shared} {H : Hp} {E : XK} {us : List Value} {vs : List V}
    (S : FnScope N ps scope) (hd : A.handled = none) (e0 : Env0 P w K mg base A outer s H) (hl : vs.length = ps.length) (r : Vals vs us)
    (x : InCallC s s.heap.objs.size (bindL (envOfC qual scope s.heap.objs.size f cd).kindOf (ps.zip us) fun _ => none) (cellsFrom (s.heap.objs.size + 1) scope.names []) (bindC (envOfC qual scope s.heap.objs.size f cd).kindOf (ps.zip us) fun _ => none) s1) :
    Inv (cxOf CX P w K mg base N qual scope f cd A outer s H E) [] (start N vs) H s1 := by
  have hpl : ps.length ≤ N.length := by have := congrArg List.length S.pre; rw [List.length_take] at this; trivial
  obtain ⟨h1, tk, rfl, hk⟩ := x.done
  have noA : ∀ b : Addr, b ∉ (cxOf CX P w K mg base N qual scope f cd A outer s H E).ex := fun b z => absurd (show b ∈ ([] : List Addr) from z) (by simp)
  refine ⟨⟨e0.mod, S.kind, rfl, rfl, Nat.le_refl _, fun y z c h1 h2 => ?_, fun y hy => ?_, fun y c _ h => ?_, fun _ => hd, Around.frames_deeper e0.frames, .inr ⟨rfl, rfl⟩, fun b z => absurd z (noA b), e0.bs, e0.bsz, fun b _ _ => noA b, fun b z => absurd z (noA b), e0.funs, e0.frf⟩,
    rfl, e0.bare, Un.kept hk, ⟨_, x.toInCall.ns, fun i y v h1 h2 h3 => ?_⟩, fun y c h => ⟨_, x.cell y c h⟩, e0.hok.fresh (Nat.le_refl _), fun y c h => ?_, fun p hp => absurd (show p ∈ ([] : List (Addr × Obj)) from hp) (by simp), e0.hok.kept hk, ?_⟩
  · exact name_of_addr x.apart (PySem.mem_of_lookup h1) (PySem.mem_of_lookup h2)
  · have hy : scope.names.lookup y = some .cell ∨ scope.names.lookup y = some .free := hy
    rcases hy with hy | hy
    · exact cell_has hy
    · exact absurd rfl (S.nofree _ (PySem.mem_of_lookup hy))
  · exact Nat.le_of_lt (x.above y c (PySem.mem_of_lookup h))
  · have hi : i < vs.length := by
      unfold start at h2
      by_cases hi : i < vs.length
      · exact hi
      · rw [List.getElem?_append_right (by simpa using hi)] at h2
        rw [List.getElem?_replicate] at h2
        split at h2 <;> cases h2
    have ha : vs[i]? = some v := by
      unfold start at h2
      rw [List.getElem?_append_left (by simpa using hi), List.getElem?_map] at h2
      cases e : vs[i]? with
      | none => rw [e] at h2; cases h2
      | some a => rw [e] at h2; cases h2; rfl
    obtain ⟨u, hu, rv⟩ := r.get ha
    have hp : ps[i]? = some y := by
      rw [← S.pre, List.getElem?_take_of_lt (by trivial)]; exact h1
    have ndP : ps.Nodup := by rw [← S.pre]; exact S.nd.sublist (List.take_sublist _ _)
    refine ⟨u, rv, ?_⟩
    rcases S.par y (List.mem_of_getElem? hp) with k | k
    · exact .inl ⟨k, bindL_get ndP hp hu k⟩
    · obtain ⟨c, e⟩ := cell_has (n := s.heap.objs.size + 1) k
      refine .inr ⟨.inl k, c, e, ?_⟩
      have q := x.cell y c e
      rw [bindC_get ndP hp hu (by show scope.names.lookup y ≠ _; rw [k]; decide)] at q
      exact q
  · exact e0.hok.fresh (Nat.le_of_lt (x.above y c (PySem.mem_of_lookup h)))
  · unfold start
    show _ = N.length
    rw [List.length_append, List.length_map, List.length_replicate]
    trivial
theorem fn_of {CX : CXT} {P : Program} {w : World} {K : PySem.W.Frag} {mg : Str → Option Value} {base : Heap} {k : Nat} {f : Addr} {name qual : Str} {params : Arguments} {body : List Stmt} {scope : Scope} {dV kV doc pm cdv ct oc : Value} {an od : Option Addr}
    {osl : Array (Option Value)} {N ps : List Str} {sp : Sp} (lk : K.lookup f = some ⟨oc, od, .func (PySem.W.fnOf name qual params body scope dV kV doc pm an cdv ct), osl⟩) (hcd : PySem.W.codeIn K cdv qual = true) (S : FnScope N ps scope)
    (len : ∀ vs H Q E, sp vs H Q E → vs.length = ps.length)
    (hbody : ∀ (A : Around) (outer : List Env) (s : Shared) (H : Hp) (vs : List V) (Q : VK) (E : XK), Room k (A.deeper (envOfC qual scope s.heap.objs.size f cdv)) → sp vs H Q E →
      ∃ t, PSs (cxOf CX P w K mg base N qual scope f cdv A outer s H E) body t ∧ t { nx := fun _ H' => Q .non H', rt := Q } (start N vs) H) :
    FnOk P w K mg base CX (k + 1) f (PySem.W.fnOf name qual params body scope dV kV doc pm an cdv ct) ps sp := by
  refine ⟨len, fun A outer s H args us vs Q E hr e0 hb r hsp => ?_⟩
  have hl := len _ _ _ _ hsp
  have KX : K.In s.heap := e0.mod.kin.keeps fun b o e => (e0.bs b o e).1
  have lim : s.heap.NoLimit := e0.mod.nolimit.keeps fun b o e => (e0.bs b o e).1
  have hkind : ∀ y ∈ ps.zip us, scope.names.lookup y.1 = some .local ∨ (scope.names.lookup y.1 = some .cell ∧ ((cellsFrom (s.heap.objs.size + 1) scope.names []).lookup y.1).isSome = true) := fun ⟨n, v⟩ hy => by
    rcases S.par n (List.of_mem_zip hy).1 with q | q
    · exact .inl q
    · exact .inr ⟨q, PySem.W.cellsFrom_some _ _ _ (.inl q)⟩
  refine codeAny_call_function hr.depth (KX _ _ lk) rfl S.co S.gen rfl (PySem.W.codeRec_of KX hcd) (hb _ _ _ _ ?_)
  refine wpAny_newFunctionEnv_cells S.kind hkind fun env he s1 x => ?_
  subst he
  refine ⟨lim.keeps x.toInCall.keep, codeAny_func ?_⟩
  obtain ⟨t, ht, hq⟩ := hbody A outer s H vs Q E (hr.deeper _) hsp
  have I : Inv (cxOf CX P w K mg base N qual scope f cdv A outer s H E) [] (start N vs) H s1 := inv_start S hr.hd e0 hl r x
  refine wpAny_mono (ht [] s1 (start N vs) H _ I hq) (fun fl s' hs => ?_) fun e s' hs => hs
  have fin : ∀ {σ' : St} {H' : Hp} {v : V} {u : Value}, Inv (cxOf CX P w K mg base N qual scope f cdv A outer s H E) [] σ' H' s' → RelV v u → Q v H' → CE outer P w H s Q u s' :=
    fun {σ' H' v u} J rv q => ⟨v, H', J.os, J.bare, J.base, J.hok, rv, q⟩
  cases fl with
  | ret u =>
    obtain ⟨v, σ', H', J, rv, q⟩ := hs
    exact fin J rv q
  | next =>
    obtain ⟨σ', H', J, q⟩ := hs
    exact fin (v := V.non) (u := Value.none) J rfl q
  | brk =>
    obtain ⟨_, _, _, q⟩ := hs
    exact False.elim q
  | cont =>
    obtain ⟨_, _, _, q⟩ := hs
    exact False.elim q
end L2
namespace L2
open PySem PySem.Spec PyProof.Rows
section
variable {X : Cx} {x : Str} {p pos : Pos} {e : Expr} {es : List Expr} {t : TA} {id T : String} {r : List V → Hp → VK → Prop}
noncomputable def tCB (r : List V → Hp → VK → Prop) (t : TA) : TE := fun σ H Q => t σ H fun vs H1 => r vs H1 Q
theorem pe_callB (hc : CallR X (.builtin id) r) (hg : Gl X x) (hm : X.mg x = none) (hv : bootBuiltins x = some (.builtin id)) (ha : PA X (e :: es) t) (hn : x ≠ "__name__" := by decide) (hdb : (x == ("__debug__" : Str)) = false := by decide)
    (he : starEach (e :: es) X.env = (false, eval e X.env) :: starEach es X.env := by rfl) (hpl : (backTo pos (starEach es X.env)).any (·.1) = false := by rfl) : PE X (.Call (.Name x p) (e :: es) [] pos) (tCB r t) := by
  intro pins s σ H Q I h
  refine wpAny_Call_Name_kw (ld_blt I hg hm hv ?_ hn hdb)
  exact PyProof.Rows.callWith_builtin1 (thn (ha pos pins s σ H _ I h) fun us s1 ⟨vs, H1, I1, r1, q1⟩ => hc pins s1 σ H1 vs us Q I1 r1 q1) he hpl
theorem pe_callTy (hc : CallR X (.type T) r) (hg : Gl X x) (hm : X.mg x = none) (hv : bootBuiltins x = some (.type T)) (ha : PA X (e :: es) t) (hn : x ≠ "__name__" := by decide) (hdb : (x == ("__debug__" : Str)) = false := by decide)
    (he : starEach (e :: es) X.env = (false, eval e X.env) :: starEach es X.env := by rfl) (hpl : (backTo pos (starEach es X.env)).any (·.1) = false := by rfl) : PE X (.Call (.Name x p) (e :: es) [] pos) (tCB r t) := by
  intro pins s σ H Q I h
  refine wpAny_Call_Name_kw (ld_blt I hg hm hv ?_ hn hdb)
  exact PyProof.Rows.callWith_type1 (thn (ha pos pins s σ H _ I h) fun us s1 ⟨vs, H1, I1, r1, q1⟩ => hc pins s1 σ H1 vs us Q I1 r1 q1) he hpl
end
end L2
namespace HT
open PySem PyProof.Rows
section
open PySem.SeqAt
open PySem.AutoSeq1 (wpAny_loadPart')
open PySem.MeetsSeq PySem.MeetsSeq2 PySem.MeetsSeq3
end
section
variable {prog : Program} {w : World} {A : Around} {E : Value → Shared → Prop} {s : Shared}
noncomputable def sIx (n d : Nat) : Option Int → Nat
  | none => d
  | some v => if v < 0 then (v + (n : Int)).toNat else min v.toNat n
theorem sIx_none (n d : Nat) : sIx n d none = d := rfl
theorem sIx_nat (n d k : Nat) : sIx n d (some (k : Int)) = min k n := by
  show (if (k : Int) < 0 then ((k : Int) + (n : Int)).toNat else min (k : Int).toNat n) = min k n
  rw [if_neg (by trivial), Int.toNat_natCast]
end
end HT
namespace L2
open PySem PySem.Spec PyProof.Rows
noncomputable abbrev TO := St → Hp → (Option Int → Hp → Prop) → Prop
noncomputable def PO (X : Cx) (e : Option Expr) (t : TO) : Prop :=
  ∀ (pins : List (Addr × Obj)) (s : Shared) (σ : St) (H : Hp) (Q : Option Int → Hp → Prop), Inv X pins σ H s → t σ H Q →
    wpAny (model X.prog X.w) X.A (evalPart e X.env) (fun u s' => ∃ o H', Inv X pins σ H' s' ∧ IsPart u o ∧ Q o H') X.xe s
noncomputable def tNoPart : TO := fun _ H Q => Q none H
noncomputable def tPart (t : TE) : TO := fun σ H Q => t σ H fun x H1 => ∃ i, x = .int i ∧ Q (some i) H1
section
variable {X : Cx} {e : Expr} {te : TE} {lo hi : Option Expr} {tl th : TO} {pos p2 : Pos}
theorem po_none : PO X none tNoPart := by
  intro pins s σ H Q I h
  rw [evalPart_none]
  exact wpAny_pure ⟨none, H, I, .none, h⟩
theorem po_some (h : PE X e te) : PO X (some e) (tPart te) := by
  intro pins s σ H Q I hw
  rw [evalPart_some]
  refine thn (h pins s σ H _ I hw) fun u s1 ⟨x, H1, I1, r1, q1⟩ => ?_
  obtain ⟨i, rfl, q⟩ := q1
  obtain ⟨t, rfl⟩ := r1
  exact ⟨some i, H1, I1, .int i t, q⟩
noncomputable def SlR (X : Cx) (r : V → Option Int → Option Int → Hp → VK → Prop) : Prop :=
  ∀ (pins : List (Addr × Obj)) (s : Shared) (σ : St) (H : Hp) (x : V) (v vl vu : Value) (lo hi : Option Int) (sl : Addr) (Q : VK), Inv X pins σ H s → RelV x v → s.heap.IsSliceOf sl vl vu .none → IsPart vl lo → IsPart vu hi → r x lo hi H Q →
    ∃ T id, typeLookup (.type T) "__getitem__" = pure (some (.builtin id)) ∧ s.TypeIs v T ∧ wpAny (model X.prog X.w) X.A (getItem v (.ref sl)) (EP X pins σ Q) X.xe s
noncomputable def tSl (r : V → Option Int → Option Int → Hp → VK → Prop) (te : TE) (tl th : TO) : TE := fun σ H Q => te σ H fun x H1 => tl σ H1 fun l H2 => th σ H2 fun u H3 => r x l u H3 Q
theorem pe_slice {r : V → Option Int → Option Int → Hp → VK → Prop} (hr : SlR X r) (he : PE X e te) (hl : PO X lo tl) (hu : PO X hi th) : PE X (.Subscript e (.Slice lo hi none p2) pos) (tSl r te tl th) := by
  intro pins s σ H Q I h
  refine Subscript_ (thn (he pins s σ H _ I h) fun v s1 ⟨x, H1, I1, r1, q1⟩ => ?_)
  refine wpAny_Slice (thn (hl pins s1 σ H1 _ I1 q1) fun vl s2 ⟨l, H2, I2, pl, q2⟩ => thn (hu pins s2 σ H2 _ I2 q2) fun vu s3 ⟨u, H3, I3, pu, q3⟩ => ?_)
  rw [evalPart_none]
  refine wpAny_pure ?_
  have I4 : Inv X pins σ H3 { s3 with heap := s3.heap.push { cls := .type "slice", data := .fields #[vl, vu, .none] } } := I3.kept (t' := s3.toks) fun b ob q => Heap.get?_push_of_some _ q
  obtain ⟨T, id, hT, ht, hg⟩ := hr pins { s3 with heap := s3.heap.push { cls := .type "slice", data := .fields #[vl, vu, .none] } } σ H3 x v vl vu l u s3.heap.objs.size Q I4 r1 (Heap.IsSliceOf.new ..) pl pu q3
  show wpAny (model X.prog X.w) X.A (subscriptTail e (.Slice lo hi none p2) v (.ref s3.heap.objs.size)) (EP X pins σ Q) X.xe { s3 with heap := s3.heap.push { cls := .type "slice", data := .fields #[vl, vu, .none] } }
  exact tail_any (ops := [.ref s3.heap.objs.size, v]) ht hT hg (by with_unfolding_all rfl)
noncomputable def cutV (xs : List V) (lo hi : Option Int) : List V := (xs.drop (HT.sIx xs.length 0 lo)).take (HT.sIx xs.length xs.length hi - HT.sIx xs.length 0 lo)
theorem cutV_length (xs : List V) (lo hi : Option Int) : (cutV xs lo hi).length ≤ xs.length := by
  unfold cutV
  rw [List.length_take, List.length_drop]
  trivial
end
end L2
namespace L2
open PySem PySem.Spec PyProof.Rows
noncomputable def ixN (n : Nat) (i : Int) : Option Nat := if 0 ≤ i then (if i < n then some i.toNat else none) else if -(n : Int) ≤ i then some (i + n).toNat else none
noncomputable def atI {α : Type} (xs : List α) (i : Int) : Option α := (ixN xs.length i).bind fun j => xs[j]?
theorem ixN_seq {n : Nat} {i : Int} {j : Nat} (h : ixN n i = some j) : seqIndex? i n = some j ∧ j < n ∧ -(n : Int) ≤ i ∧ i < n := by
  unfold ixN at h
  by_cases h0 : 0 ≤ i
  · rw [if_pos h0] at h
    by_cases h1 : i < n
    · rw [if_pos h1] at h
      have e : i.toNat = j := Option.some.inj h
      exact ⟨by rw [seqIndex_of h0 h1, e], by trivial, by trivial, h1⟩
    · rw [if_neg h1] at h; cases h
  · rw [if_neg h0] at h
    by_cases h1 : -(n : Int) ≤ i
    · rw [if_pos h1] at h
      have e : (i + n).toNat = j := Option.some.inj h
      exact ⟨by rw [seqIndex_neg (by trivial) h1, e], by trivial, h1, by trivial⟩
    · rw [if_neg h1] at h; cases h
theorem atI_get {α : Type} {xs : List α} {i : Int} {v : α} (h : atI xs i = some v) : ∃ j, seqIndex? i xs.length = some j ∧ xs[j]? = some v ∧ j < xs.length ∧ -(xs.length : Int) ≤ i ∧ i < xs.length := by
  unfold atI at h
  cases e : ixN xs.length i with
  | none => rw [e] at h; cases h
  | some j =>
    rw [e] at h
    obtain ⟨h1, h2, h3, h4⟩ := ixN_seq e
    exact ⟨j, h1, h, h2, h3, h4⟩
theorem atI_nat {α : Type} {xs : List α} {j : Nat} {v : α} (h : xs[j]? = some v) : atI xs (j : Int) = some v := by
  have hj : j < xs.length := (List.getElem?_eq_some_iff.mp h).1
  have e : ixN xs.length (j : Int) = some j := by
    unfold ixN
    rw [if_pos (by trivial), if_pos (by trivial)]; simp
  unfold atI; rw [e]; exact h
noncomputable def PlainIx (b : Expr) : Prop := ∀ o i, subscripted b false o i = operate [o, i] (getItem o i)
noncomputable def IxR (X : Cx) (r : R2) : Prop :=
  ∀ (value slice : Expr) (pins : List (Addr × Obj)) (s : Shared) (σ : St) (H : Hp) (x y : V) (v u : Value) (Q : VK), Inv X pins σ H s → RelV x v → RelV y u → r x y H Q →
    subscripted slice false v u = operate [v, u] (getItem v u) → wpAny (model X.prog X.w) X.A (subscriptTail value slice v u) (EP X pins σ Q) X.xe s
noncomputable def MtR (X : Cx) (id : String) (r : V → List V → Hp → VK → Prop) : Prop :=
  ∀ (pins : List (Addr × Obj)) (s : Shared) (σ : St) (H : Hp) (x : V) (xs : List V) (v : Value) (us : List Value) (Q : VK), Inv X pins σ H s → RelV x v → Vals xs us → r x xs H Q →
    wpAny (model X.prog X.w) X.A (call (.builtin id) (v :: us)) (EP X pins σ Q) X.xe s
section
variable {X : Cx} {a b : Expr} {ta tb : TE} {pos : Pos}
theorem pe_ix {r : R2} (hr : IxR X r) (ha : PE X a ta) (hb : PE X b tb) (hs : PlainIx b) : PE X (.Subscript a b pos) (tOp r ta tb) := by
  intro pins s σ H Q I h
  exact Subscript_ (binT ha hb I h fun v u s2 x y H2 I2 rx ry q => hr a b pins s2 σ H2 x y v u Q I2 rx ry q (hs _ _))
noncomputable def rIxL (K : PySem.W.Frag) : R2 := fun x y H Q => ∃ p xs i v, x = .ref p ∧ y = .int i ∧ SqL K H p xs ∧ atI xs i = some v ∧ Q v H
noncomputable def rIxT (K : PySem.W.Frag) : R2 := fun x y H Q => ∃ p xs i v, x = .ref p ∧ y = .int i ∧ SqT K H p xs ∧ atI xs i = some v ∧ Q v H
theorem ix_list : IxR X (rIxL X.K) := by
  intro value slice pins s σ H x y v u Q I rx ry h hs
  obtain ⟨p, xs, i, z, rfl, rfl, hq, he, q⟩ := h
  cases rx
  obtain ⟨t, rfl⟩ := ry
  obtain ⟨its, r, pl, hz⟩ := I.list hq
  obtain ⟨j, h1, h2, h3, h4, h5⟩ := atI_get he
  obtain ⟨w, ew, rw'⟩ := r.get h2
  have hl := r.length
  have hn := line63
  have fin : EP X pins σ Q w s := ⟨z, H, I, rw', q⟩
  by_cases h0 : 0 ≤ i
  · have hj : i.toNat = j := by
      rw [seqIndex_of h0 h5] at h1
      exact Option.some.inj h1
    exact item_listR pl.isList h0 (by trivial) (by rw [hj]; simpa using ew) fin hs
  · have hj : (i + (its.toArray.size : Int)).toNat = j := by
      rw [seqIndex_neg (by trivial) h4] at h1
      rw [List.size_toArray, ← hl]
      exact Option.some.inj h1
    exact subscriptTail_builtinR (x := w) pl.isList.typeIs slot_list_getitem.lookup
      (wpAny_getItem_list_neg (Q := fun r s' => r = w ∧ EP X pins σ Q r s') pl.isList (by trivial) (by rw [List.size_toArray] <;> trivial) (by trivial) (by rw [hj]; simpa using ew) ⟨rfl, fin⟩) hs
theorem ix_tup : IxR X (rIxT X.K) := by
  intro value slice pins s σ H x y v u Q I rx ry h hs
  obtain ⟨p, xs, i, z, rfl, rfl, hq, he, q⟩ := h
  cases rx
  obtain ⟨t, rfl⟩ := ry
  obtain ⟨its, r, pl, hz⟩ := I.tuple hq
  obtain ⟨j, h1, h2, h3, h4, h5⟩ := atI_get he
  obtain ⟨w, ew, rw'⟩ := r.get h2
  have hl := r.length
  have hn := line63
  have fin : EP X pins σ Q w s := ⟨z, H, I, rw', q⟩
  exact subscriptTail_builtinR (x := w) pl.typeIs slot_tuple_getitem.lookup
    (getItem_tuple (j := j) (Q := fun r s' => r = w ∧ EP X pins σ Q r s') pl (by trivial) (by trivial) (by rw [List.size_toArray, ← hl]; exact h1) (by simpa using ew) ⟨rfl, fin⟩) hs
theorem mapSeq_set (its : List Value) (n j : Nat) (u : Value) : Obj.mapSeq (·.setIfInBounds j u) { cls := .type "list", data := .seq its.toArray n } = { cls := .type "list", data := .seq (its.set j u).toArray n } := by
  simp [Obj.mapSeq]
theorem Inv.lst {pins : List (Addr × Obj)} {σ : St} {H : Hp} {s : Shared} {p : Addr} {xs : List V} (I : Inv X pins σ H s) (h : H p = some (.lst xs)) :
    ∃ (its : List Value) (n : Nat), Vals xs its ∧ s.heap.get? p = some { cls := .type "list", data := .seq its.toArray n } ∧ xs.length ≤ sizeLine := by
  obtain ⟨z, its, n, r, e⟩ := I.hok p _ h
  exact ⟨its, n, r, e, z⟩
theorem Inv.lstUpd {pins : List (Addr × Obj)} {σ : St} {H : Hp} {s : Shared} {p : Addr} {xs ys : List V} {its its' : List Value} {n n' : Nat} {f : Obj → Obj} (I : Inv X pins σ H s) (h : H p = some (.lst xs))
    (ho : s.heap.get? p = some { cls := .type "list", data := .seq its.toArray n }) (hf : f { cls := .type "list", data := .seq its.toArray n } = { cls := .type "list", data := .seq its'.toArray n' }) (r : Vals ys its') (hz : ys.length ≤ sizeLine) (t : Nat) :
    Inv X pins σ (upd H p (.lst ys)) { s with heap := s.heap.update p f, toks := t } := by
  have e : (s.heap.update p f).get? p = some { cls := .type "list", data := .seq its'.toArray n' } := by
    rw [Heap.get?_update_self f ho (by rw [hf] <;> rfl), hf]
  refine I.write (x := p) (e := p) (by rw [h]; trivial) (.inl rfl) (fun b u hb q => (Heap.get?_update_other _ _ (Ne.symm hb)).trans q) ⟨_, e⟩ ?_
  exact ⟨hz, its', n', r, e⟩
noncomputable def rSetL : V → V → V → Hp → (Hp → Prop) → Prop := fun o i v H Q => ∃ p xs k j, o = .ref p ∧ i = .int k ∧ H p = some (.lst xs) ∧ ixN xs.length k = some j ∧ Q (upd H p (.lst (xs.set j v)))
theorem set_list : PSet X rSetL := by
  intro pins s σ H o i v ov iv u Q I ro ri rv h
  obtain ⟨p, xs, k, j, rfl, rfl, hp, hj, q⟩ := h
  cases ro
  obtain ⟨t, rfl⟩ := ri
  obtain ⟨its, n, r, ho, hz⟩ := I.lst hp
  obtain ⟨h1, h2, h3, h4⟩ := ixN_seq hj
  have hl := r.length
  have hn := line63
  have I' : Inv X pins σ (upd H p (.lst (xs.set j v))) { s with heap := s.heap.update p (Obj.mapSeq (·.setIfInBounds j u)) } :=
    I.lstUpd hp ho (mapSeq_set its n j u) (r.set rv j) (by rw [List.length_set]; exact hz) s.toks
  by_cases h0 : 0 ≤ k
  · have hk : k.toNat = j := by
      rw [seqIndex_of h0 h4] at h1
      exact Option.some.inj h1
    exact PySem.W.ki_setAt ho h0 (by trivial) (by rw [List.size_toArray, ← hl]; exact h4) (by rw [hk]; exact ⟨_, I', q⟩)
  · have hk : (k + (its.toArray.size : Int)).toNat = j := by
      rw [seqIndex_neg (by trivial) h3] at h1
      rw [List.size_toArray, ← hl]
      exact Option.some.inj h1
    exact PySem.W.ki_setBack ho (by trivial) (by rw [List.size_toArray, ← hl]; exact h3) (by trivial) (by rw [hk]; exact ⟨_, I', q⟩)
theorem slice_bounds (lo hi : Option Int) (n : Nat) : (sliceBounds lo hi none n).1 = ((HT.sIx n 0 lo : Nat) : Int) ∧ (sliceBounds lo hi none n).2.1 = ((HT.sIx n n hi : Nat) : Int) ∧ (sliceBounds lo hi none n).2.2 = 1 := by
  refine ⟨?_, ?_, rfl⟩
  · cases lo with
    | none => simp [sliceBounds, HT.sIx]
    | some i =>
      simp only [sliceBounds, HT.sIx, Option.getD_none, show (1 : Int) > 0 by decide, if_true]
      by_cases h : i < 0
      · simp only [h, if_true] <;> trivial
      · simp only [h, if_false] <;> trivial
  · cases hi with
    | none => simp [sliceBounds, HT.sIx]
    | some i =>
      simp only [sliceBounds, HT.sIx, Option.getD_none, show (1 : Int) > 0 by decide, if_true]
      by_cases h : i < 0
      · simp only [h, if_true] <;> trivial
      · simp only [h, if_false] <;> trivial
theorem slicePick_cut (its : List Value) (lo hi : Option Int) : slicePick its.toArray lo hi none = ((its.drop (HT.sIx its.length 0 lo)).take (HT.sIx its.length its.length hi - HT.sIx its.length 0 lo)).toArray := by
  obtain ⟨h1, h2, h3⟩ := slice_bounds lo hi its.toArray.size
  unfold slicePick
  rw [h1, h2, h3]
  simp only [sliceRange_one, pick_run, List.size_toArray] <;> rfl
noncomputable def rSlL (K : PySem.W.Frag) : V → Option Int → Option Int → Hp → VK → Prop := fun x lo hi H Q => ∃ a xs, x = .ref a ∧ SqL K H a xs ∧ ∀ p, H p = none → Q (.ref p) (upd H p (.lst (cutV xs lo hi)))
theorem sl_list : SlR X (rSlL X.K) := by
  intro pins s σ H x v vl vu lo hi sl Q I rx hs pl pu h
  obtain ⟨a, xs, rfl, hx, q⟩ := h
  cases rx
  obtain ⟨its, r, ht, hz⟩ := I.list hx
  have hlen := r.length
  refine ⟨"list", _, slot_list_getitem.lookup, ht.isList.typeIs, ?_⟩
  refine wpAny_getItem_list_slice ht.isList hs pl pu .none (by simp) ?_ (by rw [List.size_toArray] <;> trivial)
  rw [slicePick_cut, ← hlen]
  refine ⟨.ref s.heap.objs.size, _, I.laid (t' := s.toks) (o := .lst (cutV xs lo hi)) (fun b ob q => Heap.get?_push_of_some _ q) (Nat.le_refl _) ?_, rfl, q _ (I.hok.fresh (Nat.le_refl _))⟩
  exact ⟨Nat.le_trans (cutV_length xs lo hi) hz, _, 0, (r.drop (HT.sIx xs.length 0 lo)).take (HT.sIx xs.length xs.length hi - HT.sIx xs.length 0 lo), Heap.get?_push_size _ rfl⟩
theorem call_len_seq : CallR X (.builtin "len") (fun xs H Q => ∃ p ys, xs = [.ref p] ∧ (SqL X.K H p ys ∨ SqT X.K H p ys) ∧ Q (.int ys.length) H) := by
  intro pins s σ H xs us Q I r h
  obtain ⟨p, ys, rfl, hq, q⟩ := h
  obtain ⟨u, rfl, rx⟩ := vals1 r
  cases rx
  have hn := line63
  rcases hq with hq | hq
  · obtain ⟨its, r', pl, hz⟩ := I.list hq
    have hlen := r'.length
    exact Calls.call_len_list pl.isList (by simp only [List.size_toArray] <;> trivial) ⟨.int ys.length, H, I.tok _, ⟨s.toks + 1, by rw [List.size_toArray, hlen]⟩, q⟩
  · obtain ⟨its, r', pl, hz⟩ := I.tuple hq
    have hlen := r'.length
    exact len_tuple pl (by simp only [List.size_toArray] <;> trivial) ⟨.int ys.length, H, I.tok _, ⟨s.toks + 1, by rw [List.size_toArray, hlen]⟩, q⟩
theorem call_list_of : CallR X (.type "list") (fun xs H Q => ∃ p ys, xs = [.ref p] ∧ (SqL X.K H p ys ∨ SqT X.K H p ys) ∧ ∀ l, H l = none → Q (.ref l) (upd H l (.lst ys))) := by
  intro pins s σ H xs us Q I r h
  obtain ⟨p, ys, rfl, hq, q⟩ := h
  obtain ⟨u, rfl, rx⟩ := vals1 r
  cases rx
  have fin : ∀ (its : List Value), Vals ys its → ys.length ≤ sizeLine → ∀ (h' : Heap) (c' : Nat), (∀ b o', s.heap.get? b = some o' → h'.get? b = some o') →
      h'.get? s.heap.objs.size = some { cls := .type "list", dict := none, data := .seq its.toArray c', slots := #[] } → EP X pins σ Q (.ref s.heap.objs.size) { s with heap := h' } := fun its r' hz h' c' kp e =>
    ⟨.ref s.heap.objs.size, _, I.laid (t' := s.toks) kp (Nat.le_refl _) (show ObjOk X.prog X.w _ h' _ (.lst ys) from ⟨hz, its, c', r', e⟩), rfl, q _ (I.hok.fresh (Nat.le_refl _))⟩
  rcases hq with hq | hq
  · obtain ⟨its, r', pl, hz⟩ := I.list hq
    have hlen := r'.length
    obtain ⟨o, ho, hc, n, hd⟩ := pl.isList
    exact call_list_seq p (.inl rfl) ho hc hd (fun h' c' kp e => fin its r' hz h' c' kp e) (by simp only [List.size_toArray] <;> trivial)
  · obtain ⟨its, r', pl, hz⟩ := I.tuple hq
    have hlen := r'.length
    obtain ⟨o, ho, hc, n, hd⟩ := pl
    exact call_list_seq p (.inr rfl) ho hc hd (fun h' c' kp e => fin its r' hz h' c' kp e) (by simp only [List.size_toArray] <;> trivial)
noncomputable def tyV (K : PySem.W.Frag) (T : String) (x : V) (H : Hp) : Prop := match x with
  | .str _ => T = "str"
  | .int _ => T = "int"
  | .ref p => (T = "list" ∧ ∃ xs, SqL K H p xs) ∨ (T = "tuple" ∧ ∃ o, K.lookup p = some o ∧ o.cls = .type "tuple" ∧ o.dict = none) ∨
      (T = "dict" ∧ ((∃ kvs, H p = some (.dK kvs)) ∨ ∃ kvs, H p = some (.dT kvs))) ∨ (T = "set" ∧ ∃ S n, H p = some (.set S n))
  | _ => False
theorem tyV_is {pins : List (Addr × Obj)} {σ : St} {H : Hp} {s : Shared} {T : String} {x : V} {v : Value} (I : Inv X pins σ H s) (r : RelV x v) (ty : tyV X.K T x H) :
    s.TypeIs v T ∧ ∀ a, v = .ref a → ∃ ob, s.heap.get? a = some ob ∧ ob.dict = none := by
  cases x with
  | str z =>
    obtain ⟨t, rfl⟩ := r
    cases (show T = "str" from ty)
    exact ⟨typeIs_str s z t, fun _ e => nomatch e⟩
  | int i =>
    obtain ⟨t, rfl⟩ := r
    cases (show T = "int" from ty)
    exact ⟨typeIs_int s i t, fun _ e => nomatch e⟩
  | ref p =>
    cases r
    rcases ty with ⟨rfl, xs, hq⟩ | ⟨rfl, o, hk, hc, hd⟩ | ⟨rfl, hk⟩ | ⟨rfl, S, n, hk⟩
    · obtain ⟨its, _, pl, _⟩ := I.list hq
      refine ⟨pl.isList.typeIs, fun a e => ?_⟩
      cases e
      obtain ⟨o, n, e, c, hd, _⟩ := pl
      exact ⟨o, e, hd⟩
    · refine ⟨⟨o, I.kIn p o hk, hc⟩, fun a e => ?_⟩
      cases e
      exact ⟨o, I.kIn _ o hk, hd⟩
    · have z : ∃ o, s.heap.get? p = some o ∧ o.ExactDict := by
        rcases hk with ⟨kvs, hk⟩ | ⟨kvs, hk⟩
        · obtain ⟨_, _, _, _, o, _, _, e, ex, _⟩ := I.hok p _ hk
          exact ⟨o, e, ex⟩
        · obtain ⟨_, _, _, _, o, _, _, e, ex, _⟩ := I.hok p _ hk
          exact ⟨o, e, ex⟩
      obtain ⟨o, e, ex⟩ := z
      refine ⟨⟨o, e, ex.1⟩, fun a e2 => ?_⟩
      cases e2
      exact ⟨o, e, ex.2.1⟩
    · obtain ⟨o, _, _, _, e, ex, _⟩ := I.hok p _ hk
      refine ⟨⟨o, e, ex.1⟩, fun a e2 => ?_⟩
      cases e2
      exact ⟨o, e, ex.2.1⟩
  | _ => exact False.elim ty
noncomputable def tBM0 (K : PySem.W.Frag) (T : String) (r : V → List V → Hp → VK → Prop) (to : TE) : TE := fun σ H Q => to σ H fun x H1 => tyV K T x H1 ∧ r x [] H1 Q
noncomputable def tBM (K : PySem.W.Frag) (T : String) (r : V → List V → Hp → VK → Prop) (to : TE) (t : TA) : TE := fun σ H Q => to σ H fun x H1 => tyV K T x H1 ∧ t σ H1 fun xs H2 => r x xs H2 Q
variable {o e : Expr} {es : List Expr} {to : TE} {t : TA} {name : Str} {apos cpos : Pos} {T id : String} {r : V → List V → Hp → VK → Prop}
theorem pe_bm0 (pa : PlainAttrs T) (slot : Slot T name id) (hty : typeOf (.builtin id) = pure (.type "method_descriptor")) (hm : MtR X id r) (ho : PE X o to)
    (hbase : attributeBase o name X.env (eval o X.env) = eval o X.env := by rfl) (hline : (apos.endLine == cpos.line) = true := by rfl) : PE X (.Call (.Attribute o name apos) [] [] cpos) (tBM0 X.K T r to) := by
  intro pins s σ H Q I h
  refine wpAny_Call_method0_late hbase hline (thn (ho pins s σ H _ I h) fun v s1 ⟨x, H1, I1, r1, ty, q1⟩ => ?_)
  obtain ⟨h1, h2⟩ := tyV_is I1 r1 ty
  exact ⟨T, id, pa, slot, hty, h1, h2, Calls.callWith_builtin rfl (PySem.evalArgs_none (hm pins s1 σ H1 x [] v [] Q I1 r1 .nil q1))⟩
theorem pe_bm (pa : PlainAttrs T) (slot : Slot T name id) (hty : typeOf (.builtin id) = pure (.type "method_descriptor")) (hm : MtR X id r) (ho : PE X o to) (ha : PA X (e :: es) t)
    (hbase : attributeBase o name X.env (eval o X.env) = eval o X.env := by rfl)
    (hfew : ((backTo cpos (starEach (e :: es) X.env)).all (fun x => !x.1) && (backToKw cpos (keywordEach [] X.env)).all (fun x => x.1.isSome)
      && decide ((e :: es).length + ([] : List Keyword).length + (if ([] : List Keyword).isEmpty then 0 else 1) < 30)) = true := by rfl)
    (hline : (apos.endLine == cpos.line) = true := by rfl) (hs : starEach (e :: es) X.env = (false, eval e X.env) :: starEach es X.env := by rfl) (hplain : (backTo cpos (starEach es X.env)).any (·.1) = false := by rfl) :
    PE X (.Call (.Attribute o name apos) (e :: es) [] cpos) (tBM X.K T r to t) := by
  intro pins s σ H Q I h
  refine wpAny_Call_method_late hbase hfew hline rfl (thn (ho pins s σ H _ I h) fun v s1 ⟨x, H1, I1, r1, ty, q1⟩ => ?_)
  obtain ⟨h1, h2⟩ := tyV_is I1 r1 ty
  refine ⟨T, id, pa, slot, hty, h1, h2, ?_⟩
  have hA := ha cpos pins s1 σ H1 _ I1 q1
  rw [hs] at hA ⊢
  refine Calls.callWith_builtin (by show (false || (backTo cpos (starEach es X.env)).any (·.1)) = false; rw [hplain] <;> rfl) (Calls.evalArgs_plain ?_)
  exact thn hA fun us s2 ⟨vs, H2, I2, r2, q2⟩ => hm pins s2 σ H2 x vs v us Q I2 r1 r2 q2
/- xs.append(e), list.index on a module's tuple .. are MtR facts of 06m -/
end
end L2
namespace L2
open PySem PySem.Spec PyProof.Rows
noncomputable def MtM (X : Cx) (id : String) (r : V → List V → Hp → VK → Prop) : Prop :=
  ∀ (pins : List (Addr × Obj)) (s : Shared) (σ : St) (H : Hp) (x : V) (xs : List V) (v : Value) (us : List Value) (Q : VK), Inv X pins σ H s → RelV x v → Vals xs us → r x xs H Q →
    wpAny (model X.prog X.w) X.A (call (.builtin id) (v :: us)) (EP X pins σ Q) X.xe s
theorem Vals.one : ∀ {x : V} {us : List Value}, Vals [x] us → ∃ u, us = [u] ∧ RelV x u
  | _, _, .cons r .nil => ⟨_, rfl, r⟩
theorem Vals.two : ∀ {x y : V} {us : List Value}, Vals [x, y] us → ∃ u v, us = [u, v] ∧ RelV x u ∧ RelV y v
  | _, _, _, .cons r (.cons q .nil) => ⟨_, _, rfl, r, q⟩
theorem Vals.zero : ∀ {us : List Value}, Vals [] us → us = []
  | _, .nil => rfl
theorem Vals.dropLast {xs : List V} {us : List Value} (h : Vals xs us) : Vals xs.dropLast us.dropLast := by
  induction h with
  | nil => exact .nil
  | cons r t ih =>
    cases t with
    | nil => exact .nil
    | cons q t' => exact .cons r ih
theorem Vals.reverse {xs : List V} {us : List Value} (h : Vals xs us) : Vals xs.reverse us.reverse := by
  induction h with
  | nil => exact .nil
  | cons r t ih => rw [List.reverse_cons, List.reverse_cons]; exact Vals.append ih (.cons r .nil)
theorem Vals.rep {xs : List V} {us : List Value} (h : Vals xs us) : ∀ k : Nat, Vals (List.replicate k xs).flatten (List.replicate k us).flatten
  | 0 => .nil
  | k + 1 => by
    rw [List.replicate_succ, List.replicate_succ, List.flatten_cons, List.flatten_cons]
    exact Vals.append h (Vals.rep h k)
theorem erase_last {α : Type} (l : List α) : l.eraseIdx (l.length - 1) = l.dropLast := by
  induction l with
  | nil => rfl
  | cons a r ih =>
    cases r with
    | nil => rfl
    | cons b r =>
      have e : (a :: b :: r).length - 1 = ((b :: r).length - 1) + 1 := by
        have h1 : (a :: b :: r).length = r.length + 2 := rfl
        have h2 : (b :: r).length = r.length + 1 := rfl
        trivial
      rw [e, List.eraseIdx_cons_succ, ih]
      all_goals rfl
theorem foldl_rep (its : List Value) : ∀ (k : Nat) (acc : List Value),
    List.foldl (fun x1 x2 => x1 ++ x2) acc.toArray (List.replicate k its.toArray) = (acc ++ (List.replicate k its).flatten).toArray
  | 0, acc => by simp
  | k + 1, acc => by
    have e : acc.toArray ++ its.toArray = (acc ++ its).toArray := by simp
    have e2 : (acc ++ its) ++ (List.replicate k its).flatten = acc ++ (List.replicate (k + 1) its).flatten := by
      rw [List.replicate_succ, List.flatten_cons, List.append_assoc]
    rw [← e2, ← foldl_rep its k (acc ++ its), ← e, List.replicate_succ, List.foldl_cons]
section
variable {X : Cx} {pins : List (Addr × Obj)} {σ : St} {H : Hp} {s : Shared} {l b : Addr} {xs ys zs : List V}
theorem Inv.lset {its its' : List Value} {n : Nat} {f : Array Value → Array Value} {t' : Nat} (I : Inv X pins σ H s) (hH : H l = some (.lst xs))
    (e : s.heap.get? l = some { cls := .type "list", data := .seq its.toArray n }) (hf : f its.toArray = its'.toArray) (hv : Vals ys its') (hz : ys.length ≤ sizeLine) :
    Inv X pins σ (upd H l (.lst ys)) { s with heap := s.heap.update l (Obj.mapSeq f), toks := t' } := by
  have q := PySem.IsL.update e f
  rw [hf] at q
  refine I.write (x := l) (e := l) (by rw [hH]; exact trivial) (.inl rfl) (fun b' u hb hu => (Heap.get?_update_other s.heap (Obj.mapSeq f) (Ne.symm hb)).trans hu) ⟨_, q⟩ ?_
  exact ⟨hz, its', _, hv, q⟩
theorem Inv.lnew {its : List Value} {t' : Nat} (I : Inv X pins σ H s) (hv : Vals ys its) (hz : ys.length ≤ sizeLine) :
    Inv X pins σ (upd H s.heap.objs.size (.lst ys)) { s with heap := s.heap.push { cls := .type "list", data := .seq its.toArray }, toks := t' } :=
  I.laid (fun _ _ q => Heap.get?_push_of_some _ q) (Nat.le_refl _) ⟨hz, its, 0, hv, Heap.get?_push_size _ rfl⟩
theorem Inv.fresh (I : Inv X pins σ H s) : H s.heap.objs.size = none := I.hok.fresh (Nat.le_refl _)
theorem Inv.lstM (I : Inv X pins σ H s) (hH : H l = some (.lst xs)) : xs.length ≤ sizeLine ∧ ∃ (its : List Value) (n : Nat), Vals xs its ∧ xs.length = its.length ∧ s.heap.get? l = some { cls := .type "list", data := .seq its.toArray n } := by
  obtain ⟨z, its, n, r, e⟩ := I.hok l _ hH
  exact ⟨z, its, n, r, r.length, e⟩
theorem notLongL {n : Nat} (h : n ≤ sizeLine) : Builtin.List.listTooLong n = false := by
  unfold Builtin.List.listTooLong
  exact decide_eq_false (by trivial)
end
section
variable {X : Cx}
noncomputable def rAppend : V → List V → Hp → VK → Prop := fun x vs H Q => ∃ l xs y, x = .ref l ∧ vs = [y] ∧ H l = some (.lst xs) ∧ xs.length < sizeLine ∧ Q .non (upd H l (.lst (xs ++ [y])))
theorem mt_append : MtM X "list.append" rAppend := by
  intro pins s σ H x vs v us Q I rx rv h
  obtain ⟨l, xs, y, rfl, rfl, hH, hz, q⟩ := h
  cases rx
  obtain ⟨u, rfl, ru⟩ := rv.one
  obtain ⟨z, its, n, r, hl, e⟩ := I.lstM hH
  refine call_meets F.slot_list_append ⟨_, e, rfl⟩ F.entry_list_append (F.args_list_append_2 _ _) (PySem.list_append l its.toArray n u (by rw [List.size_toArray]; trivial)) ⟨e, ?_⟩
  refine ⟨.non, _, I.lset (its' := its ++ [u]) hH e (by simp) (r.append (.cons ru .nil)) ?_, rfl, q⟩
  rw [List.length_append, List.length_singleton]
  trivial
noncomputable def rExtend : V → List V → Hp → VK → Prop := fun x vs H Q => ∃ l b xs zs, x = .ref l ∧ vs = [.ref b] ∧ H l = some (.lst xs) ∧ H b = some (.lst zs) ∧ xs.length + zs.length ≤ sizeLine ∧ Q .non (upd H l (.lst (xs ++ zs)))
theorem mt_extend : MtM X "list.extend" rExtend := by
  intro pins s σ H x vs v us Q I rx rv h
  obtain ⟨l, b, xs, zs, rfl, rfl, hH, hB, hz, q⟩ := h
  cases rx
  obtain ⟨u, rfl, ru⟩ := rv.one
  cases ru
  obtain ⟨z, its, n, r, hl, e⟩ := I.lstM hH
  obtain ⟨z2, its2, n2, r2, hl2, e2⟩ := I.lstM hB
  have hsz : its.toArray.size + its2.toArray.size ≤ sizeLine := by rw [List.size_toArray, List.size_toArray]; trivial
  have hlong : ¬ (!its.toArray.isEmpty && Builtin.List.listTooLong (its.toArray.size + its2.toArray.size)) = true := by
    rw [notLongL hsz, Bool.and_false]
    exact Bool.false_ne_true
  refine call_meets F.slot_list_extend ⟨_, e, rfl⟩ F.entry_list_extend (F.args_list_extend_2 _ _)
    (AutoSeq1.list_extend_list_list_0 l its.toArray n b its2.toArray n2 hlong (by rw [List.size_toArray]; trivial) (by trivial)) ⟨e, e2, ?_⟩
  refine ⟨.non, _, I.lset (its' := its ++ its2) hH e (by simp) (r.append r2) ?_, rfl, q⟩
  rw [List.length_append]
  trivial
noncomputable def rPop : V → List V → Hp → VK → Prop := fun x vs H Q => ∃ l xs y, x = .ref l ∧ vs = [] ∧ H l = some (.lst xs) ∧ xs[xs.length - 1]? = some y ∧ Q y (upd H l (.lst xs.dropLast))
theorem mt_pop : MtM X "list.pop" rPop := by
  intro pins s σ H x vs v us Q I rx rv h
  obtain ⟨l, xs, y, rfl, rfl, hH, hy, q⟩ := h
  cases rx
  have hus := rv.zero
  subst hus
  obtain ⟨z, its, n, r, hl, e⟩ := I.lstM hH
  obtain ⟨u, hu, ru⟩ := r.get hy
  have hy' : its.toArray[its.toArray.size - 1]? = some u := by
    show its.toArray[its.length - 1]? = some u
    rw [← Array.getElem?_toList, ← hl]
    exact hu
  refine call_meets F.slot_list_pop ⟨_, e, rfl⟩ F.entry_list_pop (F.args_list_pop_1 _) (MeetsSeq.list_pop_last l its.toArray n u hy' (by rw [List.size_toArray]; trivial)) ⟨e, ?_⟩
  refine ⟨y, _, I.lset (its' := its.dropLast) hH e ?_ r.dropLast ?_, ru, q⟩
  · show its.toArray.eraseIdxIfInBounds (its.toArray.size - 1) = its.dropLast.toArray
    rw [List.size_toArray, List.eraseIdxIfInBounds_toArray, erase_last]
  · rw [List.length_dropLast]
    trivial
noncomputable def rReverse : V → List V → Hp → VK → Prop := fun x vs H Q => ∃ l xs, x = .ref l ∧ vs = [] ∧ H l = some (.lst xs) ∧ Q .non (upd H l (.lst xs.reverse))
theorem mt_reverse : MtM X "list.reverse" rReverse := by
  intro pins s σ H x vs v us Q I rx rv h
  obtain ⟨l, xs, rfl, rfl, hH, q⟩ := h
  cases rx
  have hus := rv.zero
  subst hus
  obtain ⟨z, its, n, r, hl, e⟩ := I.lstM hH
  refine call_meets F.slot_list_reverse ⟨_, e, rfl⟩ F.entry_list_reverse (F.args_list_reverse_1 _) (AutoSeq1.list_reverse_list_0 l its.toArray n (by rw [List.size_toArray]; trivial)) ⟨e, ?_⟩
  refine ⟨.non, _, I.lset (its' := its.reverse) hH e (by simp) r.reverse ?_, rfl, q⟩
  rw [List.length_reverse]
  trivial
noncomputable def rCat : R2 := fun x y H Q => ∃ l b xs zs, x = .ref l ∧ y = .ref b ∧ H l = some (.lst xs) ∧ H b = some (.lst zs) ∧ xs.length + zs.length ≤ sizeLine ∧ ∀ p, H p = none → Q (.ref p) (upd H p (.lst (xs ++ zs)))
theorem op_cat : OpR X (binaryOp .Add) rCat := by
  intro pins s σ H x y v u Q I rx ry h
  obtain ⟨l, b, xs, zs, rfl, rfl, hH, hB, hz, q⟩ := h
  cases rx
  cases ry
  obtain ⟨z, its, n, r, hl, e⟩ := I.lstM hH
  obtain ⟨z2, its2, n2, r2, hl2, e2⟩ := I.lstM hB
  refine PySem.P.add_list e e2 ?_ (by rw [List.size_toArray, List.size_toArray]; trivial)
  have ea : its.toArray ++ its2.toArray = (its ++ its2).toArray := by simp
  rw [ea]
  exact ⟨.ref _, _, I.lnew (t' := s.toks) (r.append r2) (by rw [List.length_append]; trivial), rfl, q _ I.fresh⟩
noncomputable def rRep : R2 := fun x y H Q => ∃ l k xs, x = .ref l ∧ y = .int k ∧ H l = some (.lst xs) ∧ -(2 ^ 63) ≤ k ∧ k < 2 ^ 63 ∧ xs.length * k.toNat ≤ sizeLine ∧
  ∀ p, H p = none → Q (.ref p) (upd H p (.lst (List.replicate k.toNat xs).flatten))
theorem len_rep {α : Type} (xs : List α) (k : Nat) : (List.replicate k xs).flatten.length = k * xs.length := by
  induction k with
  | zero => simp
  | succ k ih => rw [List.replicate_succ, List.flatten_cons, List.length_append, ih, Nat.succ_mul, Nat.add_comm]
theorem op_rep : OpR X (binaryOp .Mult) rRep := by
  intro pins s σ H x y v u Q I rx ry h
  obtain ⟨l, k, xs, rfl, rfl, hH, h1, h2, hz, q⟩ := h
  cases rx
  obtain ⟨t, rfl⟩ := ry
  obtain ⟨z, its, n, r, hl, e⟩ := I.lstM hH
  have hlen : its.toArray.size * k.toNat ≤ sizeLine := by rw [List.size_toArray, ← hl]; exact hz
  have hcap : ¬ its.toArray.size * k.toNat > (2 ^ 63 - 1) / 8 := by
    have : (sizeLine : Nat) ≤ (2 ^ 63 - 1) / 8 := by decide
    trivial
  have hfit : ¬ (!Builtin.List.listFitsIndex k) = true := by
    rw [fitsIndex_both h1 h2]
    exact Bool.false_ne_true
  have hlong : ¬ Builtin.List.listTooLong (its.toArray.size * k.toNat) = true := by
    rw [notLongL hlen]
    exact Bool.false_ne_true
  have hnew : List.foldl (fun x1 x2 => x1 ++ x2) #[] (List.replicate (if its.toArray.isEmpty = true then 0 else k.toNat) its.toArray) = (List.replicate k.toNat its).flatten.toArray := by
    have f0 : ∀ m : Nat, List.foldl (fun x1 x2 => x1 ++ x2) #[] (List.replicate m its.toArray) = (List.replicate m its).flatten.toArray := fun m => by
      have := foldl_rep its m []
      rw [List.nil_append] at this
      exact this
    rw [f0]
    cases its with
    | nil => simp
    | cons a r' => rw [if_neg (by simp)]
  refine wpAny_binaryOp_repeat_ref (T := "list") (U := "int") (by decide) ⟨_, e, rfl⟩ (fun s' => typeIs_int s' k t) noFill_list_mul F.fills_int_mul F.slot_int_rmul repeat_list F.slot_int_index.lookup
    (call_meets F.slot_int_rmul (typeIs_int s k t) F.entry_int_rmul (F.args_int_rmul_2 _ _) (int___rmul___int_list k t l its.toArray n)
      ⟨e, rfl, ⟨_, e, rfl⟩, call_meets F.slot_list_mul ⟨_, e, rfl⟩ F.entry_list_mul (F.args_list_mul_2 _ _) (AutoListH.list___mul___list_int_3 l its.toArray n k t hfit hcap hlong) ⟨e, ?_⟩⟩)
  rw [hnew]
  exact ⟨.ref _, _, I.lnew (t' := s.toks) (r.rep k.toNat) (by rw [len_rep, Nat.mul_comm]; exact hz), rfl, q _ I.fresh⟩
end
section
variable {prog : Program} {w : World} {A : Around} {E : Value → Shared → Prop} {s : Shared}
theorem bounds_run {a c n : Nat} (hac : a ≤ c) (hc : c ≤ n) : sliceBounds (some (a : Int)) (some (c : Int)) none n = ((a : Int), (c : Int), 1) := by
  simp only [sliceBounds, Option.getD_none]
  have h1 : ¬ ((a : Int) < 0) := by trivial
  have h2 : ¬ ((c : Int) < 0) := by trivial
  simp only [h1, h2, if_false, show (1 : Int) > 0 by decide, if_true]
  congr 1
  · trivial
  · congr 1; trivial
set_option maxRecDepth 100000 in
theorem setItem_slice {l b sl : Addr} {items new : Array Value} {n n2 : Nat} {vl vu : Value} {a c : Nat} {Q : Unit → Shared → Prop}
    (e : s.heap.get? l = some { cls := .type "list", data := .seq items n }) (e2 : s.heap.get? b = some { cls := .type "list", data := .seq new n2 }) (hne : l ≠ b)
    (hs : s.heap.IsSliceOf sl vl vu .none) (pl : IsPart vl (some (a : Int))) (pu : IsPart vu (some (c : Int))) (hac : a ≤ c) (hc : c ≤ items.size)
    (hsz : items.size + new.size ≤ sizeLine) (h : Q () { s with heap := s.heap.update l (Obj.mapSeq fun xs => xs.extract 0 a ++ new ++ xs.extract c xs.size) }) :
    wpAny (model prog w) A (setItem (.ref l) (.ref sl) (.ref b)) Q E s := by
  have hl : s.heap.IsList l items := PySem.IsL.isList e
  have hb : s.heap.IsList b new := PySem.IsL.isList e2
  obtain ⟨os, hos, hcs, hds⟩ := id hs
  have hTs : s.TypeIs (.ref sl) "slice" := ⟨os, hos, hcs⟩
  have hstep : ¬ ((rawPart none == rawInt 0) = true) := Bool.false_ne_true
  have hsame : Builtin.List.listSameRef (.ref l) (.ref b) = false := by
    unfold Builtin.List.listSameRef
    exact beq_eq_false_iff_ne.mpr hne
  have hmax : (max (a : Int) (c : Int)).toNat = c := by trivial
  have hz' : ((fun xs : Array Value => xs.extract 0 a ++ new ++ xs.extract c xs.size) items).size ≤ sizeLine + 1 := by
    simp only [Array.size_append, Array.size_extract]
    trivial
  unfold setItem
  try with_reducible refine wpAny_holding ?_
  first | refine wpAny_bind (wpAny_pure ?_) | skip
  refine wpAny_bind (wpAny_sequenceKey hl.typeIs (by decide) ?_)
  refine wpAny_bind (wpAny_callSpecial?_slot (name := Str.ofString "__setitem__") hl.typeIs slot_list_setitem
    (wpAny_call_entry slot_list_setitem hl.typeIs entry_list_setitem ?_ (args_list_setitem _ _ _)))
  show wpAny _ _ (Builtin.List.listSubscript? (.ref sl) >>= _) _ _ s
  refine wpAny_bind ?_
  unfold Builtin.List.listSubscript?
  refine wpAny_bind (wpAny_specialOf hTs slice_no_index ?_)
  simp only [Option.isNone_none, if_true]
  refine wpAny_pure ?_
  show wpAny _ _ (typeOf (.ref sl) >>= _) _ _ s
  refine wpAny_bind (wpAny_typeOf hTs ?_)
  first
    | rw [if_neg (by decide)]
    | refine PySem.W.KFB.if_not (by decide) ?_
  rw [listSliceParts_eq]
  refine wpAny_bind (wpAny_bind (wpAny_field hos hds (x := .none) rfl (wpAny_bind (wpAny_listPart .none ?_))))
  rw [if_neg hstep]
  refine wpAny_bind (wpAny_field hos hds (x := vl) rfl (wpAny_bind (wpAny_listPart pl ?_)))
  refine wpAny_bind (wpAny_field hos hds (x := vu) rfl (wpAny_bind (wpAny_listPart pu (wpAny_pure ?_))))
  first
    | simp only [hsame, Bool.false_eq_true, if_false]
    | refine PySem.W.KFB.if_not hsame ?_
    | (dsimp only
       rw [if_neg (by rw [hsame]; exact Bool.false_ne_true)])
  refine wpAny_bind (m := Builtin.List.listAllItems (.ref b) "must assign iterable to extended slice") ?_
  unfold Builtin.List.listAllItems
  refine wpAny_bind (wpAny_typeOf hb.typeIs ?_)
  first
    | refine PySem.W.KFB.if_so (by decide) ?_
    | rw [if_pos (by decide)]
    | simp only [beq_self_eq_true, Bool.true_or, if_true]
  unfold Builtin.List.listItems
  refine wpAny_bind (wpAny_seqItems e2 rfl (wpAny_pure ?_))
  refine wpAny_bind (wpAny_bind (wpAny_seqItems e rfl (wpAny_pure ?_)))
  refine wpAny_bind (wpAny_of_eq ((sliceIndices_raw (some (a : Int)) (some (c : Int)) none items.size (by simp)).trans (congrArg (pure : Int × Int × Int → Sem (Int × Int × Int)) (bounds_run hac hc))) ?_)
  show wpAny _ _ (if ((1 : Int) == 1) = true then _ else _) _ _ s
  rw [if_pos (by decide)]
  refine wpAny_bind (wpAny_rule ?_)
  first
    | simp only [notLongL hsz, Bool.false_eq_true, if_false]
    | refine PySem.W.KFB.if_not (notLongL hsz) ?_
  first | refine wpAny_bind (wpAny_pure ?_) | skip
  show wpAny _ _ (updateSeq l (fun xs => xs.extract 0 ((a : Int)).toNat ++ new ++ xs.extract (max (a : Int) (c : Int)).toNat xs.size) >>= _) _ _ s
  rw [hmax, Int.toNat_natCast]
  refine wpAny_bind (wpAny_updateSeq (hz := Nat.le_trans (Nat.le_add_right _ _) hsz) (_hz' := hz') e rfl ?_)
  refine wpAny_bind (wpAny_letGo ?_)
  first
    | exact wpAny_bind (wpAny_pure (wpAny_pure ⟨.none, rfl, wpAny_pure h⟩))
    | exact wpAny_pure ⟨.none, rfl, wpAny_pure h⟩
end
section
variable {X : Cx}
end
end L2
namespace Att
open PySem PySem.W PySem.Calls PyProof.Rows
theorem ints_of_wellAll {P : Params} {h : Heap} : ∀ (ns : List Int) (vs : List Value), WellAll P h vs (ns.map WData.int) → IntsAre vs ns := by
  intro ns
  induction ns with
  | nil =>
    intro vs w
    rw [List.map_nil] at w
    cases w
    exact .nil
  | cons n ns ih =>
    intro vs w
    rw [List.map_cons] at w
    cases w with
    | cons a b =>
      cases a
      exact .cons _ _ (ih _ b)
theorem script_of {l : OpenLaw} {n : Nat} (hn : l.most = some n) {P : Params} {h : Heap} {args : List WData} {vals : List Value}
    (hpre : l.row.toRowW.claim.pre args = true) (hwl : WellAll P h vals args) :
    ∃ a vs ns, vals = [Value.ref a] ∧ args = [WData.list (ns.map WData.int)] ∧ h.get? a = some { cls := .type "list", data := .seq vs.toArray } ∧ IntsAre vs ns ∧ ns.length ≤ n := by
  have hsh : WShape.hasAll [] args [.list .int] = true := (pre_splitW hpre).1
  have hc : l.pre.holds [] { args := args } = true := (pre_splitW hpre).2
  obtain ⟨d, r, rfl, h1, h2⟩ := hasAllW_cons hsh
  obtain rfl := hasAllW_nil h2
  obtain ⟨xs, rfl, h3⟩ := hasW_list h1
  obtain ⟨ns, rfl⟩ := items_int h3
  have hlen : ns.length ≤ n := by
    unfold OpenLaw.pre at hc
    have h4 : (WTm.not (.lt (.lit (.int (n : Int))) (.len (.arg 0)))).holds [] { args := [.list (ns.map .int)] } = true := by
      have h4 := (holds_andW hc).1
      rw [hn] at h4
      exact h4
    have h5 := condW_of h4 (w_not (w_lt w_lit (w_len_list (w_arg rfl))))
    rw [List.length_map] at h5
    refine Nat.le_of_not_lt fun q => ?_
    have q' : (n : Int) < ((ns.length : Nat) : Int) := by trivial
    first
      | (rw [decide_eq_true q'] at h5; exact absurd h5 (by decide))
      | (simp at h5; trivial)
  cases hwl with
  | cons w1 w2 =>
    cases w2
    cases w1 with
    | list ho hall => exact ⟨_, _, ns, rfl, rfl, ho, ints_of_wellAll ns _ hall, hlen⟩
theorem post_true (l : OpenLaw) (args : List WData) : l.row.toRowW.claim.post args (.bool true) args = true :=
  postW_of (r := l.row.toRowW) (X := (true == true))
    (show WShape.has [] (.bool true) .bool = true by first | rfl | decide | simp [WShape.has, WShape.arms, WShape.armsAll])
    (show (WTm.eq .res (.lit (.bool true))).value [] { args := args, res := some (.bool true), after := args } = some (.bool (true == true)) from w_eq_bool (w_res rfl) w_lit) rfl
theorem attach_call {l : OpenLaw} {n : Nat} {q : Program} {loose : List Str} {XP : (Str → Option Value) → Heap → Prop} {YP : World → Heap → Prop} {d : DefRec}
    (hn : l.most = some n) (hdf : d.params.defaults = [])
    (call : ∀ (w : World) (s₀ s₁ : Shared) (mg mb : Str → Option Value) (fa : Addr) (o : Obj) (pm cd doc : Value) (a : Addr) (vs : List Value) (ns : List Int),
      Ground q loose [] XP w s₀ mg mb s₁.heap → YP w s₁.heap →
      s₁.heap.get? fa = some o → o.data = .func (docDef d.name d.params d.body d.scope pm cd doc) → s₁.heap.CodeRec cd d.name → mg d.name = some (.ref fa) →
      s₁.heap.get? a = some { cls := .type "list", data := .seq vs.toArray } → IntsAre vs ns → ns.length ≤ n → s₁.gens = #[] →
      codeAny (model l.prog w) callerA (.call (.ref fa) ⟨[.ref a], []⟩) (fun r s' => r = .ok (.ret (.bool true)) ∧ OldK s₁.heap s'.heap ∧ s'.os = s₁.os ∧ AllBare s'.gens) s₁) :
    WalkO q loose XP YP l.row.toRowW d [] (fun f vs => PySem.call f vs) := by
  intro w s₀ s₁ mg mb G Y fa o pm cd doc dV kV ho hd hcd hD hmg hg args vals as hpre hlay hrd hwl hlo
  obtain rfl : dV = .none := Dflts.none hD hdf
  obtain rfl : kV = .none := Dflts.noKw hD
  obtain ⟨a, vs, ns, rfl, rfl, hobj, hints, hlen⟩ := script_of hn hpre hwl
  refine enter_call (codeAny_mono (call w s₀ s₁ mg mb fa o pm cd doc a vs ns G Y ho (fd_plain hd) hcd hmg hobj hints hlen hg) fun r s' hq => ?_)
  obtain ⟨rfl, h2, h3, h4⟩ := hq
  exact ⟨.inl ⟨.bool true, .bool true, [], rfl, fun _ => rfl, .bool true, post_true l _, fun _ => ⟨List.Pairwise.nil, fun _ hm => (nomatch hm)⟩⟩, h2, h3, h4⟩
section
variable {prog : Program} {w : World} {A : Around} {E : Value → Shared → Prop} {s : Shared} {K : Frag}
end
end Att
namespace L2
open PySem PySem.Spec PyProof.Rows
theorem vals_ints : ∀ {vs : List Value} {ns : List Int}, IntsAre vs ns → Vals (ns.map V.int) vs
  | _, _, .nil => .nil
  | _, _, .cons n t h => .cons ⟨t, rfl⟩ (vals_ints h)
noncomputable def Only (H : Hp) : Prop := ∀ b, H b = none ∨ ∃ o xs, H b = some (.frz o (.lst xs))
theorem law_call {P : Program} {w : World} {K : PySem.W.Frag} {mg mb : Str → Option Value} {CX : CXT} {k : Nat} {fa a : Addr} {fd : FuncData} {x : Str} {sp : Sp} {s₁ : Shared} {vs : List Value} {ns : List Int}
    (KX : K.In s₁.heap) (hns : s₁.heap.Ns mainGlobals mg) (hb : s₁.heap.Ns builtinsNs mb) (hbb : ∀ x : Str, x ≠ "__name__" → mb x = bootBuiltins x) (hlim : s₁.heap.NoLimit) (hg : s₁.gens = #[])
    (ha : s₁.heap.get? a = some { cls := .type "list", data := .seq vs.toArray }) (hi : IntsAre vs ns) (hl : ns.length ≤ sizeLine) (hr : Room k callerA)
    (F : ∀ base : Heap, K.In base → base.Ns mainGlobals mg → FnOk P w K mg base CX k fa fd [x] sp) (hbind : ∀ (s : Shared) (u : Value), BindsTo s fd ⟨[u], []⟩ [(x, u)])
    (hsp : ∀ H : Hp, Only H → SqL K H a (ns.map V.int) → sp [.ref a] H (fun v _ => v = .bl true) fun _ _ _ => False)
    (hCX : ∀ H e s', CX [] H s₁ (fun _ _ _ => False) e s' → False) :
    codeAny (model P w) callerA (.call (.ref fa) ⟨[.ref a], []⟩) (fun r s' => r = .ok (.ret (.bool true)) ∧ OldK s₁.heap s'.heap ∧ s'.os = s₁.os ∧ AllBare s'.gens) s₁ := by
  have rv := vals_ints hi
  have lenV := hi.length
  -- from an abstract heap in which nothing but the script may be tracked
  have core : ∀ H : Hp, Only H → SqL K H a (ns.map V.int) → HOk P w H s₁.heap → (∀ b, H b ≠ none → b = a) → (H a ≠ none → K.lookup a = none) →
      codeAny (model P w) callerA (.call (.ref fa) ⟨[.ref a], []⟩) (fun r s' => r = .ok (.ret (.bool true)) ∧ OldK s₁.heap s'.heap ∧ s'.os = s₁.os ∧ AllBare s'.gens) s₁ := by
    intro H hO hS hok hA hK
    have base_of : ∀ {b : Addr} {o : Obj}, s₁.heap.get? b = some o → H b = none → (hidT s₁.heap H).get? b = some o := fun e n => hidT_get e n
    have noA : ∀ {b : Addr} {o : Obj} {es : Array DictEntry} {ep : Nat}, s₁.heap.get? b = some o → o.data = .dict es ep → H b = none := fun {b o es ep} e d => by
      cases q : H b with
      | none => rfl
      | some u =>
        have e' : b = a := hA b (by rw [q]; simp)
        subst e'
        rw [ha] at e; cases e
        have d' : Data.seq vs.toArray _ = Data.dict es ep := d
        cases d'
    have nsK : ∀ {b : Addr} {m : Str → Option Value}, s₁.heap.Ns b m → (hidT s₁.heap H).Ns b m := fun {b m} ⟨o, es, ep, e, d, r⟩ => ⟨o, es, ep, base_of e (noA e d), d, r⟩
    have hKb : K.In (hidT s₁.heap H) := fun b o e => base_of (KX b o e) (by
      cases q : H b with
      | none => rfl
      | some u =>
        have e' : b = a := hA b (by rw [q]; simp)
        subst e'
        rw [hK (by rw [q]; simp)] at e; cases e)
    have hM : Mod K mg (hidT s₁.heap H) := ⟨hKb, nsK hns, ⟨mb, nsK hb, hbb⟩, let ⟨mc, h1, h2⟩ := hlim; ⟨mc, nsK h1, h2⟩⟩
    have e0 : Env0 P w K mg (hidT s₁.heap H) callerA [] s₁ H := ⟨rfl, hM, fun b o e => of_hidT e, Nat.le_of_eq (hidT_size _ _), trivial, fun b hb => absurd (show b ∈ ([] : List Addr) from hb) (by simp), hok, .of_eq hg⟩
    refine codeAny_mono ((F _ hKb (nsK hns)).run callerA [] s₁ H ⟨[.ref a], []⟩ [.ref a] [.ref a] _ _ hr e0 (hbind s₁ (.ref a)) (.cons rfl .nil) (hsp H hO hS)) fun r s' h => ?_
    cases r with
    | error e => exact (hCX H e s' h).elim
    | ok fl =>
      cases fl with
      | next => exact False.elim h
      | brk => exact False.elim h
      | cont => exact False.elim h
      | ret u =>
        obtain ⟨v, H', os, bare, un, hok', r', q⟩ := h
        have q' : v = .bl true := q
        subst q'
        obtain rfl : u = Value.bool true := r'
        refine ⟨rfl, OldK.of_keep fun b o e => ?_, os, bare⟩
        cases q : H b with
        | none => exact un.keep b o e q (by intro z; exact absurd (show b ∈ ([] : List Addr) from z) (by simp)) (by simp)
        | some u =>
          rcases hO b with z | ⟨ob, xs, z⟩
          · rw [q] at z; cases z
          · have z2 := un.frzs b ob _ z
            obtain ⟨e1, _⟩ := hok b _ z
            obtain ⟨e2, _⟩ := hok' b _ z2
            rw [e] at e1; cases e1
            exact e2
  cases hk : K.lookup a with
  | some o =>
    -- the script is one of the module's own objects
    have e := KX a o hk
    rw [ha] at e
    cases e
    refine core (fun _ => none) (fun _ => .inl rfl) (.inr ⟨_, vs.toArray, _, hk, rfl, rfl, rfl, by rw [List.size_toArray, lenV]; exact hl, by simpa using rv⟩) (fun b u z => by have z' : (none : Option HO) = some u := z; cases z') (fun b z => absurd rfl z) fun z => absurd rfl z
  | none =>
    refine core (fun b => if b = a then some (.frz { cls := .type "list", data := .seq vs.toArray } (.lst (ns.map V.int))) else none) (fun b => ?_) (.inl (.inr ⟨{ cls := .type "list", data := .seq vs.toArray }, if_pos rfl⟩)) (fun b u z => ?_) (fun b z => ?_) fun _ => hk
    · by_cases hb : b = a
      · exact .inr ⟨_, _, if_pos hb⟩
      · exact .inl (if_neg hb)
    · by_cases hb : b = a
      · have z' := (if_pos hb).symm.trans z
        cases z'
        subst hb
        exact ⟨ha, by rw [List.length_map]; exact hl, vs, _, rv, ha⟩
      · have z' := (if_neg hb).symm.trans z
        cases z'
    · by_cases hb : b = a
      · exact hb
      · exact absurd (if_neg hb) z
end L2
namespace L2
open PySem PySem.Spec PyProof.Rows
noncomputable abbrev KOf {K : PySem.W.Frag} {h : Heap} (_ : K.In h) : PySem.W.Frag := K
theorem walk_of {l : PySem.W.OpenLaw} {n k : Nat} {q : Program} {loose : List Str} {XP : (Str → Option Value) → Heap → Prop} {YP : World → Heap → Prop} {d : DefRec} {K : Params → PySem.W.Frag} {CX : World → CXT} {sp : World → Sp} {x : Str}
    (hn : l.most = some n) (hn2 : n ≤ sizeLine) (hdf : d.params.defaults = []) (hr : Room k callerA)
    (hY : ∀ (w : World) (h : Heap), YP w h → (K w.params).In h)
    (F : ∀ (w : World) (mg : Str → Option Value) (fa : Addr) (h : Heap), (K w.params).In h → h.Ns mainGlobals mg → mg d.name = some (.ref fa) →
      ∃ fd : FuncData, (∀ (s : Shared) (u : Value), BindsTo s fd ⟨[u], []⟩ [(x, u)]) ∧
        ∀ base : Heap, (K w.params).In base → base.Ns mainGlobals mg → FnOk l.prog w (K w.params) mg base (CX w) k fa fd [x] (sp w))
    (hsp : ∀ (w : World) (H : Hp) (a : Addr) (ns : List Int), ns.length ≤ n → Only H → SqL (K w.params) H a (ns.map V.int) → sp w [.ref a] H (fun v _ => v = .bl true) fun _ _ _ => False)
    (hCX : ∀ (w : World) (H : Hp) (s : Shared) (e : Value) (s' : Shared), CX w [] H s (fun _ _ _ => False) e s' → False) :
    PySem.W.WalkO q loose XP YP l.row.toRowW d [] (fun f vs => PySem.call f vs) := by
  refine Att.attach_call hn hdf fun w s₀ s₁ mg mb fa o pm cd doc a vs ns G Y ho hd hcd hmg hobj hints hlen hg => ?_
  have KX := hY w _ Y
  obtain ⟨fd, hb, hF⟩ := F w mg fa _ KX G.T.g hmg
  exact law_call KX G.T.g G.T.b G.T.builtins G.T.nolimit hg hobj hints (Nat.le_trans hlen hn2) hr hF hb (fun H hO hS => hsp w H a ns hlen hO hS) fun H e s' => hCX w H s₁ e s'
end L2
/- THE LAST THEOREM (shape; LID, My.* are yours):
   My.Adr: a structure of the addresses that your layer names (classes, functions); My.Txt K t: a structure (Prop) of the equations over K;
   My.txt_mk : {K} {implicit addresses ..} (e1 : nsIn K mainGlobals "law" = some (some (.ref f))) (e2 : K.lookup f = some ⟨oc, od, .func (fnOf "law" "law" params body scope dV kV doc pm an cdv ct), sl⟩) (e3 : codeIn K cdv "law" = true) .. : ∃ t, My.Txt K t
set_option maxRecDepth 100000 in
set_option maxHeartbeats 0 in
theorem PySem.Challenge.cw_LID_holds : PySem.Challenge.rw_LID.Holds := by
  w_on; o_law; k_head; (case hw => w_witness2)
  k_fill
  refine L2.walk_of (l := PySem.Challenge.rw_LID) (n := 63) (k := 40) (x := "script") (CX := fun w => ..) (sp := fun _ => My.sp_law) rfl (by decide) rfl ⟨rfl, by decide, by decide⟩ (fun w h Y => PySem.W.kIn_of Y) ?F ?S ?C
  case F =>
    intro w mg fa h KX G hmg
    have T : ∃ t, My.Txt (L2.KOf KX) t := by
      dsimp only [L2.KOf]                          -- K must stand as «<heap const> w.params» for k_is
      refine' My.txt_mk ?e1 ?e2 ?e3 ..
      (case e1 => PySem.W.k_is)                    -- in the order: a name -> its address -> its object -> its parts
      (case e2 => PySem.W.k_is)
      ..
    obtain ⟨t, T⟩ := T
    have e0 := hmg.symm.trans (PySem.W.mg_of KX G T.law)
    cases e0                                       -- fa is the law's own address
    exact ⟨_, fun s u => .of_eq rfl, fun base kb nb => My.law_fn T kb nb⟩     -- if «.of_eq rfl» comes too early: refine' ⟨_, ?b, fun base kb nb => My.law_fn T kb nb⟩; exact fun s u => .of_eq rfl
  case S => exact fun w H a ns hl hO hS => ..
  case C => exact ..
(the tactic k_is has no namespace: write k_is) -/
namespace L2
open PySem PySem.Spec PyProof.Rows
noncomputable def defArgs (s : Stmt) : Arguments := match s with
  | .FunctionDef _ a _ _ _ _ _ _ _ _ => a
  | _ => { posonlyargs := [], args := [], vararg := none, kwonlyargs := [], kw_defaults := [], kwarg := none, defaults := [] }
noncomputable def defBody (s : Stmt) : List Stmt := match s with
  | .FunctionDef _ _ b _ _ _ _ _ _ _ => b
  | _ => []
noncomputable def defScope (s : Stmt) : Scope := match s with
  | .FunctionDef _ _ _ _ _ _ sc _ _ _ => sc
  | _ => { kind := .function, names := [], isGenerator := false, isCoroutine := false }
noncomputable abbrev CX0 : CXT := fun _ _ _ _ _ _ => False
noncomputable abbrev E0 : XK := fun _ _ _ => False
structure Fun (K : PySem.W.Frag) (x qual : Str) (st : Stmt) (f : Addr) (fd : FuncData) : Prop where
  ex : ∃ (oc : Value) (od : Option Addr) (kV doc pm : Value) (an : Option Addr) (cdv ct : Value) (osl : Array (Option Value)),
    fd = PySem.W.fnOf x qual (defArgs st) (defBody st) (defScope st) .none kV doc pm an cdv ct ∧ K.lookup f = some ⟨oc, od, .func fd, osl⟩ ∧ PySem.W.codeIn K cdv qual = true
  kp : PySem.W.keepIn K (.ref f) = true
section
variable {P : Program} {w : World} {K : PySem.W.Frag} {mg : Str → Option Value} {base : Heap}
theorem Fun.ok {x qual : Str} {st : Stmt} {f : Addr} {fd : FuncData} {N ps : List Str} {k : Nat} {sp : Sp} (F : Fun K x qual st f fd) (S : FnScope N ps (defScope st)) (len : ∀ vs H Q E, sp vs H Q E → vs.length = ps.length)
    (hbody : ∀ (cdv : Value) (A : Around) (outer : List Env) (s : Shared) (H : Hp) (vs : List V) (Q : VK) (E : XK), Room k (A.deeper (envOfC qual (defScope st) s.heap.objs.size f cdv)) → sp vs H Q E →
      ∃ t, PSs (cxOf CX0 P w K mg base N qual (defScope st) f cdv A outer s H E).nox (defBody st) t ∧ t { nx := fun _ H' => Q .non H', rt := Q } (start N vs) H) : FnOk P w K mg base CX0 (k + 1) f fd ps sp := by
  obtain ⟨oc, od, kV, doc, pm, an, cdv, ct, osl, rfl, lk, hcd⟩ := F.ex
  refine fn_of lk hcd S len fun A outer s H vs Q E hr hsp => ?_
  obtain ⟨t, h, q⟩ := hbody cdv A outer s H vs Q E hr hsp
  exact ⟨t, h.nox, q⟩
theorem Fun.binds {x qual : Str} {st : Stmt} {f : Addr} {fd : FuncData} {ps : List Str} (F : Fun K x qual st f fd)
    (h : ∀ (kV doc pm : Value) (an : Option Addr) (cdv ct : Value) (us : List Value), us.length = ps.length → bindArgs (PySem.W.fnOf x qual (defArgs st) (defBody st) (defScope st) .none kV doc pm an cdv ct) ⟨us, []⟩ = pure (ps.zip us)) : Binds K fd ps [] := by
  obtain ⟨oc, od, kV, doc, pm, an, cdv, ct, osl, rfl, lk, hcd⟩ := F.ex
  exact .all (h kV doc pm an cdv ct)
theorem fun_mk {x qual : Str} {st : Stmt} {f : Addr} {oc : Value} {od an : Option Addr} {osl : Array (Option Value)} {kV doc pm cdv ct : Value} (l : K.lookup f = some ⟨oc, od, .func (PySem.W.fnOf x qual (defArgs st) (defBody st) (defScope st) .none kV doc pm an cdv ct), osl⟩)
    (c : PySem.W.codeIn K cdv qual = true) (k : PySem.W.keepIn K (.ref f) = true) : Fun K x qual st f (PySem.W.fnOf x qual (defArgs st) (defBody st) (defScope st) .none kV doc pm an cdv ct) := ⟨⟨oc, od, kV, doc, pm, an, cdv, ct, osl, rfl, l, c⟩, k⟩
end
theorem hu_of {A : Around} {k : Nat} (hr : Room k A) : A.units + 1 < cLine := Nat.lt_of_le_of_lt (Nat.add_le_add_left (by decide : 1 ≤ 64) _) hr.units
theorem small1000 {n : Nat} (h : n ≤ 1000) : n < sizeLine := Nat.lt_of_le_of_lt h (by decide)
section
variable {X : Cx}
theorem pv (i : Nat) {x : Str} {pos : Pos} (hN : X.N[i]? = some x := by rfl) (hv : Vis X.env.scope x := by first | exact Or.inl rfl | exact Or.inr (Or.inl rfl) | exact Or.inr (Or.inr rfl)) (hd : (x == ("__debug__" : Str)) = false := by decide)
    (hcd : (x == ("__classdict__" : Str)) = false := by decide) : PE X (.Name x pos) (tVar i) := pe_var hN hv hd hcd
end
theorem iteF {A B : Prop} (h : B) : if false = true then A else B := by
  rw [if_neg Bool.false_ne_true]
  exact h
theorem iteT {A B : Prop} (h : A) : if true = true then A else B := by
  rw [if_pos rfl]
  exact h
theorem ite2 {c A B : Prop} [Decidable c] (h1 : c → A) (h2 : ¬ c → B) : if c then A else B := by
  by_cases h : c
  · rw [if_pos h]
    exact h1 h
  · rw [if_neg h]
    exact h2 h
theorem iteNS {c A B : Prop} [Decidable c] (hc : c) (h : B) : if (!decide c) = true then A else B := by
  rw [decide_eq_true hc]
  exact iteF h
noncomputable def Same (H H' : Hp) : Prop := ∀ b o, H b = some o → H' b = some o
theorem Same.refl (H : Hp) : Same H H := fun _ _ h => h
theorem Same.trans {H H1 H2 : Hp} (a : Same H H1) (b : Same H1 H2) : Same H H2 := fun c o h => b c o (a c o h)
theorem Same.free {H H' : Hp} (e : Same H H') {l : Addr} (h : H' l = Option.none) : H l = Option.none := by
  cases q : H l with
  | none => rfl
  | some o =>
    rw [e l o q] at h
    cases h
theorem Same.seq {K : PySem.W.Frag} {H H' : Hp} {a : Addr} {xs : List V} (e : Same H H') (h : SqL K H a xs) : SqL K H' a xs := by
  rcases h with (h | ⟨o, h⟩) | h
  · exact .inl (.inl (e _ _ h))
  · exact .inl (.inr ⟨o, e _ _ h⟩)
  · exact .inr h
end L2
set_option Elab.async false
set_option linter.all false
set_option maxRecDepth 100000
namespace L2
open PySem PySem.Spec PyProof.Rows
noncomputable def clos (cells : List (Str × Addr)) : List (Str × NameKind) → List (Str × Addr) → List (Str × Addr)
  | [], cs => cs
  | (n, k) :: r, cs => if (k == NameKind.free) = true then (match cells.lookup n with | some c => clos cells r ((n, c) :: cs) | none => clos cells r cs) else clos cells r cs
theorem clos_for {env : Env} : ∀ (l : List (Str × NameKind)) (cs : List (Str × Addr)), (∀ x ∈ l, x.2 = .free → ∃ c, env.cells.lookup x.1 = some c) →
    (forIn (m := Sem) l cs fun x r => match x with
      | (name, kind) => if (kind == NameKind.free) = true then do let c ← cellOf env name; pure (ForInStep.yield ((name, c) :: r)) else pure (ForInStep.yield r)) = pure (clos env.cells l cs)
  | [], cs, _ => by rfl
  | (n, k) :: r, cs, h => by
    have ih := fun cs => clos_for r cs fun x hx => h x (List.mem_cons_of_mem _ hx)
    rw [List.forIn_cons]
    unfold clos
    by_cases hk : (k == NameKind.free) = true
    · obtain ⟨c, hc⟩ := h (n, k) List.mem_cons_self (by simpa using hk)
      have hc' : env.cells.lookup n = some c := hc
      simp only [hk, if_true, hc']
      have e : cellOf env n = pure c := by unfold cellOf; rw [hc']
      rw [e]
      simp only [pure_bind]
      exact ih _
    · have hk' : (k == NameKind.free) = false := by simpa using hk
      simp only [hk', Bool.false_eq_true, if_false, pure_bind]
      exact ih _
theorem clos_eq {scope : Scope} {env : Env} (h : ∀ x ∈ scope.names, x.2 = .free → ∃ c, env.cells.lookup x.1 = some c) : closureFor scope env = pure (clos env.cells scope.names []) := by
  unfold closureFor
  have := clos_for (env := env) scope.names [] h
  simp only [this, pure_bind]
theorem clos_sub {cells : List (Str × Addr)} {x : Str} {c : Addr} : ∀ (l : List (Str × NameKind)) (cs : List (Str × Addr)), (∀ y d, cs.lookup y = some d → cells.lookup y = some d) → (clos cells l cs).lookup x = some c → cells.lookup x = some c
  | [], cs, h, e => h x c e
  | (n, k) :: r, cs, h, e => by
    unfold clos at e
    split at e
    · split at e
      · rename_i d hd
        refine clos_sub r _ (fun y z q => ?_) e
        rw [List.lookup_cons] at q
        split at q
        · rename_i hy
          cases q
          rw [eq_of_beq hy]; exact hd
        · exact h y z q
      · exact clos_sub r cs h e
    · exact clos_sub r cs h e
theorem clos_keep {cells : List (Str × Addr)} {x : Str} : ∀ (l : List (Str × NameKind)) (cs : List (Str × Addr)), (∃ c, cs.lookup x = some c) → ∃ c, (clos cells l cs).lookup x = some c
  | [], cs, h => h
  | (n, k) :: r, cs, h => by
    unfold clos
    split
    · split
      · refine clos_keep r _ ?_
        rw [List.lookup_cons]
        split
        · exact ⟨_, rfl⟩
        · exact h
      · exact clos_keep r cs h
    · exact clos_keep r cs h
theorem clos_has {cells : List (Str × Addr)} {x : Str} : ∀ (l : List (Str × NameKind)) (cs : List (Str × Addr)), (x, NameKind.free) ∈ l → (∃ c, cells.lookup x = some c) → ∃ c, (clos cells l cs).lookup x = some c
  | [], _, h, _ => nomatch h
  | (n, k) :: r, cs, h, ⟨c, hc⟩ => by
    unfold clos
    rcases List.mem_cons.mp h with e | h
    · cases e
      rw [if_pos (by rfl), hc]
      refine clos_keep r _ ⟨c, ?_⟩
      simp [List.lookup_cons]
    · split
      · split
        · exact clos_has r _ h ⟨c, hc⟩
        · exact clos_has r _ h ⟨c, hc⟩
      · exact clos_has r _ h ⟨c, hc⟩
theorem relabel_free {env : Env} : ∀ {names : List (Str × NameKind)} {x : Str}, names.lookup x = some .free →
    (names.map fun (n, k) => if (k == NameKind.free && env.scope.kind == .function && env.kindOf n == some .cell) then (n, NameKind.cell) else (n, k)).lookup x = some .cell ∨
    (names.map fun (n, k) => if (k == NameKind.free && env.scope.kind == .function && env.kindOf n == some .cell) then (n, NameKind.cell) else (n, k)).lookup x = some .free
  | [], _, h => by simp at h
  | (n, k) :: r, x, h => by
    have ih := @relabel_free env r x
    by_cases hc : (k == NameKind.free && env.scope.kind == .function && env.kindOf n == some .cell) = true
    · simp only [List.map_cons, if_pos hc, List.lookup_cons]
      cases hx : x == n with
      | true => exact .inl rfl
      | false =>
        simp only [List.lookup_cons, hx] at h
        exact ih h
    · simp only [List.map_cons, if_neg hc, List.lookup_cons]
      cases hx : x == n with
      | true =>
        simp only [List.lookup_cons, hx] at h
        cases h
        exact .inr rfl
      | false =>
        simp only [List.lookup_cons, hx] at h
        exact ih h
theorem relabel_back {env : Env} : ∀ {names : List (Str × NameKind)} {x : Str}, (∀ y ∈ names, y.2 ≠ .cell) →
    ((names.map fun (n, k) => if (k == NameKind.free && env.scope.kind == .function && env.kindOf n == some .cell) then (n, NameKind.cell) else (n, k)).lookup x = some .cell ∨
    (names.map fun (n, k) => if (k == NameKind.free && env.scope.kind == .function && env.kindOf n == some .cell) then (n, NameKind.cell) else (n, k)).lookup x = some .free) → (x, NameKind.free) ∈ names
  | [], _, _, h => by simp at h
  | (n, k) :: r, x, hn, h => by
    have ih := @relabel_back env r x fun y hy => hn y (List.mem_cons_of_mem _ hy)
    by_cases hc : (k == NameKind.free && env.scope.kind == .function && env.kindOf n == some .cell) = true
    · simp only [List.map_cons, if_pos hc, List.lookup_cons] at h
      have hk : k = .free := by
        simp only [Bool.and_eq_true] at hc
        exact eq_of_beq hc.1.1
      cases hx : x == n with
      | true => rw [eq_of_beq hx, hk]; exact List.mem_cons_self
      | false =>
        simp only [hx] at h
        exact List.mem_cons_of_mem _ (ih h)
    · simp only [List.map_cons, if_neg hc, List.lookup_cons] at h
      cases hx : x == n with
      | true =>
        simp only [hx] at h
        rcases h with h | h
        · have e : k = .cell := Option.some.inj h
          exact absurd e (hn (n, k) List.mem_cons_self)
        · have e : k = .free := Option.some.inj h
          rw [eq_of_beq hx, e]; exact List.mem_cons_self
      | false =>
        simp only [hx] at h
        exact List.mem_cons_of_mem _ (ih h)
noncomputable def compCx (X : Cx) (N : List Str) (scope : Scope) (C : Addr) (s : Shared) (H : Hp) (fp : List Addr) : Cx where
  prog := X.prog
  w := X.w
  K := X.K
  mg := X.mg
  base := X.base
  A := X.A
  N := N
  s₀ := s
  H₀ := H
  env := compEnvC scope (clos X.env.cells scope.names []) C X.env
  outer := X.stack
  stack := X.stack
  ex := fp
  fn := fun _ => false
  calm := X.calm
  pn := []
  xe := fun _ _ => False
structure CompScope (X : Cx) (N : List Str) (js : List (Option Nat)) (scope : Scope) : Prop where
  kind : scope.kind = .function
  nocell : ∀ y ∈ scope.names, y.2 ≠ .cell
  locs : ∀ y ∈ scope.names, y.2 = .local → scope.names.lookup y.1 = some .local
  free : ∀ y ∈ scope.names, y.2 = .free → X.env.kindOf y.1 = some .cell ∨ X.env.kindOf y.1 = some .free
  len : js.length = N.length
  js : ∀ (i j : Nat) (x : Str), js[i]? = some (some j) → N[i]? = some x → X.N[j]? = some x ∧ scope.names.lookup x = some .free
noncomputable def innerSt (js : List (Option Nat)) (σ : St) : St := js.map fun j => (j.bind fun j => σ[j]?).join
section
variable {X : Cx} {pins : List (Addr × Obj)} {σ : St} {H : Hp} {s : Shared} {N : List Str} {js : List (Option Nat)} {scope : Scope} {fp : List Addr} {C D : Addr} {h₁ : Heap} {m : Str → Option Value} {tk : Nat}
theorem lookup_mem {α β : Type} [BEq α] [LawfulBEq α] {x : α} {y : β} : ∀ {l : List (α × β)}, l.lookup x = some y → (x, y) ∈ l
  | [], h => by simp at h
  | (a, b) :: r, h => by
    rw [List.lookup_cons] at h
    split at h
    · rename_i hx
      cases h
      rw [eq_of_beq hx]; exact List.mem_cons_self
    · exact List.mem_cons_of_mem _ (lookup_mem h)
theorem inv_comp (S : CompScope X N js scope) (I : Inv X pins σ H s) (f2 : ∀ b ∈ fp, FpOk X pins H b) (hfp : ∀ b ∈ fp, b < s.heap.objs.size) (keep : ∀ b o, s.heap.get? b = some o → h₁.get? b = some o)
    (hD0 : s.heap.objs.size ≤ D) (hC0 : s.heap.objs.size ≤ C) (hDC : D ≠ C) (hD : ∃ n, h₁.get? D = some { cls := .type "list", data := .seq ([] : List Value).toArray n }) (hns : h₁.Ns C m) :
    Inv (compCx X N scope C s H fp) [] (innerSt js σ) (upd H D (.lst [])) { s with heap := h₁, toks := tk } := by
  have hc : ∀ x ∈ scope.names, x.2 = .free → ∃ c, X.env.cells.lookup x.1 = some c := fun x hx e => I.ok.has _ (S.free x hx e)
  have sub : ∀ x c, (clos X.env.cells scope.names []).lookup x = some c → X.env.cells.lookup x = some c := fun x c e => clos_sub _ _ (fun _ _ z => by simp at z) e
  have clt : ∀ x c, X.env.cells.lookup x = some c → c < s.heap.objs.size := fun x c e => by obtain ⟨v, q⟩ := I.cell x c e; exact q.lt
  have hasF : ∀ x, (x, NameKind.free) ∈ scope.names → ∃ c, (clos X.env.cells scope.names []).lookup x = some c := fun x hx => clos_has _ _ hx (hc (x, .free) hx rfl)
  have fD : H D = none := I.hok.fresh hD0
  have fC : H C = none := I.hok.fresh hC0
  refine ⟨⟨I.ok.mod, S.kind, I.ok.glob, I.ok.blt, hC0, fun x y c h1 h2 => I.ok.inj x y c (sub _ _ h1) (sub _ _ h2), fun x hx => ?_, fun x c h _ => (Bool.noConfusion h), I.ok.hd, I.ok.frames, .inl rfl, fun b hb => ⟨?_, fun x c e => (f2 b hb).2.2.2.2.1 x c (sub _ _ e)⟩, I.bs,
      Nat.le_trans I.ok.bsz I.sz, fun b o e hb => ?_, fun b hb z => ?_, I.stack, I.stkFree⟩,
    rfl, I.bare, Un.laid keep hD0 fD, ⟨m, hns, fun i x v h1 h2 h3 => ?_⟩, fun x c e => ?_, ?_, fun x c e => ?_, fun p hp => absurd hp (by simp [compCx]), I.hok.laid keep hD0 ?_, ?_⟩
  · exact hasF x (relabel_back S.nocell hx)
  · exact Nat.ne_of_lt (Nat.lt_of_lt_of_le (hfp b hb) hC0)
  · rcases (f2 b hb).2.2.2.1 with q | q
    · exact I.ok.noex b o e q
    · exact absurd (Nat.lt_of_lt_of_le (Heap.lt_size e) (Nat.le_trans I.ok.bsz q)) (Nat.lt_irrefl _)
  · rcases List.mem_cons.mp (I.stkSub b z) with q | q
    · exact (f2 b hb).2.1 q
    · exact (f2 b hb).2.2.1 q
  · have h2' : (js[i]?.map fun j => (j.bind fun j => σ[j]?).join) = some (some v) := by rw [← List.getElem?_map]; exact h2
    cases ej : js[i]? with
    | none => rw [ej] at h2'; cases h2'
    | some j =>
      rw [ej] at h2'
      cases j with
      | none => simp at h2'
      | some j =>
        have e2 : σ[j]? = some (some v) := by
          simp only [Option.map_some, Option.bind_some, Option.some.injEq] at h2'
          cases q : σ[j]? with
          | none => rw [q] at h2'; simp at h2'
          | some z => rw [q] at h2'; simp at h2'; rw [h2']
        obtain ⟨n1, n2⟩ := S.js i j x ej h1
        have hx := lookup_mem n2
        have hk := S.free _ hx rfl
        obtain ⟨m0, _, hl⟩ := I.loc
        obtain ⟨u, r, l⟩ := hl j x v n1 e2 (hk.elim (fun z => .inr (.inl z)) fun z => .inr (.inr z))
        refine ⟨u, r, ?_⟩
        rcases l with ⟨k, _⟩ | ⟨_, c, e, z⟩
        · have k' : X.env.kindOf x = some .local := k
          rcases hk with q | q <;> (rw [show X.env.kindOf x = _ from q] at k'; cases k')
        · obtain ⟨c', e'⟩ := hasF x hx
          have := sub _ _ e'
          rw [e] at this; cases this
          exact .inr ⟨relabel_free n2, c, e', z.keeps keep⟩
  · obtain ⟨v, q⟩ := I.cell x c (sub _ _ e)
    exact ⟨v, q.keeps keep⟩
  · show upd H D _ C = none
    rw [upd_ne (Ne.symm hDC)]; exact fC
  · show upd H D _ c = none
    have hlt := clt x c (sub _ _ e)
    rw [upd_ne (Nat.ne_of_lt (Nat.lt_of_lt_of_le hlt hD0))]
    exact I.freeC x c (sub _ _ e)
  · obtain ⟨n, hD⟩ := hD
    exact ⟨Nat.zero_le _, [], n, .nil, hD⟩
  · show (innerSt js σ).length = N.length
    unfold innerSt
    rw [List.length_map, S.len]
end
noncomputable def PIfs (X : Cx) (ifs : List Expr) (t : TT) : Prop :=
  ∀ (pins : List (Addr × Obj)) (s : Shared) (σ : St) (H : Hp) (Q : Bool → Hp → Prop), Inv X pins σ H s → t σ H Q →
    wpAny (model X.prog X.w) X.A (forIn ifs true fun c r => if r = true then do let ok ← isTrue c X.env (eval c X.env); pure (ForInStep.yield ok) else pure (ForInStep.yield r)) (TP X pins σ Q) X.xe s
noncomputable def tTrue : TT := fun _ H Q => Q true H
theorem pif_nil {X : Cx} : PIfs X [] tTrue := fun _ _ _ H _ I h => wpAny_tests_nil ⟨H, I, h⟩
theorem pif_one {X : Cx} {c : Expr} {t : TT} (h : PT X c t) : PIfs X [c] t := fun pins s σ H Q I hw => wpAny_tests_one (h pins s σ H Q I hw)
theorem compLoop_gen {prog : Program} {w : World} {A : Around} {R : Result → Shared → Prop} {s : Shared} {elt target iter : Expr} {ifs : List Expr} {scope : Scope} {pos : Pos} {it acc : Value} {env : Env} (I : Nat → Shared → Prop)
    (turn : ∀ n s, I n s → wpAny (model prog w) A (pyNext it) (fun r s₁ => match r with
      | none => R (.ok .next) s₁
      | some v => wpAny (model prog w) A (letOwnedTupleGo target it v) (fun _ s₁' => wpAny (model prog w) A (assign target env v) (fun _ s₂ =>
          wpAny (model prog w) A (forIn ifs true fun c r => if r = true then do let ok ← isTrue c env (eval c env); pure (ForInStep.yield ok) else pure (ForInStep.yield r)) (fun ok s₃ =>
            if ok = true then wpAny (model prog w) A (eval elt env) (fun x s₄ =>
              wpAny (model prog w) A (call (.builtin "list.append") [acc, x]) (fun _ s₅ => ∃ m, m < n ∧ I m s₅) (fun _ _ => False) s₄) (fun _ _ => False) s₃
            else ∃ m, m < n ∧ I m s₃) (fun _ _ => False) s₂) (fun _ _ => False) s₁') (fun _ _ => False) s₁) (fun _ _ => False) s)
    (n : Nat) (h : I n s) :
    codeAny (model prog w) A (.compLoop (.ListComp elt [⟨target, iter, ifs, 0⟩] scope pos) 0 it acc env) R s := by
  refine codeAny_loop rfl I (fun n s hI => ?_) n h
  show wpAny _ A ((compTurn (.ListComp elt [⟨target, iter, ifs, 0⟩] scope pos) 0 it acc env).onRaise (fun x => do noteFrame x env; theTreesLotGoes x)) _ _ s
  refine wpAny_noted ?_
  rw [compTurn_list]
  refine wpAny_bind (wpAny_standAt (wpAny_bind (wpAny_mono (turn n s hI) (fun r s₁ h₁ => ?_) fun _ _ h' => h'.elim)))
  cases r with
  | none => exact wpAny_pure h₁
  | some v =>
    refine wpAny_bind (wpAny_mono h₁ (fun _ s₁' h₁' => ?_) fun _ _ h' => h'.elim)
    refine wpAny_bind (wpAny_mono h₁' (fun _ s₂ h₂ => wpAny_bind (wpAny_mono h₂ (fun ok s₃ h₃ => ?_) fun _ _ h' => h'.elim)) fun _ _ h' => h'.elim)
    cases ok with
    | false => exact wpAny_pure ⟨rfl, h₃⟩
    | true =>
      exact wpAny_bind (wpAny_bind (wpAny_mono h₃ (fun x s₄ h₄ => wpAny_bind (wpAny_mono h₄ (fun _ s₅ h₅ => wpAny_pure (wpAny_pure ⟨rfl, h₅⟩)) fun _ _ h' => h'.elim)) fun _ _ h' => h'.elim))
noncomputable def tComp (js : List (Option Nat)) (wi : TI) (g : TG) (tc : TT) (te : TE) : TE := fun σ H Q =>
  wi σ H fun J H1 => ∀ D, H1 D = none → ∃ W : Nat → Nat → St → Hp → Prop, (∃ m, W 0 m (innerSt js σ) (upd H1 D (.lst []))) ∧
    ∀ i m σ' H', W i m σ' H' → (J.stop i H' ∧ Q (.ref D) H') ∨ (J.go i H' ∧ ∀ x H2, J.yld i H' x H2 → g x σ' H2 fun σ2 H3 => tc σ2 H3 fun b H4 =>
      if b = true then te σ2 H4 fun v H5 => rAppend (.ref D) [v] H5 fun _ H6 => ∃ m', m' < m ∧ W (i + 1) m' σ2 H6 else ∃ m', m' < m ∧ W (i + 1) m' σ2 H4)
theorem pe_comp {X : Cx} {elt tg iter : Expr} {ifs : List Expr} {scope : Scope} {pos : Pos} {N : List Str} {js : List (Option Nat)} {wi : TI} {g : TG} {tc : TT} {te : TE} (hcalm : X.calm = true) (S : CompScope X N js scope)
    (hi : PI X tg iter wi) (hg : ∀ C s H fp, PG (compCx X N scope C s H fp) tg g) (ht : ∀ C s H fp, PIfs (compCx X N scope C s H fp) ifs tc) (he : ∀ C s H fp, PE (compCx X N scope C s H fp) elt te)
    (hs : ∀ x, foldedSetIterable iter X.env x = pure x := by intro _; rfl) : PE X (.ListComp elt [⟨tg, iter, ifs, 0⟩] scope pos) (tComp js wi g tc te) := by
  intro pins s σ H Q I h
  have hc : ∀ x ∈ scope.names, x.2 = .free → ∃ c, X.env.cells.lookup x.1 = some c := fun x hx e => I.ok.has _ (S.free x hx e)
  rw [eval_ListComp]
  refine wpAny_comprehension_free (use := none) rfl hs (clos_eq hc) S.kind S.locs (thn (hi pins s σ H _ I h) fun v s1 h1 => thn h1 fun itv s2 h2 => ?_)
  obtain ⟨it, fp, tn, J, H2, e, I2, T, st2, f2, q⟩ := h2
  subst e
  refine wpAny_newObj_type (wpAny_newFunctionEnv S.nocell (by intro y hy; simp at hy) (fun h₁ hns₁ hsb₁ => ?_) S.kind)
  dsimp only at hns₁ hsb₁ ⊢
  generalize hH2 : s2.heap.push { cls := .type "list", dict := none, data := .seq ([] : List Value).toArray } = G2 at hns₁ hsb₁ ⊢
  have hC : G2.objs.size = s2.heap.objs.size + 1 := by rw [← hH2, Heap.size_push]
  have hDC : s2.heap.objs.size ≠ G2.objs.size := by rw [hC]; exact Nat.ne_of_lt (Nat.lt_succ_self _)
  have hC0 : s2.heap.objs.size ≤ G2.objs.size := by rw [hC]; exact Nat.le_succ _
  have below : ∀ b, b < s2.heap.objs.size → b ≠ G2.objs.size := fun b hb => by rw [hC]; exact Nat.ne_of_lt (Nat.lt_succ_of_lt hb)
  have old : ∀ b o, s2.heap.get? b = some o → h₁.get? b = some o := fun b o e => hsb₁.extBut b o (below b (Heap.lt_size e)) (Heap.get?_push_of_some _ (hH2 ▸ Heap.get?_push_of_some _ e))
  have hacc : h₁.get? s2.heap.objs.size = some { cls := .type "list", data := .seq ([] : List Value).toArray } := hsb₁.extBut _ _ hDC (Heap.get?_push_of_some _ (hH2 ▸ Heap.get?_push_size _ rfl))
  have hfp : ∀ b ∈ fp, b < s2.heap.objs.size := fun b hb => by obtain ⟨o, e, _⟩ := T.obj 0 _ st2 b hb; exact Heap.lt_size e
  obtain ⟨W, ⟨m0, w0⟩, turn⟩ := q s2.heap.objs.size (I2.hok.fresh (Nat.le_refl _))
  have stat : ∀ {H' : Hp}, (∀ b ∈ fp, H' b = none) → ∀ b ∈ fp, FpOk (compCx X N scope G2.objs.size s2 H2 fp) [] H' b := fun {H'} hn b hb =>
    ⟨hn b hb, below b (hfp b hb), fun z => by
      rcases List.mem_cons.mp (I2.stkSub b z) with q | q
      · exact (f2 b hb).2.1 q
      · exact (f2 b hb).2.2.1 q, .inl hb, fun x c e => (f2 b hb).2.2.2.2.1 x c (clos_sub _ _ (fun _ _ z => by simp at z) e), fun p hp => absurd hp (by simp [compCx])⟩
  have loop : ∀ s3 : Shared, s3 = { s2 with heap := h₁, toks := s2.toks + ([] : List (Str × Value)).length } →
      codeAny (model X.prog X.w) X.A (.compLoop (.ListComp elt [⟨tg, iter, ifs, 0⟩] scope pos) 0 (.ref it) (.ref s2.heap.objs.size) (compEnvC scope (clos X.env.cells scope.names []) G2.objs.size X.env))
        (compPost (model X.prog X.w) X.A X.xe none (EP X pins σ Q) (.ref s2.heap.objs.size) G2.objs.size) s3 := by
    rintro s3 rfl
    have I3 : Inv (compCx X N scope G2.objs.size s2 H2 fp) [] (innerSt js σ) (upd H2 s2.heap.objs.size (.lst [])) { s2 with heap := h₁, toks := s2.toks + ([] : List (Str × Value)).length } :=
      inv_comp S I2 f2 hfp old (Nat.le_refl _) hC0 hDC ⟨_, hacc⟩ hns₁
    refine compLoop_gen (fun n s' => ∃ i σ' H', Inv (compCx X N scope G2.objs.size s2 H2 fp) [] σ' H' s' ∧ tn i s'.heap ∧ (∀ b ∈ fp, H' b = none) ∧ W i n σ' H') ?_ m0
      ⟨0, _, _, I3, T.keep 0 _ _ st2 fun b _ o e => old b o e, fun b hb => by rw [upd_ne (Nat.ne_of_lt (hfp b hb))]; exact (f2 b hb).1, w0⟩
    rintro n s4 ⟨i, σ4, H4, I4, st4, fr4, w4⟩
    rcases turn i n σ4 H4 w4 with ⟨stop, qn⟩ | ⟨go, step⟩
    · refine thn (T.done (compCx X N scope G2.objs.size s2 H2 fp) rfl rfl rfl hcalm i [] s4 σ4 H4 (fun _ _ => False) I4 (stat fr4) st4 stop) fun r s5 ⟨hr, I5⟩ => ?_
      subst hr
      obtain ⟨m5, n5, _⟩ := I5.loc
      refine ⟨m5, n5, fun h' sb => ?_⟩
      have hos : s5.os = s2.os := I5.os
      obtain ⟨hh, gg, dd, tt, os5⟩ := s5
      obtain rfl : os5 = s2.os := hos
      have un : Un (frs X.stack) fp H2 H4 s2.heap h' := by
        have u := I5.base
        have nC : ∀ b o, s2.heap.get? b = some o → b ≠ G2.objs.size := fun b o e => below b (Heap.lt_size e)
        exact ⟨fun b o e n hf hx => sb.extBut b o (nC b o e) (u.keep b o e n hf hx), fun b o e n hf hx => by
            obtain ⟨sl, z⟩ := u.slot b o e n hf hx
            exact ⟨sl, sb.extBut b _ (nC b o e) z⟩, u.free, fun b o e hx => by
            obtain ⟨o', z⟩ := u.there b o e hx
            exact ⟨o', sb.extBut b _ (nC b o e) z⟩, u.tups, u.frzs, u.tbls⟩
      have hok : HOk X.prog X.w H4 h' := fun b ob e => (I5.hok b ob e).stay (fun c v hcv z => sb.extBut c v (fun q => by
        rcases hcv with hcv | hcv
        · rw [← hcv, q] at e
          have := I5.free
          have this' : H4 G2.objs.size = none := this
          rw [e] at this'; cases this'
        · rw [q] at hcv
          have this' : H4 G2.objs.size = none := I5.free
          rw [hcv] at this'; cases this') z) (fun _ z => z) fun _ _ z => z
      have IE := I2.call (h' := h') (g' := gg) (d' := dd) (t' := tt) (ch := fp) un hok I5.bare fun b hb => ⟨(f2 b hb).2.2.2.1, (f2 b hb).2.1, (f2 b hb).2.2.2.2.1, (f2 b hb).2.2.2.2.2⟩
      exact ⟨.ref s2.heap.objs.size, H4, IE, rfl, qn⟩
    · refine thn (T.item (compCx X N scope G2.objs.size s2 H2 fp) rfl rfl rfl hcalm i [] s4 σ4 H4 (fun _ _ => False) I4 (stat fr4) st4 go) fun r s5 ⟨u, hr, h5⟩ => ?_
      subst hr
      refine thn h5 fun _ s6 ⟨x, H6, I6, r6, y6, st6, fr6⟩ => ?_
      have I6' := I6.pinned (stat fr6) (T.obj _ _ st6)
      refine thn (hg _ _ _ _ _ s6 σ4 H6 x u _ I6' r6 (step x H6 y6)) fun _ s7 ⟨σ7, H7, I7, q7⟩ => ?_
      refine thn (ht _ _ _ _ _ s7 σ7 H7 _ I7 q7) fun b s8 ⟨H8, I8, q8⟩ => ?_
      have again : ∀ {s9 : Shared} {H9 : Hp}, Inv (compCx X N scope G2.objs.size s2 H2 fp) ([] ++ pinsAt fp s6.heap) σ7 H9 s9 → (∃ m', m' < n ∧ W (i + 1) m' σ7 H9) → ∃ m, m < n ∧ ∃ i σ' H', Inv (compCx X N scope G2.objs.size s2 H2 fp) [] σ' H' s9 ∧ tn i s9.heap ∧ (∀ b ∈ fp, H' b = none) ∧ W i m σ' H' := fun {s9 H9} I9 ⟨m', hm, w9⟩ => by
        refine ⟨m', hm, i + 1, σ7, H9, I9.unpinned, T.keep _ _ _ st6 fun b hb o e => (I9.pin (b, o) (List.mem_append_right _ (List.mem_append_right _ (mem_pinsAt hb e)))).1, fun b hb => ?_, w9⟩
        obtain ⟨o, e, d⟩ := T.obj _ _ st6 b hb
        exact (I9.pin (b, o) (List.mem_append_right _ (List.mem_append_right _ (mem_pinsAt hb e)))).2.1
      cases b with
      | false =>
        rw [if_neg Bool.false_ne_true] at q8 ⊢
        exact again I8 q8
      | true =>
        rw [if_pos rfl] at q8 ⊢
        refine thn (he _ _ _ _ _ s8 σ7 H8 _ I8 q8) fun xv s9 ⟨xx, H9, I9, r9, q9⟩ => ?_
        refine thn (mt_append _ s9 σ7 H9 (.ref s2.heap.objs.size) [xx] (.ref s2.heap.objs.size) [xv] _ I9 rfl (.cons r9 .nil) q9) fun _ s10 ⟨_, H10, I10, _, q10⟩ => ?_
        exact again I10 q10
  exact codeAny_compStart_list (loop _ rfl) (T.self _ _ _ _ _ (T.keep 0 _ _ st2 fun b _ o e => old b o e) (loop _ rfl))
end L2
set_option Elab.async false
set_option linter.all false
set_option maxRecDepth 100000
namespace L2
open PySem PySem.Spec PyProof.Rows
theorem ObjOk.obj {P : Program} {w : World} {H : Hp} {h : Heap} {a : Addr} {o : HO} (x : ObjOk P w H h a o) : ∃ ob, h.get? a = some ob := by
  cases o with
  | lst xs => obtain ⟨_, _, _, _, e⟩ := x; exact ⟨_, e⟩
  | tup xs => obtain ⟨_, _, _, o, e, _⟩ := x; exact ⟨_, e⟩
  | dK kvs => obtain ⟨_, _, _, _, o, _, _, e, _⟩ := x; exact ⟨_, e⟩
  | dT kvs => obtain ⟨_, _, _, _, o, _, _, e, _⟩ := x; exact ⟨_, e⟩
  | set S n => obtain ⟨o, _, _, _, e, _⟩ := x; exact ⟨_, e⟩
  | ins C dx fs => obtain ⟨_, _, _, e, _⟩ := x; exact ⟨_, e⟩
  | own y => exact x
  | xd fs => obtain ⟨_, ⟨_, _, _, e, _⟩, _⟩ := x; exact ⟨_, e⟩
  | rng lo hi => obtain ⟨_, _, _, e⟩ := x; exact ⟨_, e⟩
  | frz ob u => obtain ⟨e, _⟩ := x; exact ⟨_, e⟩
  | tbl ps => exact ⟨_, (show h.get? a = some _ from x)⟩
  | met f y => exact ⟨_, (show h.get? a = some _ from x)⟩
  | ext φ => obtain ⟨_, e, _⟩ := x; exact e
noncomputable def CXW (P : Program) (w : World) : CXT := fun outer H s E e s' => ∃ (a : Addr) (cls a0 : Value) (H' : Hp) (B : Heap), e = .ref a ∧ s'.os = s.os ∧ AllBare s'.gens ∧ Un (frs outer) [] H H' s.heap s'.heap ∧ HOk P w H' B ∧
  Heap.FlyingW B outer a cls a0 s'.heap ∧ (∀ b o, s.heap.get? b = some o → H b = none → b ∉ frs outer → B.get? b = some o) ∧ (∀ b o, s.heap.get? b = some o → b ∉ frs outer → ∃ o', B.get? b = some o') ∧ E cls none H'
theorem passN {P : Program} {w : World} {X : Cx} : Passes (CXW P w) X E0 := fun _ _ _ _ _ _ _ h => by
  obtain ⟨_, _, _, _, _, _, _, _, _, _, _, _, _, hE⟩ := h
  exact hE.elim
theorem mem_frs {env : Env} {L b : Addr} {outer : List Env} (hf : env.frame = some L) : b ∈ frs (env :: outer) ↔ b = L ∨ b ∈ frs outer := by
  unfold frs
  rw [List.filterMap_cons, hf]
  exact List.mem_cons
section
variable {P : Program} {w : World} {K : PySem.W.Frag} {mg : Str → Option Value} {base : Heap} {N : List Str} {qual : Str} {scope : Scope} {f : Addr} {cd : Value} {A : Around} {outer : List Env} {s : Shared} {H : Hp} {E : XK}
  {pins : List (Addr × Obj)} {σ : St} {H1 : Hp} {s1 : Shared}
theorem cxw_out (I : Inv (cxOf (CXW P w) P w K mg base N qual scope f cd A outer s H E) pins σ H1 s1) {a : Addr} {cls a0 : Value} {H' : Hp} {B : Heap} {s2 : Shared}
    (hos : s2.os = s1.os) (hb : AllBare s2.gens) (hokB : HOk P w H' B) (hfl : Heap.FlyingW B outer a cls a0 s2.heap)
    (keepB : ∀ b o, s1.heap.get? b = some o → H1 b = none → b ∉ frs (envOfC qual scope s.heap.objs.size f cd :: outer) → B.get? b = some o)
    (thereB : ∀ b o, s1.heap.get? b = some o → b ∉ frs (envOfC qual scope s.heap.objs.size f cd :: outer) → ∃ o', B.get? b = some o')
    (up : ∀ b o, s1.heap.get? b = some o → (∀ vs, o.data ≠ .fields vs) → b ∈ frs outer → H1 b = none → ∃ sl, s2.heap.get? b = some { o with slots := sl })
    (free1 : ∀ b o, s1.heap.get? b = some o → H1 b = none → H' b = none)
    (tups : ∀ b xs, H1 b = some (.tup xs) → H' b = some (.tup xs)) (frzs : ∀ b o u, H1 b = some (.frz o u) → H' b = some (.frz o u)) (tbls : ∀ b ps, H1 b = some (.tbl ps) → ∃ more, H' b = some (.tbl (ps ++ more)))
    (hE : E cls none H') : CXW P w outer H s E (.ref a) s2 := by
  have u := I.base
  have notL : ∀ b o, s.heap.get? b = some o → b ∉ frs outer → b ∉ frs (envOfC qual scope s.heap.objs.size f cd :: outer) := fun b o e nf z => by
    rcases (mem_frs (env := envOfC qual scope s.heap.objs.size f cd) rfl).mp z with q | q
    · rw [q] at e; exact absurd (Heap.lt_size e) (Nat.lt_irrefl _)
    · exact nf q
  have inB : ∀ b o, s.heap.get? b = some o → H b = none → b ∉ frs outer → B.get? b = some o := fun b o e n nf =>
    keepB b o (u.keep b o e n nf (by simp [cxOf])) (u.free b o e n (by simp [cxOf])) (notL b o e nf)
  have thB : ∀ b o, s.heap.get? b = some o → b ∉ frs outer → ∃ o', B.get? b = some o' := fun b o e nf => by
    obtain ⟨o1, e1⟩ := u.there b o e (by simp [cxOf])
    exact thereB b o1 e1 (notL b o e nf)
  have sl : ∀ b o, s.heap.get? b = some o → H b = none → b ∈ frs outer → ∃ sl, s2.heap.get? b = some { o with slots := sl } := fun b o e n hb => by
    obtain ⟨sl1, e1⟩ := u.slot b o e n hb (by simp [cxOf])
    obtain ⟨_, o', e', nf⟩ := I.ok.funs.mem hb
    have e'' : s.heap.get? b = some o' := e'
    rw [e] at e''; cases e''
    obtain ⟨sl2, e2⟩ := up b _ e1 nf hb (u.free b o e n (by simp [cxOf]))
    exact ⟨sl2, e2⟩
  refine ⟨a, cls, a0, H', B, rfl, hos.trans I.os, hb, ⟨fun b o e n nf _ => hfl.1 b o (inB b o e n nf), fun b o e n hb _ => sl b o e n hb, fun b o e n _ => ?_, fun b o e _ => ?_, fun b xs e => tups b xs (u.tups b xs e), fun b o x e => frzs b o x (u.frzs b o x e), fun b ps e => ?_⟩, hokB, hfl, inB, thB, hE⟩
  · obtain ⟨o1, e1⟩ := u.there b o e (by simp [cxOf])
    exact free1 b o1 e1 (u.free b o e n (by simp [cxOf]))
  · by_cases hb : b ∈ frs outer
    · obtain ⟨sl, q⟩ := sl b o e (I.ok.frf b hb) hb
      exact ⟨_, q⟩
    · obtain ⟨o', q⟩ := thB b o e hb
      exact ⟨o', hfl.1 b o' q⟩
  · obtain ⟨m1, e1⟩ := u.tbls b ps e
    obtain ⟨m2, e2⟩ := tbls b _ e1
    exact ⟨m1 ++ m2, by rw [e2, Array.append_assoc]⟩
theorem passW : Passes (CXW P w) (cxOf (CXW P w) P w K mg base N qual scope f cd A outer s H E) E := by
  intro pins σ H1 s1 e s' I hx
  obtain ⟨a, cls, a0, H', B, rfl, hos, hb, un, hokB, hfl, keepB, thereB, hE⟩ := hx
  show wpAny _ _ (leaving _ (.ref a)) _ _ s'
  refine wpAny_leaves_onW (L := s.heap.objs.size) I.ok.frames rfl hfl fun h'' hfl' hup => ?_
  refine cxw_out I (s2 := { s' with heap := h'' }) hos hb hokB hfl' keepB thereB (fun b o e nf hb n => ?_) (fun b o e n => un.free b o e n (by simp)) un.tups un.frzs un.tbls hE
  obtain ⟨sl, e1⟩ := un.slot b o e n ((mem_frs (env := envOfC qual scope s.heap.objs.size f cd) rfl).mpr (.inr hb)) (by simp)
  obtain ⟨sl2, e2⟩ := hup b _ e1 nf
  exact ⟨sl2, e2⟩
theorem madeW (I : Inv (cxOf (CXW P w) P w K mg base N qual scope f cd A outer s H E) pins σ H1 s1) {h' : Heap} {a : Addr} {cls : Value} {vs : List Value} (hx : Heap.MadeExcOf s1.heap h' a cls vs) (hE : E cls none H1) :
    (cxOf (CXW P w) P w K mg base N qual scope f cd A outer s H E).xe (.ref a) { s1 with heap := h' } := by
  have hin : ∀ env ∈ (envOfC qual scope s.heap.objs.size f cd :: outer), ∀ b, env.frame = some b → b ∈ frs (envOfC qual scope s.heap.objs.size f cd :: outer) := fun env he b hb => List.mem_filterMap.mpr ⟨env, he, hb⟩
  have stk : s1.heap.FunFrames base (envOfC qual scope s.heap.objs.size f cd :: outer) := I.stack
  have fr0 : ∀ b, b ∈ frs (envOfC qual scope s.heap.objs.size f cd :: outer) → H1 b = none := I.stkFree
  show wpAny _ _ (leaving _ (.ref a)) _ _ _
  refine wpAny_leaves_madeW (base := PySem.W.hideAll s1.heap (frs (envOfC qual scope s.heap.objs.size f cd :: outer))) (h := s1.heap) (L := s.heap.objs.size) (s := { s1 with heap := h' }) I.ok.frames rfl (fun b o q => PySem.W.of_hideAll _ q) (PySem.W.funFrames_hide stk hin) hx fun h'' t x1 x2 x3 x4 => ?_
  have hg : ∀ b o, s1.heap.get? b = some o → b ∉ frs (envOfC qual scope s.heap.objs.size f cd :: outer) → (PySem.W.hideAll s1.heap (frs (envOfC qual scope s.heap.objs.size f cd :: outer))).get? b = some o := fun b o e nf => PySem.W.hideAll_get _ e nf
  refine cxw_out I (s2 := { s1 with heap := h'' }) (H' := H1) rfl I.bare (fun b ob e => (I.hok b ob e).stay (fun c v hcv z => hg c v z fun q => ?_) (fun _ z => z) fun _ _ z => z) x1 (fun b o e _ nf => hg b o e nf) (fun b o e nf => ⟨o, hg b o e nf⟩) (fun b o e nf hb n => ?_) (fun _ _ _ n => n) (fun _ _ e => e) (fun _ _ _ e => e) (fun b ps e => ⟨#[], by rw [e]; simp⟩) hE
  · have z := fr0 c q
    rcases hcv with r | r
    · rw [← r, z] at e; cases e
    · rw [z] at r; cases r
  · exact x4 b o (hx.keeps b o e) nf
theorem pown : PassesOwn (model (cxOf (CXW P w) P w K mg base N qual scope f cd A outer s H E).prog (cxOf (CXW P w) P w K mg base N qual scope f cd A outer s H E).w) (cxOf (CXW P w) P w K mg base N qual scope f cd A outer s H E).A
    (cxOf (CXW P w) P w K mg base N qual scope f cd A outer s H E).env (cxOf (CXW P w) P w K mg base N qual scope f cd A outer s H E).xe := PassesOwn.leaving
end
theorem exc_obj {K : PySem.W.Frag} {h : Heap} {C : Addr} {bmB : List Value} {newId : String} (X : K.In h) (q : PySem.W.excIn K C bmB newId = true) :
    ∃ bm N nm qn bs hdct sn sub ab col dd k0 k1 k2 k3 k5 mN, h.get? C = some (excClassObj nm qn C N bs bm hdct sn sub ab col dd k0 k1 k2 k3 k5 newId) ∧ h.Ns N mN ∧ mN "__init__" = none ∧ OwnTail h bmB bm := by
  unfold PySem.W.excIn at q
  split at q
  · rename_i dd cd sl ho
    split at q
    · rename_i C' bm k0 k1 k2 k3 n k5 hm hs
      simp only [Bool.and_eq_true, beq_iff_eq, Bool.not_eq_true'] at q
      obtain ⟨⟨⟨⟨⟨rfl, rfl⟩, hdel⟩, ht⟩, hok⟩, hni⟩ := q
      obtain ⟨nm, bs, mro, ns, qn, hd, sn, sub, ab, col, del⟩ := cd
      dsimp only at hm hdel hok hni
      subst hm hdel
      have hsl : sl = #[k0, k1, k2, k3, some (.builtin n), k5] := by
        obtain ⟨l⟩ := sl
        simp only at hs
        rw [hs]
      subst hsl
      exact ⟨bm, ns, nm, qn, bs, hd, sn, sub, ab, col, dd, k0, k1, k2, k3, k5, _, X _ _ ho, .of_isNs (PySem.W.isNs_of_in X hok), PySem.W.nsMap_none_of_in X hok hni, PySem.W.tail_of_in X ht⟩
    · cases q
  · cases q
noncomputable def tRaise (E : XK) (C : Addr) : TS := fun _ _ H => E (.ref C) none H
theorem ps_raise {P : Program} {w : World} {K : PySem.W.Frag} {mg : Str → Option Value} {base : Heap} {N : List Str} {qual : Str} {scope : Scope} {f : Addr} {cd : Value} {A : Around} {outer : List Env} {s : Shared} {H : Hp} {E : XK}
    {x msg : Str} {C : Addr} {B newId initId : String} {bmB : List Value} {np cpos pos p3 : Pos} {j : Nat} (FB : ExcBaseFacts B newId initId bmB) (q : PySem.W.excIn K C bmB newId = true)
    (hm : mg x = some (.ref C)) (hg : Gl (cxOf (CXW P w) P w K mg base N qual scope f cd A outer s H E) x) (hd : (x == ("__debug__" : Str)) = false := by decide) :
    PS (cxOf (CXW P w) P w K mg base N qual scope f cd A outer s H E) (.Raise (some (.Call (.Name x np) [.Constant (.str msg) j p3] [] cpos)) none pos) (tRaise E C) := by
  intro pins s1 σ H1 D I h
  obtain ⟨bm, Nn, nm, qn, bs, hdct, sn, sub, ab, col, dd, k0, k1, k2, k3, k5, mN, hC, hN, hni, T⟩ := exc_obj I.ok.mod.kin q
  refine wpAny_Raise_call_subT (C := C) (nm := nm) (q := qn) (N := Nn) (bs := bs) (bm := bm) (hdct := hdct) (sn := sn) (sub := sub) (ab := ab) (col := col) (dd := dd) (k0 := k0) (k1 := k1) (k2 := k2) (k3 := k3) (k5 := k5)
    FB (mN := mN) (T.hasType FB.hasBase) (I.ok.hd rfl) rfl hni (ld_glob I hg hm ⟨rfl, ?_⟩ hd)
  have ha : PA (cxOf (CXW P w) P w K mg base N qual scope f cd A outer s H E) [.Constant (.str msg) j p3] (tCons (tC (.str msg)) tNil) := pa_cons pe_str pa_nil
  have hw := ha cpos pins s1 σ H1 (fun vs H2 => vs.length = 1 ∧ H2 = H1) I ⟨rfl, rfl⟩
  refine Calls.evalArgs_plain (thn hw fun us s2 ⟨vs, H2, I2, r, hl, e2⟩ => ?_)
  subst e2
  refine ⟨rfl, ?_, I2.bk _ _ hC, hN.keeps I2.bk, T.keeps I2.bk, fun h' e hx => madeW I2 hx h⟩
  show us.length ≤ sizeLine
  rw [← r.length, hl]; decide
section
variable {P : Program} {w : World} {K : PySem.W.Frag} {mg : Str → Option Value} {base : Heap}
theorem Fun.okX {x qual : Str} {st : Stmt} {f : Addr} {fd : FuncData} {N ps : List Str} {k : Nat} {sp : Sp} (F : Fun K x qual st f fd) (S : FnScope N ps (defScope st)) (len : ∀ vs H Q E, sp vs H Q E → vs.length = ps.length)
    (hbody : ∀ (cdv : Value) (A : Around) (outer : List Env) (s : Shared) (H : Hp) (vs : List V) (Q : VK) (E : XK), Room k (A.deeper (envOfC qual (defScope st) s.heap.objs.size f cdv)) → sp vs H Q E →
      ∃ t, PSs (cxOf (CXW P w) P w K mg base N qual (defScope st) f cdv A outer s H E) (defBody st) t ∧ t { nx := fun _ H' => Q .non H', rt := Q } (start N vs) H) : FnOk P w K mg base (CXW P w) (k + 1) f fd ps sp := by
  obtain ⟨oc, od, kV, doc, pm, an, cdv, ct, osl, rfl, lk, hcd⟩ := F.ex
  exact fn_of lk hcd S len fun A outer s H vs Q E hr hsp => hbody cdv A outer s H vs Q E hr hsp
theorem Fun.okN {x qual : Str} {st : Stmt} {f : Addr} {fd : FuncData} {N ps : List Str} {k : Nat} {sp : Sp} (F : Fun K x qual st f fd) (S : FnScope N ps (defScope st)) (len : ∀ vs H Q E, sp vs H Q E → vs.length = ps.length)
    (hbody : ∀ (cdv : Value) (A : Around) (outer : List Env) (s : Shared) (H : Hp) (vs : List V) (Q : VK) (E : XK), Room k (A.deeper (envOfC qual (defScope st) s.heap.objs.size f cdv)) → sp vs H Q E →
      ∃ t, PSs (cxOf (CXW P w) P w K mg base N qual (defScope st) f cdv A outer s H E).nox (defBody st) t ∧ t { nx := fun _ H' => Q .non H', rt := Q } (start N vs) H) : FnOk P w K mg base (CXW P w) (k + 1) f fd ps sp :=
  F.okX S len fun cdv A outer s H vs Q E hr hsp => by
    obtain ⟨t, h, q⟩ := hbody cdv A outer s H vs Q E hr hsp
    exact ⟨t, h.nox, q⟩
end
end L2
set_option Elab.async false
set_option linter.all false
set_option maxRecDepth 100000
namespace L2
open PySem PySem.Spec PyProof.Rows PySem.W
structure ExcC (K : Frag) (C : Addr) : Prop where
  ga : findIn K (.ref C) "__getattribute__" = some (some (.builtin "BaseException.__getattribute__"))
  gt : findIn K (.ref C) "__getattr__" = some none
  ca : findIn K (.ref C) "__class__" = some (some (.builtin "object.__class__"))
  ob : mroIn K C (.type "object") = some true
  be : mroIn K C (.type "BaseException") = some true
  ty : typeIn K (.ref C) = some (.type "type")
theorem ExcC.cls {K : Frag} {C : Addr} (T : ExcC K C) : (clsIn K C).isSome = true := by
  have h := T.ob
  unfold mroIn at h
  cases e : clsIn K C with
  | none => rw [e] at h; cases h
  | some cd => rfl
noncomputable def ExcAt (a C : Addr) (h : Heap) : Prop := ∃ o vs, h.get? a = some o ∧ o.cls = .ref C ∧ o.data = .fields vs
section
variable {prog : Program} {w : World} {A : Around} {E : Value → Shared → Prop} {h : Heap} {g : Array GenState} {d : Drawn} {t : Nat} {os : OsState} {a C : Addr} {o : Obj} {K : Frag}
theorem exc_class_get {R : Result → Shared → Prop} (X : K.In h) (T : ExcC K C) (hx : h.get? a = some o) (hc : o.cls = .ref C) (hq : R (.ok (.ret (.ref C))) ⟨h, g, d, t, os⟩) :
    codeAny (model prog w) A (.call (.builtin "getset_descriptor.__get__") ⟨[.builtin "object.__class__", .ref a, .ref C], []⟩) R ⟨h, g, d, t, os⟩ := by
  have hT5 : (⟨h, g, d, t, os⟩ : Shared).TypeIs (.builtin "object.__class__") "getset_descriptor" := F.typeOf_object_class
  have L1 := looks_mroIn (M := model prog w) X T.ob
  refine codeAny_call_builtin F.slot_gs_get.plain F.entry_gs_get (F.slot_gs_get.check _ _ _ _ _ _ _ _ hT5 (F.args_gs_get _ _ _) ?_)
  repeat (any_goals (first | assumption | (with_reducible refine wpAny_loadPart_at hx ?_; rw [hc]) | (rw [F.owner_object_class]; with_reducible refine L1.at ?_) | wp_step))
  refine ⟨Code.quiet_builtin _ (by decide +kernel), codeAny_builtin F.entry_object_class ?_⟩
  repeat (any_goals (first | assumption | (with_reducible refine wpAny_loadPart_at hx ?_; rw [hc]) | wp_step))
theorem exc_class_entry {tk : Tok} {Q : Fin → Shared → Prop} (X : K.In h) (T : ExcC K C) (hx : h.get? a = some o) (hc : o.cls = .ref C) (hq : Q (.done (.ret (.ref C))) ⟨h, g, d, t, os⟩) :
    wpAny (model prog w) A (Builtin.«object.__getattribute__» ⟨[.ref a, .str "__class__" tk], []⟩) Q E ⟨h, g, d, t, os⟩ := by
  have hT5 : (⟨h, g, d, t, os⟩ : Shared).TypeIs (.builtin "object.__class__") "getset_descriptor" := F.typeOf_object_class
  have f5 := F.typeOf_object_class
  have f6 := F.slot_gs_get.lookup
  have f7 := F.slot_gs_set.lookup
  have L1 := looks_findIn (M := model prog w) X T.ca
  repeat (any_goals (first | assumption | (with_reducible refine wpAny_loadPart_at hx ?_; rw [hc]) | with_reducible refine L1.at ?_ | wp_step))
  refine exc_class_get X T hx hc ?_
  repeat (any_goals (first | assumption | wp_step))
theorem exc_check_ga {M : Model} {nameV : Value} {Q : Unit → Shared → Prop} (X : K.In h) (T : ExcC K C) (hx : h.get? a = some o) (hc : o.cls = .ref C) (hq : Q () ⟨h, g, d, t, os⟩) :
    wpAny M A (checkBuiltinCall "BaseException.__getattribute__" ⟨[.ref a, nameV], []⟩) Q E ⟨h, g, d, t, os⟩ := by
  have hk : builtinKind "BaseException.__getattribute__" = some .slot := by decide +kernel
  have hsplit : splitId "BaseException.__getattribute__" = some ("BaseException", "__getattribute__") := by decide +kernel
  have ha := F.args_bexc_ga (.ref a) nameV
  have L1 := looks_mroIn (M := M) X T.be
  simp only [checkBuiltinCall, hk, hsplit]
  refine wpAny_bind ?_
  · unfold isInstance
    repeat (first | (with_reducible refine wpAny_loadPart_at hx ?_; rw [hc]) | with_reducible refine L1.at ?_ | wp_step)
    exact hq
theorem exc_class_by {tk : Tok} {Q : Value → Shared → Prop} (X : K.In h) (T : ExcC K C) (hx : h.get? a = some o) (hc : o.cls = .ref C) (hq : Q (.ref C) ⟨h, g, d, t, os⟩) :
    wpAny (model prog w) A (getAttrBy (.ref a) (.str "__class__" tk) false) Q E ⟨h, g, d, t, os⟩ := by
  have FB := PySem.F.attrBase_ValueError
  have f3 := FB.ga.bind (.ref a)
  have hx0 : (false && onTheHeap (Value.builtin "BaseException.__getattribute__")) = false := rfl
  have hx2 : (Value.builtin "BaseException.__getattribute__" == Value.builtin "object.__getattribute__") = false := by decide +kernel
  have hx1 : (onTheHeap (Value.ref C) && Value.builtin "BaseException.__getattribute__" == Value.builtin "object.__getattribute__") = false := by rw [hx2]; rfl
  have L1 := looks_findIn (M := model prog w) X T.ga
  have L2 := looks_findIn (M := model prog w) X T.gt
  repeat (any_goals (first | assumption | (with_reducible refine wpAny_loadPart_at hx ?_; rw [hc]) | with_reducible refine L1.at ?_ | with_reducible refine L2.at ?_ | wp_step))
  refine codeAny_call_builtin FB.ga.plain F.entry_bexc_ga (exc_check_ga X T hx hc (exc_class_entry X T hx hc ?_))
  repeat (any_goals (first | assumption | wp_step))
theorem exc_class_attr {Q : Option Value → Shared → Prop} (X : K.In h) (T : ExcC K C) (hx : h.get? a = some o) (hc : o.cls = .ref C) (hq : Q (some (.ref C)) ⟨h, g, d, t + 1, os⟩) :
    wpAny (model prog w) A (getAttr? (.ref a) "__class__") Q E ⟨h, g, d, t, os⟩ := by
  unfold getAttr? getAttrBy?
  repeat (any_goals (first | assumption | with_reducible apply exc_class_by X T hx hc | wp_step))
end
theorem kitx_exc {K : Frag} {a C : Addr} (T : ExcC K C) : KitX K (.ref a) (.ref C) (ExcAt a C) where
  ty := fun M h _ p => by
    obtain ⟨o, vs, h1, h2, _⟩ := p
    exact h2 ▸ (Looks.ld h1).andThen .now
  it := fun _ _ X _ => by
    obtain ⟨cdD, hcD⟩ := Option.isSome_iff_exists.mp T.cls
    unfold clsIn at hcD
    split at hcD
    · rename_i c' d' cd' sl' ho
      intro A' Q' E' s' k q
      unfold isType loadHead
      exact wpAny_bind (wpAny_loadPart (k _ _ (X _ _ ho)) (wpAny_pure q))
    · cases hcD
  ne := fun h tp dd its n sl X htp => by
    obtain ⟨cdD, hcD⟩ := Option.isSome_iff_exists.mp T.cls
    refine Bool.eq_false_iff.mpr fun q => ?_
    have e : C = tp := Value.ref.inj (beq_iff_eq.mp q)
    subst e
    unfold clsIn at hcD
    split at hcD
    · rename_i c' d' cd' sl' ho
      have z := (X _ _ ho).symm.trans htp
      cases z
    · cases hcD
  ca := fun {_ _ _ _ _ s} X p k => by
    obtain ⟨o, vs, h1, h2, _⟩ := p
    obtain ⟨hh, g, d, t, os⟩ := s
    exact exc_class_attr X T h1 h2 k
noncomputable def excO (a C : Addr) : HO := .ext (ExcAt a C)
theorem excO_ok {P : Program} {w : World} {H : Hp} {h : Heap} {a C : Addr} (p : ExcAt a C h) : ObjOk P w H h a (excO a C) := by
  refine ⟨p, ?_, fun h1 h2 q k => ?_⟩
  · obtain ⟨o, _, e, _⟩ := p; exact ⟨o, e⟩
  · obtain ⟨o, vs, e, r⟩ := q; exact ⟨o, vs, k o e, r⟩
inductive TyX (K : Frag) (H : Hp) : V → Value → Prop where
  | of {x : V} {t : Value} (h : TyOf K H x t) : TyX K H x t
  | exc {a C : Addr} (T : ExcC K C) (e : H a = some (excO a C)) : TyX K H (.ref a) (.ref C)
theorem isinst_x {X : Cx} {pins : List (Addr × Obj)} {σ : St} {H : Hp} {s : Shared} {A : Around} {E : Value → Shared → Prop} {Q : Value → Shared → Prop} {c : Value} {b : Bool} {x : V} {u t : Value} (I : Inv X pins σ H s) (rx : RelV x u) (ty : TyX X.K H x t)
    (e : kitOne X.K t c = some b) (h : ∀ tk, Q (.bool b) { s with toks := tk }) : wpAny (model X.prog X.w) A (call (.builtin "isinstance") [u, c]) Q E s := by
  cases ty with
  | of ty => exact isinst_ok I rx ty e h
  | @exc a C T ea =>
    cases (show u = Value.ref a from rx)
    obtain ⟨p, _, _⟩ := (show ObjOk X.prog X.w H s.heap a (excO a C) from I.hok a _ ea)
    exact kia_one (kitx_exc T) I.kIn p e (fun z => nomatch z) h
noncomputable def clsV : V → Option Value
  | .ref a => some (.ref a)
  | .ty n => some (.type n)
  | _ => none
theorem clsV_rel {x : V} {c u : Value} (h : clsV x = some c) (r : RelV x u) : u = c := by
  cases x with
  | ref a => cases h; exact r
  | ty n => cases h; exact r
  | _ => cases h
noncomputable def clsVs : List V → Option (List Value)
  | [] => some []
  | x :: r => match clsV x, clsVs r with
    | some c, some cs => some (c :: cs)
    | _, _ => none
theorem clsVs_rel : ∀ {xs : List V} {cs us : List Value}, clsVs xs = some cs → Vals xs us → us = cs
  | [], _, _, h, .nil => by cases h; rfl
  | x :: r, cs, _, h, .cons q t => by
    unfold clsVs at h
    split at h
    · rename_i c cs' h1 h2
      cases h
      rw [clsV_rel h1 q, clsVs_rel h2 t]
    · cases h
noncomputable def rIsi (K : Frag) : List V → Hp → VK → Prop := fun xs H Q => ∃ x t vc c b, xs = [x, vc] ∧ TyX K H x t ∧ clsV vc = some c ∧ kitOne K t c = some b ∧ Q (.bl b) H
theorem call_isi {X : Cx} : CallR X (.builtin "isinstance") (rIsi X.K) := by
  intro pins s σ H xs us Q I rv h
  obtain ⟨x, t, vc, c, b, rfl, ty, rc, e, q⟩ := h
  obtain ⟨u, v, rfl, r1, r2⟩ := rv.two
  rw [clsV_rel rc r2]
  exact isinst_x I r1 ty e fun tk => ⟨.bl b, H, I.tok _, rfl, q⟩
noncomputable def rIsiT (K : Frag) : List V → Hp → VK → Prop := fun xs H Q => ∃ a C tp vcs cs b, xs = [.ref a, .ref tp] ∧ ExcC K C ∧ H a = some (excO a C) ∧ H tp = some (.tup vcs) ∧ clsVs vcs = some cs ∧ kitAny K (.ref C) cs = some b ∧ Q (.bl b) H
theorem call_isiT {X : Cx} : CallR X (.builtin "isinstance") (rIsiT X.K) := by
  intro pins s σ H xs us Q I rv h
  obtain ⟨a, C, tp, vcs, cs, b, rfl, T, ea, et, ec, e, q⟩ := h
  obtain ⟨u, v, rfl, r1, r2⟩ := rv.two
  cases r1
  cases r2
  obtain ⟨p, _, _⟩ := (show ObjOk X.prog X.w H s.heap a (excO a C) from I.hok a _ ea)
  obtain ⟨z, its, r, o, h1, h2, n, h3⟩ := (show ObjOk X.prog X.w H s.heap tp (.tup vcs) from I.hok tp _ et)
  obtain ⟨oc, od, dt, sl⟩ := o
  dsimp only at h2 h3
  subst h2 h3
  have ei := clsVs_rel ec r
  subst ei
  exact kia_tup (kitx_exc T) I.kIn p h1 e (fun z => nomatch z) fun tk => ⟨.bl b, H, I.tok _, rfl, q⟩
end L2
set_option Elab.async false
set_option linter.all false
set_option maxRecDepth 100000
namespace L2
open PySem PySem.Spec PyProof.Rows PySem.W
noncomputable def PassesAt (CX : CXT) (X : Cx) (E : XK) (pins : List (Addr × Obj)) (σ : St) : Prop := ∀ (H : Hp) (s : Shared) (e : Value) (s' : Shared), Inv X pins σ H s → CX X.stack H s E e s' → X.xe e s'
noncomputable def PEAt (X : Cx) (pins : List (Addr × Obj)) (σ : St) (e : Expr) (t : TE) : Prop := ∀ (s : Shared) (H : Hp) (Q : VK), Inv X pins σ H s → t σ H Q → wpAny (model X.prog X.w) X.A (eval e X.env) (EP X pins σ Q) X.xe s
noncomputable def PSsAt (X : Cx) (pins : List (Addr × Obj)) (σ : St) (st : List Stmt) (t : TS) : Prop := ∀ (s : Shared) (H : Hp) (D : Ends), Inv X pins σ H s → t D σ H → wpAny (model X.prog X.w) X.A (execs st X.env) (SP X pins D) X.xe s
section
variable {X : Cx} {CX : CXT} {k : Nat} {f : Addr} {fd : FuncData} {ps : List Str} {sp : Sp} {dvs : List V} {ds : List Value} {E : XK} {x : Str} {p pos : Pos} {e : Expr} {es : List Expr} {te : TE} {t : TA} {pins : List (Addr × Obj)} {σ : St} {ta tb : TS}
theorem pea_call (F : FnOk X.prog X.w X.K X.mg X.base CX k f fd ps sp) (hr : Room k X.A) (hg : Gl X x) (hm : X.mg x = some (.ref f)) (hk : PySem.W.keepIn X.K (.ref f) = true) (hb : Binds X.K fd ps ds) (hd : Vals dvs ds) (hx : PassesAt CX X E pins σ)
    (ha : PA X (e :: es) t) (hdb : (x == ("__debug__" : Str)) = false := by decide) (he : starEach (e :: es) X.env = (false, eval e X.env) :: starEach es X.env := by rfl) (hpl : (backTo pos (starEach es X.env)).any (·.1) = false := by rfl) :
    PEAt X pins σ (.Call (.Name x p) (e :: es) [] pos) (tCall sp dvs E t) := by
  intro s H Q I h
  refine wpAny_Call_Name_kw (ld_glob I hg hm ?_ hdb)
  refine PySem.W.callWith_K (h₀ := X.base) I.ok.mod.kin hk (thn (ha pos pins s σ H _ I h) fun us s1 ⟨vs, H1, I1, r, q⟩ => ⟨I1.kIn, ?_⟩) he hpl
  have r2 : Vals (vs ++ dvs) (us ++ ds) := r.append hd
  have hl : (us ++ ds).length = ps.length := by rw [← r2.length]; exact F.len _ _ _ _ q
  refine wpAny_call (codeAny_mono (F.run X.A X.stack s1 H1 ⟨us, []⟩ (us ++ ds) (vs ++ dvs) Q E hr I1.env0 (hb s1 us I1.kIn hl) r2 q) fun r s' hq => ?_)
  cases r with
  | error e => exact hx H1 s1 e s' I1 hq
  | ok fl =>
    cases fl with
    | ret u => exact I1.after hq
    | next => exact False.elim hq
    | brk => exact False.elim hq
    | cont => exact False.elim hq
theorem psa_set {i : Nat} {y : Str} {pos' : Pos} (hN : X.N.Nodup) (hi : X.N[i]? = some y) (hy : Loc X.env.scope y) (he : PEAt X pins σ e te) (hs : swapsWith e (some (.Name y pos')) pos.line X.env = pure false := by rfl) (hf : X.fn y = true ∨ X.env.scope.names.lookup y = some .local := by first | exact .inl rfl | exact .inr rfl | assumption) :
    PSsAt X pins σ [.Assign [.Name y pos'] e pos] (tAsg te (gName i)) := by
  intro s H D I h
  refine wpAny_execs_cons (wpAny_Assign_Name (thn (he s H _ I h) fun v s1 ⟨z, H1, I1, r1, q1⟩ => ?_) hs)
  exact store_ok I1 hN hi hy r1 (fun s2 I2 => wpAny_execs_nil ⟨_, H1, I2, q1⟩) hf
theorem psa_if {c : Expr} {a b : List Stmt} {tc : TT} (hc : PT X c tc) (ha : PSsAt X pins σ a ta) (hb : PSsAt X pins σ b tb) : PSsAt X pins σ [.If c a b pos] (tIfS tc ta tb) := by
  intro s H D I h
  refine wpAny_execs_cons (wpAny_If (thn (hc pins s σ H _ I h) fun d s1 ⟨H1, I1, q1⟩ => ?_))
  have fin : ∀ {f : Flow} {s2 : Shared}, SP X pins D f s2 → (match f with | .next => wpAny (model X.prog X.w) X.A (execs [] X.env) (SP X pins D) X.xe s2 | f => SP X pins D f s2) := fun {f s2} q => by
    cases f with
    | next => exact wpAny_execs_nil q
    | ret v => exact q
    | brk => exact q
    | cont => exact q
  cases d with
  | true => exact thn (ha s1 H1 D I1 q1) fun f s2 q => fin q
  | false => exact thn (hb s1 H1 D I1 q1) fun f s2 q => fin q
end
theorem HOk.add {P : Program} {w : World} {H : Hp} {h : Heap} {a : Addr} {o : HO} (x : HOk P w H h) (hn : H a = none) (new : ObjOk P w (upd H a o) h a o) : HOk P w (upd H a o) h := fun b u e => by
  by_cases hb : b = a
  · subst hb; rw [upd_same] at e; cases e; exact new
  · rw [upd_ne hb] at e
    exact (x b u e).stay (fun c v _ q => q) (fun c q => by rw [upd_ne (ne_of_none q hn)]; exact q) fun c xs q => by rw [upd_ne (ne_of_none q hn)]; exact q
noncomputable abbrev hdCx (X : Cx) (a : Addr) : Cx := { X with A := X.A.mark (some (.ref a)), calm := false, xe := fun _ _ => False }
theorem Inv.hd {X : Cx} {pins : List (Addr × Obj)} {σ : St} {H : Hp} {s : Shared} {a : Addr} (I : Inv X pins σ H s) : Inv (hdCx X a) pins σ H s :=
  ⟨⟨I.ok.mod, I.ok.kind, I.ok.glob, I.ok.blt, I.ok.above, I.ok.inj, I.ok.has, I.ok.cab, fun z => Bool.noConfusion z, I.ok.frames, I.ok.stk, I.ok.exf, I.ok.bs, I.ok.bsz, I.ok.noex, I.ok.exfs, I.ok.funs, I.ok.frf⟩, I.os, I.bare, I.base, I.loc, I.cell, I.free, I.freeC, I.pin, I.hok, I.len⟩
theorem Inv.unhd {X : Cx} {pins : List (Addr × Obj)} {σ : St} {H : Hp} {s : Shared} {a : Addr} (hd : X.calm = true → X.A.handled = none) (I : Inv (hdCx X a) pins σ H s) : Inv X pins σ H s :=
  ⟨⟨I.ok.mod, I.ok.kind, I.ok.glob, I.ok.blt, I.ok.above, I.ok.inj, I.ok.has, I.ok.cab, hd, I.ok.frames, I.ok.stk, I.ok.exf, I.ok.bs, I.ok.bsz, I.ok.noex, I.ok.exfs, I.ok.funs, I.ok.frf⟩, I.os, I.bare, I.base, I.loc, I.cell, I.free, I.freeC, I.pin, I.hok, I.len⟩
theorem Inv.gone {X : Cx} {pins : List (Addr × Obj)} {σ : St} {H : Hp} {s : Shared} {n : Str} {i : Nat} {h' : Heap} {v : Option Value} {m : Str → Option Value} {t' : Nat} (I : Inv X pins σ H s) (hN : X.N.Nodup) (hi : X.N[i]? = some n)
    (hl : ∀ (j : Nat) (x : Str) (v : V), X.N[j]? = some x → σ[j]? = some (some v) → Vis X.env.scope x → ∃ u, RelV v u ∧ Look X.env s.heap m x u)
    (hn : h'.Ns X.env.locals (fun x => if x = n then v else m x)) (hs : Heap.SameBut X.env.locals s.heap h') : Inv X pins (σ.set i none) H { s with heap := h', toks := t' } := by
  have cne := I.cne
  have hiσ : i < σ.length := by rw [I.len]; exact (List.getElem?_eq_some_iff.mp hi).1
  obtain ⟨m0, ⟨oL, es, ep, hoL, _⟩, _⟩ := I.loc
  have tracked : HOk X.prog X.w H h' := fun b ob e => by
    refine (I.hok b ob e).stay (fun c w' hc q => (hs.2 c ?_).trans q) (fun _ q => q) fun _ _ q => q
    rintro rfl
    have fr := I.free
    rcases hc with rfl | hc
    · rw [fr] at e; cases e
    · rw [fr] at hc; cases hc
  refine ⟨I.ok, I.os, I.bare, ⟨fun b o e n hb hx => ?_, fun b o e n hb hx => ?_, I.base.free, fun b o e hx => ?_, I.base.tups, I.base.frzs, I.base.tbls⟩, ⟨_, hn, fun j y v' e1 e2 e3 => ?_⟩, fun y c e => ?_, I.free, I.freeC, fun p hp => ?_, tracked, by simpa using I.len⟩
  · exact (hs.2 b (Nat.ne_of_lt (Nat.lt_of_lt_of_le (Heap.lt_size e) I.ok.above))).trans (I.base.keep b o e n hb hx)
  · obtain ⟨sl, e1⟩ := I.base.slot b o e n hb hx
    exact ⟨sl, (hs.2 b (Nat.ne_of_lt (Nat.lt_of_lt_of_le (Heap.lt_size e) I.ok.above))).trans e1⟩
  · obtain ⟨o', e1⟩ := I.base.there b o e hx
    exact ⟨o', (hs.2 b (Nat.ne_of_lt (Nat.lt_of_lt_of_le (Heap.lt_size e) I.ok.above))).trans e1⟩
  · by_cases hj : j = i
    · subst hj
      rw [List.getElem?_set_self hiσ] at e2
      cases e2
    · rw [List.getElem?_set_ne (Ne.symm hj)] at e2
      obtain ⟨u', r', q⟩ := hl j y v' e1 e2 e3
      refine ⟨u', r', ?_⟩
      rcases q with ⟨k, e⟩ | ⟨k, c, e, z⟩
      · refine .inl ⟨k, ?_⟩
        have : y ≠ n := fun e => hj (nodup_ix hN e1 (e ▸ hi))
        simp [this, e]
      · exact .inr ⟨k, c, e, z.sameBut hs (cne y c e)⟩
  · obtain ⟨w', z⟩ := I.cell y c e
    exact ⟨w', z.sameBut hs (cne y c e)⟩
  · obtain ⟨e, n, ne, nf, d⟩ := I.pin p hp
    exact ⟨(hs.2 p.1 ne).trans e, n, ne, nf, d⟩
theorem exc_isType {M : Model} {h : Heap} {Cp : Addr} {K : Frag} (X : K.In h) (Tp : ExcC K Cp) : Looks M h (isType (.ref Cp)) true := by
  obtain ⟨cdD, hcD⟩ := Option.isSome_iff_exists.mp Tp.cls
  unfold clsIn at hcD
  split at hcD
  · rename_i c' d' cd' sl' ho
    intro A' Q' E' s' k q
    unfold isType loadHead
    exact wpAny_bind (wpAny_loadPart (k _ _ (X _ _ ho)) (wpAny_pure q))
  · cases hcD
theorem exc_matches {M : Model} {A : Around} {E : Value → Shared → Prop} {h : Heap} {g : Array GenState} {d : Drawn} {t : Nat} {os : OsState} {a C Cp : Addr} {o : Obj} {K : Frag} {b : Bool} {Q : Bool → Shared → Prop} (X : K.In h) (Tp : ExcC K Cp) (hm : mroIn K C (.ref Cp) = some b)
    (hx : h.get? a = some o) (hc : o.cls = .ref C) (hq : Q b ⟨h, g, d, t, os⟩) : wpAny M A (excMatches (.ref a) (.ref Cp)) Q E ⟨h, g, d, t, os⟩ := by
  have L1 := looks_typeIn (M := M) X Tp.ty
  have L3 := looks_mroIn (M := M) X Tp.be
  have L4 := looks_mroIn (M := M) X hm
  have L5 : Looks M h (isType (.ref Cp)) true := exc_isType X Tp
  have f := tc_notTuple
  unfold excMatches
  repeat (first | (with_reducible refine wpAny_loadPart_at hx ?_; rw [hc]) | with_reducible refine L1.at ?_ | with_reducible refine L3.at ?_ | with_reducible refine L4.at ?_ | with_reducible refine L5.at ?_ | wp_step)
  cases b <;> (wp_walk; exact hq)
noncomputable def tTry (K : Frag) (Cp : Addr) (i : Nat) (tb : XK → TS) (th : TS) : TS := fun D σ H =>
  tb (fun cls _ H' => ∃ C, cls = .ref C ∧ ExcC K C ∧ mroIn K C (.ref Cp) = some true ∧ ∀ a, H' a = none → th { nx := fun σ2 H2 => D.nx (σ2.set i none) H2, rt := fun _ _ => False } (σ.set i (some (.ref a))) (upd H' a (excO a C))) D σ H
theorem ps_try {X : Cx} {body suite : List Stmt} {b₀ : Stmt} {x n : Str} {np hpos pos : Pos} {Cp : Addr} {i : Nat} {tb : XK → TS} {th : TS}
    (hstk : X.stack = X.env :: X.outer) (hfr : X.env.frame = some X.env.locals) (hN : X.N.Nodup) (hi : X.N[i]? = some n) (hl : X.env.kindOf n = some .local) (hg : Gl X x) (hm : X.mg x = some (.ref Cp)) (Tp : ExcC X.K Cp)
    (hb : ∀ (pins : List (Addr × Obj)) (σ : St) (xe' : Value → Shared → Prop) (E' : XK), PassesAt (CXW X.prog X.w) (X.wish xe') E' pins σ → PSsAt (X.wish xe') pins σ body (tb E'))
    (hh : ∀ a, PSs (hdCx X a) (b₀ :: suite) th) (hd : (x == ("__debug__" : Str)) = false := by decide) :
    PS X (.Try body [.ExceptHandler (some (.Name x np)) (some n) (b₀ :: suite) hpos] [] [] pos) (tTry X.K Cp i tb th) := by
  intro pins s σ H D I h
  refine wpAny_Try_except (wpAny_mono (hb pins σ (fun e s₁ => wpAny (model X.prog X.w) X.A (noteFrame e X.env) (fun _ s₂ => wpAny (model X.prog X.w) X.A (setFlight e none) (fun _ s₃ =>
    wpAny (model X.prog X.w) X.A (handleBy e X.env [.ExceptHandler (some (.Name x np)) (some n) (b₀ :: suite) hpos]) (SP X pins D) X.xe s₃) X.xe s₂) X.xe s₁) _ ?pass s H D (I.wish _) h) (fun f s1 q => ?_) (fun e s1 q => q))
  case pass =>
    intro H1 s1 e s' I1 hx
    obtain ⟨a, cls, a0, H', B, rfl, hos, hbare, un, hokB, hfl, keepB, thereB, C, rfl, T, hmC, hth⟩ := hx
    have J : Inv X pins σ H1 s1 := I1.unwish
    have hfl0 : Heap.FlyingW B (X.env :: X.outer) a (.ref C) a0 s'.heap := by rw [← hstk]; exact hfl
    have hfrm : X.A.frames = some (X.env :: X.outer) := by rw [← hstk]; exact J.ok.frames
    have nBa : B.get? a = none := hfl.2.1
    have nHa : H' a = none := by
      cases q : H' a with
      | none => rfl
      | some u =>
        obtain ⟨ob, eb⟩ := (hokB a u q).obj
        rw [nBa] at eb; cases eb
    have frame_ne : ∀ b, b ∈ frs X.stack → b ≠ a := fun b hb z => by
      obtain ⟨_, o, ho, nf⟩ := hfl.2.2.1.mem hb
      obtain ⟨oe, vs, _, _, _, he, _, hd', _⟩ := hfl.2.2.2
      rw [z, he] at ho; cases ho
      exact nf vs hd'
    have old_ne : ∀ b o, s1.heap.get? b = some o → b ≠ a := fun b o e z => by
      by_cases hb : b ∈ frs X.stack
      · exact frame_ne b hb z
      · obtain ⟨o', e'⟩ := thereB b o e hb
        rw [z, nBa] at e'; cases e'
    -- the heap at any later station
    have station : ∀ h5 : Heap, Heap.FlyingW B (X.env :: X.outer) a (.ref C) a0 h5 → s'.heap.UpToSlots h5 → ∀ t5, Inv X pins σ (upd H' a (excO a C)) { s' with heap := h5, toks := t5 } := fun h5 f5 up5 t5 => by
      have sl : ∀ b o, s1.heap.get? b = some o → H1 b = none → b ∈ frs X.stack → ∃ sl, h5.get? b = some { o with slots := sl } := fun b o e n hb => by
        obtain ⟨sl1, e1⟩ := un.slot b o e n hb (by simp)
        obtain ⟨_, o', e', nf⟩ := J.stack.mem hb
        rw [e] at e'; cases e'
        obtain ⟨sl2, e2⟩ := up5 b _ e1 nf
        exact ⟨sl2, e2⟩
      have un5 : Un (frs X.stack) [] H1 (upd H' a (excO a C)) s1.heap h5 := ⟨fun b o e n nf _ => f5.1 b o (keepB b o e n nf), fun b o e n hb _ => sl b o e n hb, fun b o e n _ => by rw [upd_ne (old_ne b o e)]; exact un.free b o e n (by simp), fun b o e _ => by
          by_cases hb : b ∈ frs X.stack
          · obtain ⟨sl, q⟩ := sl b o e (J.stkFree b hb) hb
            exact ⟨_, q⟩
          · obtain ⟨o', q⟩ := thereB b o e hb
            exact ⟨o', f5.1 b o' q⟩, fun b xs e => by
          have q := un.tups b xs e
          rw [upd_ne (ne_of_none q nHa)]; exact q, fun b o x e => by
          have q := un.frzs b o x e
          rw [upd_ne (ne_of_none q nHa)]; exact q, fun b ps e => by
          obtain ⟨m, q⟩ := un.tbls b ps e
          exact ⟨m, by rw [upd_ne (ne_of_none q nHa)]; exact q⟩⟩
      have at5 : ExcAt a C h5 := by
        obtain ⟨oe, vs, _, _, _, he, hc, hd', _⟩ := f5.2.2.2
        exact ⟨oe, vs, he, hc.1, hd'⟩
      have hok5 : HOk X.prog X.w (upd H' a (excO a C)) h5 := HOk.add (hokB.kept f5.1) nHa (excO_ok at5)
      obtain ⟨hh', gg, dd, tt, os'⟩ := s'
      obtain rfl : os' = s1.os := hos
      have IE := J.call (h' := h5) (g' := gg) (d' := dd) (t' := t5) (ch := []) un5 hok5 hbare (fun b z => absurd z (by simp))
      exact IE
    refine wpAny_looks_onW hfrm hfr hfl0 fun h4 held4 up4 => ?_
    refine wpAny_landsW held4 fun h5 f5 up5 => ?_
    have up5' := up4.trans up5
    have I5 := (station h5 f5 up5' s'.toks).hd (a := a)
    have at5 : ExcAt a C h5 := by
      obtain ⟨oe, vs, _, _, _, he, hc, hd', _⟩ := f5.2.2.2
      exact ⟨oe, vs, he, hc.1, hd'⟩
    refine wpAny_handleBy_cons (codeAny_handlers_test ?_) (by intro q; cases q)
    refine ld_glob (X := hdCx X a) I5 hg hm ?_ hd
    obtain ⟨oe, vs, he, hc, _⟩ := at5
    refine exc_matches I5.kIn Tp hmC he hc ?_
    refine codeAny_handlers_suite_as ?_
    refine lands_againW f5 fun h6 f6 up6 => ?_
    have I6 := (station h6 f6 (up5'.trans up6) s'.toks).hd (a := a)
    refine store_ok (X := hdCx X a) I6 hN hi (.inl hl) (v := .ref a) rfl (fun s7 I7 => ?_) (.inr hl)
    refine wpAny_mono (hh a pins s7 _ _ { nx := fun σ2 H2 => D.nx (σ2.set i none) H2, rt := fun _ _ => False } I7 (hth a nHa)) (fun f s8 q8 => ?_) fun _ _ z => z.elim
    cases f with
    | brk => obtain ⟨_, _, _, z⟩ := q8; exact z.elim
    | cont => obtain ⟨_, _, _, z⟩ := q8; exact z.elim
    | ret v => obtain ⟨_, _, _, _, _, z⟩ := q8; exact z.elim
    | next =>
      obtain ⟨σ8, H8, I8, q8⟩ := q8
      have J8 : Inv X pins σ8 H8 s8 := I8.unhd J.ok.hd
      obtain ⟨m8, n8, l8⟩ := J8.loc
      refine wpAny_nameGoes_keeps hl n8 (by rw [J8.ok.kind]; rfl) fun h9 v n9 sb9 => ?_
      exact ⟨σ8.set i none, H8, J8.gone hN hi l8 n9 sb9, q8⟩
  · have q' := q.unwish
    cases f with
    | next => exact wpAny_execs_nil q'
    | ret v => exact q'
    | brk => exact q'
    | cont => exact q'
end L2
set_option Elab.async false
set_option linter.all false
set_option maxRecDepth 100000
namespace L2
open PySem PySem.Spec PyProof.Rows PySem.W
inductive DV where
  | non | bl (b : Bool) | int (i : Int) | str (x : Str) | lst (xs : List DV) | tup (xs : List DV)
mutual
noncomputable def eqD : DV → DV → Bool
  | .non, .non => true
  | .bl a, .bl b => a == b
  | .bl a, .int b => (if a then 1 else 0) == b
  | .int a, .bl b => a == (if b then 1 else 0)
  | .int a, .int b => a == b
  | .str a, .str b => a == b
  | .lst a, .lst b => eqDs a b
  | .tup a, .tup b => eqDs a b
  | _, _ => false
noncomputable def eqDs : List DV → List DV → Bool
  | [], [] => true
  | a :: r, b :: t => eqD a b && eqDs r t
  | _, _ => false
end
mutual
noncomputable def ht : DV → Nat
  | .lst xs => hts xs + 1
  | .tup xs => hts xs + 1
  | _ => 0
noncomputable def hts : List DV → Nat
  | [] => 0
  | a :: r => max (ht a) (hts r)
end
theorem ht_lst (ds : List DV) : ht (.lst ds) = hts ds + 1 := by unfold ht; rfl
theorem ht_tup (ds : List DV) : ht (.tup ds) = hts ds + 1 := by unfold ht; rfl
mutual
inductive Deep (K : Frag) (H : Hp) : V → DV → Prop where
  | non : Deep K H .non .non
  | bl (b : Bool) : Deep K H (.bl b) (.bl b)
  | int (i : Int) : Deep K H (.int i) (.int i)
  | str (x : Str) : Deep K H (.str x) (.str x)
  | lst {a : Addr} {xs : List V} {ds : List DV} (h : SqL K H a xs) (t : Deeps K H xs ds) : Deep K H (.ref a) (.lst ds)
  | tup {a : Addr} {xs : List V} {ds : List DV} (h : SqT K H a xs) (t : Deeps K H xs ds) : Deep K H (.ref a) (.tup ds)
inductive Deeps (K : Frag) (H : Hp) : List V → List DV → Prop where
  | nil : Deeps K H [] []
  | cons {x : V} {d : DV} {xs : List V} {ds : List DV} (h : Deep K H x d) (t : Deeps K H xs ds) : Deeps K H (x :: xs) (d :: ds)
end
theorem Deeps.length {K : Frag} {H : Hp} : ∀ {xs : List V} {ds : List DV}, Deeps K H xs ds → xs.length = ds.length
  | _, _, .nil => rfl
  | _, _, .cons _ t => by rw [List.length_cons, List.length_cons, Deeps.length t]
theorem Deeps.get {K : Frag} {H : Hp} : ∀ {xs : List V} {ds : List DV} {i : Nat} {d : DV}, Deeps K H xs ds → ds[i]? = some d → ∃ x, xs[i]? = some x ∧ Deep K H x d
  | _, _, _, _, .nil, e => by simp at e
  | _, _, 0, _, .cons h _, e => by simp at e; subst e; exact ⟨_, rfl, h⟩
  | _, _, i + 1, d, .cons _ t, e => by
    obtain ⟨x, h1, h2⟩ := Deeps.get (i := i) (d := d) t (by simpa using e)
    exact ⟨x, by simpa using h1, h2⟩
theorem Deeps.ints {K : Frag} {H : Hp} : ∀ ns : List Int, Deeps K H (ns.map V.int) (ns.map DV.int)
  | [] => .nil
  | n :: r => .cons (.int n) (Deeps.ints r)
theorem eqDs_len : ∀ {a b : List DV}, eqDs a b = true → a.length = b.length
  | [], [], _ => rfl
  | a :: r, b :: t, h => by
    unfold eqDs at h
    rw [Bool.and_eq_true] at h
    rw [List.length_cons, List.length_cons, eqDs_len h.2]
  | [], _ :: _, h => by unfold eqDs at h; cases h
  | _ :: _, [], h => by unfold eqDs at h; cases h
noncomputable def eAt (ds es : List DV) (j : Nat) : Bool := match ds[j]?, es[j]? with
  | some d, some e => eqD d e
  | _, _ => true
theorem all_eAt : ∀ (ds es : List DV), ds.length = es.length → (List.range ds.length).all (eAt ds es) = eqDs ds es
  | [], [], _ => by unfold eqDs; rfl
  | d :: r, e :: t, h => by
    have ih := all_eAt r t (by simpa using h)
    rw [List.length_cons, List.range_succ_eq_map, List.all_cons, List.all_map]
    unfold eqDs
    rw [← ih]
    congr 1
  | [], _ :: _, h => by cases h
  | _ :: _, [], h => by cases h
theorem all_eAt_min : ∀ (ds es : List DV), ((List.range (min ds.length es.length)).all (eAt ds es) && ds.length == es.length) = eqDs ds es := fun ds es => by
  by_cases h : ds.length = es.length
  · rw [h, Nat.min_self, ← h, all_eAt ds es h]; simp
  · have h1 : (ds.length == es.length) = false := by simpa using h
    rw [h1, Bool.and_false]
    cases q : eqDs ds es with
    | false => rfl
    | true => exact absurd (eqDs_len q) h
theorem hts_get : ∀ {ds : List DV} {i : Nat} {d : DV}, ds[i]? = some d → ht d ≤ hts ds
  | [], _, _, e => by simp at e
  | a :: r, 0, d, e => by simp at e; subst e; unfold hts; exact Nat.le_max_left _ _
  | a :: r, i + 1, d, e => by
    have := hts_get (ds := r) (i := i) (d := d) (by simpa using e)
    unfold hts; exact Nat.le_trans this (Nat.le_max_right _ _)
section
variable {X : Cx} {pins : List (Addr × Obj)} {σ : St} {H : Hp} {s : Shared}
theorem lt_ne {a : Addr} {xs ys : List V} (I : Inv X pins σ H s) (h1 : SqL X.K H a xs) (h2 : SqT X.K H a ys) : False := by
  obtain ⟨its, _, p, _⟩ := I.list h1
  obtain ⟨its2, _, q, _⟩ := I.tuple h2
  exact SeqAt.ne_of_list_tuple p.isList (show s.heap.IsTuple a its2.toArray from q) rfl
mutual
theorem Deep.inj (I : Inv X pins σ H s) : ∀ {d : DV} {x : V} {e : DV}, Deep X.K H x d → Deep X.K H x e → d = e
  | .non, _, _, .non, h => by cases h; rfl
  | .bl b, _, _, .bl _, h => by cases h; rfl
  | .int b, _, _, .int _, h => by cases h; rfl
  | .str b, _, _, .str _, h => by cases h; rfl
  | .lst ds, _, _, .lst h t, h' => by
    cases h' with
    | lst h2 t2 =>
      have e := I.list_inj h h2
      subst e
      rw [Deeps.inj I t t2]
    | tup h2 t2 => exact (lt_ne I h h2).elim
  | .tup ds, _, _, .tup h t, h' => by
    cases h' with
    | tup h2 t2 =>
      have e := I.tuple_inj h h2
      subst e
      rw [Deeps.inj I t t2]
    | lst h2 t2 => exact (lt_ne I h2 h).elim
theorem Deeps.inj (I : Inv X pins σ H s) : ∀ {ds : List DV} {xs : List V} {es : List DV}, Deeps X.K H xs ds → Deeps X.K H xs es → ds = es
  | [], _, _, .nil, h => by cases h; rfl
  | d :: ds, _, _, .cons h t, h' => by
    cases h' with
    | cons h2 t2 => rw [Deep.inj I h h2, Deeps.inj I t t2]
end
mutual
theorem eqD_refl : ∀ d : DV, eqD d d = true
  | .non => by unfold eqD; rfl
  | .bl b => by unfold eqD; simp
  | .int b => by unfold eqD; simp
  | .str b => by unfold eqD; simp
  | .lst ds => by unfold eqD; exact eqDs_refl ds
  | .tup ds => by unfold eqD; exact eqDs_refl ds
theorem eqDs_refl : ∀ ds : List DV, eqDs ds ds = true
  | [] => by unfold eqDs; rfl
  | d :: r => by unfold eqDs; rw [eqD_refl d, eqDs_refl r]; rfl
end
theorem items_eq {A : Around} {xs ys : List V} {us vs : List Value} {ds es : List DV} (rx : Vals xs us) (ry : Vals ys vs) (t1 : Deeps X.K H xs ds) (t2 : Deeps X.K H ys es)
    (ih : ∀ d ∈ ds, ∀ (e : DV) (x y : V) (u v : Value), Deep X.K H x d → Deep X.K H y e → RelV x u → RelV y v → SeqAt.EqAt A s u v (eqD d e)) (j : Nat) (h1 : j < us.toArray.size) (h2 : j < vs.toArray.size) :
    SeqAt.EqAt A s us.toArray[j] vs.toArray[j] (eAt ds es j) := by
  have l1 := rx.length
  have l2 := ry.length
  have m1 := t1.length
  have m2 := t2.length
  simp only [List.size_toArray] at h1 h2
  have g1 : ds[j]? = some ds[j] := List.getElem?_eq_getElem (by trivial)
  have g2 : es[j]? = some es[j] := List.getElem?_eq_getElem (by trivial)
  obtain ⟨x, ex, dx⟩ := t1.get g1
  obtain ⟨y, ey, dy⟩ := t2.get g2
  obtain ⟨u, eu, ru⟩ := rx.get ex
  obtain ⟨v, ev, rv⟩ := ry.get ey
  have e1 : us.toArray[j] = u := by
    rw [List.getElem_toArray]
    exact Option.some.inj ((List.getElem?_eq_getElem h1).symm.trans eu)
  have e2 : vs.toArray[j] = v := by
    rw [List.getElem_toArray]
    exact Option.some.inj ((List.getElem?_eq_getElem h2).symm.trans ev)
  have e3 : eAt ds es j = eqD ds[j] es[j] := by unfold eAt; rw [g1, g2]
  rw [e1, e2, e3]
  exact ih _ (List.getElem_mem _) _ x y u v dx dy ru rv
theorem rc_deep (I : Inv X pins σ H s) {A : Around} (d e : DV) (x y : V) (u v : Value) (hx : Deep X.K H x d) (hy : Deep X.K H y e) (rx : RelV x u) (ry : RelV y v) (hu : A.units < cLine)
    (ih : ∀ (d' : DV), ht d' < ht d → ∀ (e : DV) (x y : V) (u v : Value), Deep X.K H x d' → Deep X.K H y e → RelV x u → RelV y v → SeqAt.EqAt A.in1 s u v (eqD d' e)) : SeqAt.RcAt A s u v (eqD d e) := by
  have hlt : ∀ {ds : List DV} {d' : DV}, d' ∈ ds → ht d' < hts ds + 1 := fun {ds d'} hm => by
    obtain ⟨i, hi, e⟩ := List.getElem_of_mem hm
    exact Nat.lt_succ_of_le (hts_get (i := i) (by rw [List.getElem?_eq_getElem hi, e]))
  cases hx with
  | non =>
    cases (show u = Value.none from rx)
    cases hy with
    | non => cases (show v = Value.none from ry); unfold eqD; exact SeqAt.RcAt.none_none
    | bl b => cases (show v = Value.bool b from ry); unfold eqD; exact SeqAt.RcAt.none_bool b
    | int b => obtain ⟨t, rfl⟩ := ry; unfold eqD; exact SeqAt.RcAt.none_int b t
    | str b => obtain ⟨t, rfl⟩ := ry; unfold eqD; exact SeqAt.RcAt.none_str b t
    | lst h t => cases ry; obtain ⟨its, r, p, _⟩ := I.list h; unfold eqD; exact SeqAt.RcAt.none_list p.isList hu
    | tup h t => cases ry; obtain ⟨its, r, p, _⟩ := I.tuple h; unfold eqD; exact SeqAt.RcAt.none_tuple (show s.heap.IsTuple _ its.toArray from p) hu
  | bl a =>
    cases (show u = Value.bool a from rx)
    cases hy with
    | non => cases (show v = Value.none from ry); unfold eqD; exact SeqAt.RcAt.bool_none a
    | bl b => cases (show v = Value.bool b from ry); unfold eqD; exact SeqAt.RcAt.bool_bool a b
    | int b => obtain ⟨t, rfl⟩ := ry; unfold eqD; exact SeqAt.RcAt.bool_int a b t
    | str b => obtain ⟨t, rfl⟩ := ry; unfold eqD; exact SeqAt.RcAt.bool_str a b t
    | lst h t => cases ry; obtain ⟨its, r, p, _⟩ := I.list h; unfold eqD; exact SeqAt.RcAt.bool_list a p.isList hu
    | tup h t => cases ry; obtain ⟨its, r, p, _⟩ := I.tuple h; unfold eqD; exact SeqAt.RcAt.bool_tuple a (show s.heap.IsTuple _ its.toArray from p) hu
  | int a =>
    obtain ⟨t', rfl⟩ := rx
    cases hy with
    | non => cases (show v = Value.none from ry); unfold eqD; exact SeqAt.RcAt.int_none a t'
    | bl b => cases (show v = Value.bool b from ry); unfold eqD; exact SeqAt.RcAt.int_bool a t' b
    | int b => obtain ⟨t, rfl⟩ := ry; unfold eqD; exact SeqAt.RcAt.int_int a t' b t
    | str b => obtain ⟨t, rfl⟩ := ry; unfold eqD; exact SeqAt.RcAt.int_str a t' b t
    | lst h t => cases ry; obtain ⟨its, r, p, _⟩ := I.list h; unfold eqD; exact SeqAt.RcAt.int_list a t' p.isList hu
    | tup h t => cases ry; obtain ⟨its, r, p, _⟩ := I.tuple h; unfold eqD; exact SeqAt.RcAt.int_tuple a t' (show s.heap.IsTuple _ its.toArray from p) hu
  | str a =>
    obtain ⟨t', rfl⟩ := rx
    cases hy with
    | non => cases (show v = Value.none from ry); unfold eqD; exact SeqAt.RcAt.str_none a t'
    | bl b => cases (show v = Value.bool b from ry); unfold eqD; exact SeqAt.RcAt.str_bool a t' b
    | int b => obtain ⟨t, rfl⟩ := ry; unfold eqD; exact SeqAt.RcAt.str_int a t' b t
    | str b => obtain ⟨t, rfl⟩ := ry; unfold eqD; exact SeqAt.RcAt.str_str a t' b t
    | lst h t => cases ry; obtain ⟨its, r, p, _⟩ := I.list h; unfold eqD; exact SeqAt.RcAt.str_list a t' p.isList hu
    | tup h t => cases ry; obtain ⟨its, r, p, _⟩ := I.tuple h; unfold eqD; exact SeqAt.RcAt.str_tuple a t' (show s.heap.IsTuple _ its.toArray from p) hu
  | @lst a xs ds h t1 =>
    cases rx
    obtain ⟨its, r, p, _⟩ := I.list h
    cases hy with
    | non => cases (show v = Value.none from ry); unfold eqD; exact SeqAt.RcAt.list_none p.isList hu
    | bl b => cases (show v = Value.bool b from ry); unfold eqD; exact SeqAt.RcAt.list_bool b p.isList hu
    | int b => obtain ⟨t, rfl⟩ := ry; unfold eqD; exact SeqAt.RcAt.list_int b t p.isList hu
    | str b => obtain ⟨t, rfl⟩ := ry; unfold eqD; exact SeqAt.RcAt.list_str b t p.isList hu
    | @lst b ys es h2 t2 =>
      cases ry
      obtain ⟨its2, r2, p2, _⟩ := I.list h2
      have l1 := r.length
      have l2 := r2.length
      have m1 := t1.length
      have m2 := t2.length
      have it := items_eq (A := A.in1) r r2 t1 t2 fun d' hd' e x y u v a b c d => ih d' (by rw [ht_lst]; exact hlt hd') e x y u v a b c d
      unfold eqD
      by_cases hl : ds.length = es.length
      · have q := SeqAt.RcAt.lists (e := eAt ds es) p.isList p2.isList (by simp only [List.size_toArray]; trivial) hu it
        rw [← all_eAt ds es hl]
        have e1 : its.toArray.size = ds.length := by simp only [List.size_toArray]; trivial
        rw [e1] at q
        exact q
      · have q := SeqAt.RcAt.lists_lengths (A := A) p.isList p2.isList (by simp only [List.size_toArray, bne_iff_ne]; trivial) hu
        cases z : eqDs ds es with
        | false => exact q
        | true => exact absurd (eqDs_len z) hl
    | @tup b ys es h2 t2 =>
      cases ry
      obtain ⟨its2, r2, p2, _⟩ := I.tuple h2
      unfold eqD
      exact SeqAt.RcAt.list_tuple p.isList (show s.heap.IsTuple b its2.toArray from p2) hu
  | @tup a xs ds h t1 =>
    cases rx
    obtain ⟨its, r, p, _⟩ := I.tuple h
    have p' : s.heap.IsTuple a its.toArray := p
    cases hy with
    | non => cases (show v = Value.none from ry); unfold eqD; exact SeqAt.RcAt.tuple_none p' hu
    | bl b => cases (show v = Value.bool b from ry); unfold eqD; exact SeqAt.RcAt.tuple_bool b p' hu
    | int b => obtain ⟨t, rfl⟩ := ry; unfold eqD; exact SeqAt.RcAt.tuple_int b t p' hu
    | str b => obtain ⟨t, rfl⟩ := ry; unfold eqD; exact SeqAt.RcAt.tuple_str b t p' hu
    | @lst b ys es h2 t2 =>
      cases ry
      obtain ⟨its2, r2, p2, _⟩ := I.list h2
      unfold eqD
      exact SeqAt.RcAt.tuple_list p' p2.isList hu
    | @tup b ys es h2 t2 =>
      cases ry
      obtain ⟨its2, r2, p2, _⟩ := I.tuple h2
      have p2' : s.heap.IsTuple b its2.toArray := p2
      have l1 := r.length
      have l2 := r2.length
      have m1 := t1.length
      have m2 := t2.length
      have it := items_eq (A := A.in1) r r2 t1 t2 fun d' hd' e x y u v a b c d => ih d' (by rw [ht_tup]; exact hlt hd') e x y u v a b c d
      unfold eqD
      have q := SeqAt.RcAt.tuples (e := eAt ds es) p' p2' hu it
      have e1 : its.toArray.size = ds.length := by simp only [List.size_toArray]; trivial
      have e2 : its2.toArray.size = es.length := by simp only [List.size_toArray]; trivial
      rw [e1, e2, all_eAt_min] at q
      exact q
theorem eq_deep (I : Inv X pins σ H s) : ∀ (n : Nat) {A : Around} (d : DV), ht d ≤ n → A.units + n < cLine → ∀ (e : DV) (x y : V) (u v : Value), Deep X.K H x d → Deep X.K H y e → RelV x u → RelV y v → SeqAt.EqAt A s u v (eqD d e) := by
  intro n
  induction n with
  | zero =>
    intro A d hd hu e x y u v hx hy rx ry
    have rc := rc_deep I (A := A) d e x y u v hx hy rx ry (by trivial) (fun d' h => absurd h (by trivial))
    exact eq_of_rc I hx hy rx ry rc
  | succ n ihn =>
    intro A d hd hu e x y u v hx hy rx ry
    have rc := rc_deep I (A := A) d e x y u v hx hy rx ry (by trivial) (fun d' h => ihn (A := A.in1) d' (by trivial) (by rw [Around.in1_units]; trivial))
    exact eq_of_rc I hx hy rx ry rc
where
  eq_of_rc (I : Inv X pins σ H s) {A : Around} {d e : DV} {x y : V} {u v : Value} (hx : Deep X.K H x d) (hy : Deep X.K H y e) (rx : RelV x u) (ry : RelV y v) (rc : SeqAt.RcAt A s u v (eqD d e)) : SeqAt.EqAt A s u v (eqD d e) := by
    intro prog w E Q hq
    unfold eqBool
    refine wpAny_holding ?_
    refine wpAny_ite_split (fun hab => ?_) (fun hab => ?_)
    · have e1 : x = y := by
        have e0 := eq_of_beq hab
        rw [e0] at rx
        exact rx.inj ry
      subst e1
      have e2 := Deep.inj I hx hy
      subst e2
      rw [eqD_refl] at hq
      exact wpAny_bind (wpAny_rule (wpAny_pure hq))
    · cases hx <;> cases hy <;> first
        | (cases rx; cases ry; exact wpAny_bind (rc prog w E _ (wpAny_truthy_bool hq)))
        | (obtain ⟨t, rfl⟩ := rx; cases ry; exact wpAny_bind (rc prog w E _ (wpAny_truthy_bool hq)))
        | (cases rx; obtain ⟨t, rfl⟩ := ry; exact wpAny_bind (rc prog w E _ (wpAny_truthy_bool hq)))
        | (obtain ⟨t, rfl⟩ := rx; obtain ⟨t', rfl⟩ := ry; exact wpAny_bind (rc prog w E _ (wpAny_truthy_bool hq)))
theorem rcne_deep (I : Inv X pins σ H s) {A : Around} (d e : DV) (x y : V) (u v : Value) (hx : Deep X.K H x d) (hy : Deep X.K H y e) (rx : RelV x u) (ry : RelV y v) (hu : A.units < cLine)
    (ih : ∀ (d' : DV), ht d' < ht d → ∀ (e : DV) (x y : V) (u v : Value), Deep X.K H x d' → Deep X.K H y e → RelV x u → RelV y v → SeqAt.EqAt A.in1 s u v (eqD d' e)) : SeqAt.RcNeAt A s u v (!eqD d e) := by
  have hlt : ∀ {ds : List DV} {d' : DV}, d' ∈ ds → ht d' < hts ds + 1 := fun {ds d'} hm => by
    obtain ⟨i, hi, e⟩ := List.getElem_of_mem hm
    exact Nat.lt_succ_of_le (hts_get (i := i) (by rw [List.getElem?_eq_getElem hi, e]))
  cases hx with
  | non =>
    cases (show u = Value.none from rx)
    cases hy with
    | non => cases (show v = Value.none from ry); unfold eqD; exact SeqAt.RcNeAt.none_none
    | bl b => cases (show v = Value.bool b from ry); unfold eqD; exact SeqAt.RcNeAt.none_bool b
    | int b => obtain ⟨t, rfl⟩ := ry; unfold eqD; exact SeqAt.RcNeAt.none_int b t
    | str b => obtain ⟨t, rfl⟩ := ry; unfold eqD; exact SeqAt.RcNeAt.none_str b t
    | lst h t => cases ry; obtain ⟨its, r, p, _⟩ := I.list h; unfold eqD; exact SeqAt.RcNeAt.none_list p.isList hu
    | tup h t => cases ry; obtain ⟨its, r, p, _⟩ := I.tuple h; unfold eqD; exact SeqAt.RcNeAt.none_tuple (show s.heap.IsTuple _ its.toArray from p) hu
  | bl a =>
    cases (show u = Value.bool a from rx)
    cases hy with
    | non => cases (show v = Value.none from ry); unfold eqD; exact SeqAt.RcNeAt.bool_none a
    | bl b => cases (show v = Value.bool b from ry); unfold eqD; exact SeqAt.RcNeAt.bool_bool a b
    | int b => obtain ⟨t, rfl⟩ := ry; unfold eqD; exact SeqAt.RcNeAt.bool_int a b t
    | str b => obtain ⟨t, rfl⟩ := ry; unfold eqD; exact SeqAt.RcNeAt.bool_str a b t
    | lst h t => cases ry; obtain ⟨its, r, p, _⟩ := I.list h; unfold eqD; exact SeqAt.RcNeAt.bool_list a p.isList hu
    | tup h t => cases ry; obtain ⟨its, r, p, _⟩ := I.tuple h; unfold eqD; exact SeqAt.RcNeAt.bool_tuple a (show s.heap.IsTuple _ its.toArray from p) hu
  | int a =>
    obtain ⟨t', rfl⟩ := rx
    cases hy with
    | non => cases (show v = Value.none from ry); unfold eqD; exact SeqAt.RcNeAt.int_none a t'
    | bl b => cases (show v = Value.bool b from ry); unfold eqD; exact SeqAt.RcNeAt.int_bool a t' b
    | int b => obtain ⟨t, rfl⟩ := ry; unfold eqD; exact SeqAt.RcNeAt.int_int a t' b t
    | str b => obtain ⟨t, rfl⟩ := ry; unfold eqD; exact SeqAt.RcNeAt.int_str a t' b t
    | lst h t => cases ry; obtain ⟨its, r, p, _⟩ := I.list h; unfold eqD; exact SeqAt.RcNeAt.int_list a t' p.isList hu
    | tup h t => cases ry; obtain ⟨its, r, p, _⟩ := I.tuple h; unfold eqD; exact SeqAt.RcNeAt.int_tuple a t' (show s.heap.IsTuple _ its.toArray from p) hu
  | str a =>
    obtain ⟨t', rfl⟩ := rx
    cases hy with
    | non => cases (show v = Value.none from ry); unfold eqD; exact SeqAt.RcNeAt.str_none a t'
    | bl b => cases (show v = Value.bool b from ry); unfold eqD; exact SeqAt.RcNeAt.str_bool a t' b
    | int b => obtain ⟨t, rfl⟩ := ry; unfold eqD; exact SeqAt.RcNeAt.str_int a t' b t
    | str b => obtain ⟨t, rfl⟩ := ry; unfold eqD; exact SeqAt.RcNeAt.str_str a t' b t
    | lst h t => cases ry; obtain ⟨its, r, p, _⟩ := I.list h; unfold eqD; exact SeqAt.RcNeAt.str_list a t' p.isList hu
    | tup h t => cases ry; obtain ⟨its, r, p, _⟩ := I.tuple h; unfold eqD; exact SeqAt.RcNeAt.str_tuple a t' (show s.heap.IsTuple _ its.toArray from p) hu
  | @lst a xs ds h t1 =>
    cases rx
    obtain ⟨its, r, p, _⟩ := I.list h
    cases hy with
    | non => cases (show v = Value.none from ry); unfold eqD; exact SeqAt.RcNeAt.list_none p.isList hu
    | bl b => cases (show v = Value.bool b from ry); unfold eqD; exact SeqAt.RcNeAt.list_bool b p.isList hu
    | int b => obtain ⟨t, rfl⟩ := ry; unfold eqD; exact SeqAt.RcNeAt.list_int b t p.isList hu
    | str b => obtain ⟨t, rfl⟩ := ry; unfold eqD; exact SeqAt.RcNeAt.list_str b t p.isList hu
    | @lst b ys es h2 t2 =>
      cases ry
      obtain ⟨its2, r2, p2, _⟩ := I.list h2
      have l1 := r.length
      have l2 := r2.length
      have m1 := t1.length
      have m2 := t2.length
      have it := items_eq (A := A.in1) r r2 t1 t2 fun d' hd' e x y u v a b c d => ih d' (by rw [ht_lst]; exact hlt hd') e x y u v a b c d
      unfold eqD
      by_cases hl : ds.length = es.length
      · have q := SeqAt.RcNeAt.lists (e := eAt ds es) p.isList p2.isList (by simp only [List.size_toArray]; trivial) hu it
        rw [← all_eAt ds es hl]
        have e1 : its.toArray.size = ds.length := by simp only [List.size_toArray]; trivial
        rw [e1] at q
        exact q
      · have q := SeqAt.RcNeAt.lists_lengths (A := A) p.isList p2.isList (by simp only [List.size_toArray, bne_iff_ne]; trivial) hu
        cases z : eqDs ds es with
        | false => exact q
        | true => exact absurd (eqDs_len z) hl
    | @tup b ys es h2 t2 =>
      cases ry
      obtain ⟨its2, r2, p2, _⟩ := I.tuple h2
      unfold eqD
      exact SeqAt.RcNeAt.list_tuple p.isList (show s.heap.IsTuple b its2.toArray from p2) hu
  | @tup a xs ds h t1 =>
    cases rx
    obtain ⟨its, r, p, _⟩ := I.tuple h
    have p' : s.heap.IsTuple a its.toArray := p
    cases hy with
    | non => cases (show v = Value.none from ry); unfold eqD; exact SeqAt.RcNeAt.tuple_none p' hu
    | bl b => cases (show v = Value.bool b from ry); unfold eqD; exact SeqAt.RcNeAt.tuple_bool b p' hu
    | int b => obtain ⟨t, rfl⟩ := ry; unfold eqD; exact SeqAt.RcNeAt.tuple_int b t p' hu
    | str b => obtain ⟨t, rfl⟩ := ry; unfold eqD; exact SeqAt.RcNeAt.tuple_str b t p' hu
    | @lst b ys es h2 t2 =>
      cases ry
      obtain ⟨its2, r2, p2, _⟩ := I.list h2
      unfold eqD
      exact SeqAt.RcNeAt.tuple_list p' p2.isList hu
    | @tup b ys es h2 t2 =>
      cases ry
      obtain ⟨its2, r2, p2, _⟩ := I.tuple h2
      have p2' : s.heap.IsTuple b its2.toArray := p2
      have l1 := r.length
      have l2 := r2.length
      have m1 := t1.length
      have m2 := t2.length
      have it := items_eq (A := A.in1) r r2 t1 t2 fun d' hd' e x y u v a b c d => ih d' (by rw [ht_tup]; exact hlt hd') e x y u v a b c d
      unfold eqD
      have q := SeqAt.RcNeAt.tuples (e := eAt ds es) p' p2' hu it
      have e1 : its.toArray.size = ds.length := by simp only [List.size_toArray]; trivial
      have e2 : its2.toArray.size = es.length := by simp only [List.size_toArray]; trivial
      rw [e1, e2, all_eAt_min] at q
      exact q
end
noncomputable def rEqD (K : Frag) : R2 := fun x y H Q => ∃ d e, Deep K H x d ∧ Deep K H y e ∧ ht d ≤ 60 ∧ Q (.bl (eqD d e)) H
theorem op_eqD {X : Cx} (hu : X.A.units + 64 < cLine) : OpR X (compareOp .Eq) (rEqD X.K) := by
  intro pins s σ H x y v u Q I rx ry h
  obtain ⟨d, e, hx, hy, hh, q⟩ := h
  have rc := rc_deep I (A := X.A) d e x y v u hx hy rx ry (by trivial) (fun d' h => eq_deep I 60 d' (by trivial) (by rw [Around.in1_units]; trivial))
  exact rc X.prog X.w X.xe _ ⟨.bl _, H, I, rfl, q⟩
noncomputable def rNeD (K : Frag) : R2 := fun x y H Q => ∃ d e, Deep K H x d ∧ Deep K H y e ∧ ht d ≤ 60 ∧ Q (.bl (!eqD d e)) H
theorem op_neD {X : Cx} (hu : X.A.units + 64 < cLine) : OpR X (compareOp .NotEq) (rNeD X.K) := by
  intro pins s σ H x y v u Q I rx ry h
  obtain ⟨d, e, hx, hy, hh, q⟩ := h
  have rc := rcne_deep I (A := X.A) d e x y v u hx hy rx ry (by trivial) (fun d' h => eq_deep I 60 d' (by trivial) (by rw [Around.in1_units]; trivial))
  exact rc X.prog X.w X.xe _ ⟨.bl _, H, I, rfl, q⟩
end L2
set_option Elab.async false
set_option linter.all false
set_option maxRecDepth 100000
namespace L2
open PySem PySem.Spec PyProof.Rows PySem.W
noncomputable def compOk (osc : Scope) (XN N : List Str) (js : List (Option Nat)) (scope : Scope) : Bool :=
  scope.names.all (fun y => !(y.2 == NameKind.cell)) && scope.names.all (fun y => !(y.2 == NameKind.local) || scope.names.lookup y.1 == some .local) &&
  scope.names.all (fun y => !(y.2 == NameKind.free) || osc.names.lookup y.1 == some .cell || osc.names.lookup y.1 == some .free) && js.length == N.length &&
  (js.zip N).all (fun p => match p.1 with | none => true | some j => XN[j]? == some p.2 && scope.names.lookup p.2 == some .free)
theorem comp_scope {X : Cx} {N : List Str} {js : List (Option Nat)} {scope : Scope} {osc : Scope} {XN : List Str} (hk : scope.kind = .function) (e1 : X.env.scope = osc) (e2 : X.N = XN) (h : compOk osc XN N js scope = true) : CompScope X N js scope := by
  unfold compOk at h
  simp only [Bool.and_eq_true, List.all_eq_true, Bool.or_eq_true, Bool.not_eq_true', beq_iff_eq] at h
  obtain ⟨⟨⟨⟨h1, h2⟩, h3⟩, h4⟩, h5⟩ := h
  refine ⟨hk, fun y hy z => ?_, fun y hy z => ?_, fun y hy z => ?_, h4, fun i j x ej ex => ?_⟩
  · have := h1 y hy
    rw [z] at this; cases this
  · rcases h2 y hy with q | q
    · rw [z] at q; cases q
    · exact q
  · show X.env.scope.names.lookup y.1 = _ ∨ X.env.scope.names.lookup y.1 = _
    rw [e1]
    rcases h3 y hy with (q | q) | q
    · rw [z] at q; cases q
    · exact .inl q
    · exact .inr q
  · have hm : (some j, x) ∈ js.zip N := by
      refine List.mem_iff_getElem?.mpr ⟨i, ?_⟩
      rw [List.getElem?_zip_eq_some]
      exact ⟨ej, ex⟩
    have q := h5 _ hm
    simp only [Bool.and_eq_true, beq_iff_eq] at q
    rw [e2]
    exact q
noncomputable def CW (n : Nat) (Pv : Nat → St → Hp → Prop) (i m : Nat) (σ : St) (H : Hp) : Prop := m = n - i ∧ i ≤ n ∧ Pv i σ H
theorem CW.next {n : Nat} {Pv : Nat → St → Hp → Prop} {i : Nat} {σ : St} {H : Hp} (hi : i < n) (h : Pv (i + 1) σ H) : ∃ m', m' < n - i ∧ CW n Pv (i + 1) m' σ H := ⟨n - (i + 1), by trivial, rfl, hi, h⟩
theorem comp_rng {lo : Int} {n : Nat} {D : Addr} {σ0 : St} {H1 : Hp} {Q : VK} {g : TG} {tc : TT} {te : TE} (Pv : Nat → St → Hp → Prop) (h0 : Pv 0 σ0 (upd H1 D (.lst [])))
    (hs : ∀ i σ' H', i < n → Pv i σ' H' → g (.int (lo + i)) σ' H' fun σ2 H3 => tc σ2 H3 fun b H4 => if b = true then te σ2 H4 fun v H5 => rAppend (.ref D) [v] H5 fun _ H6 => ∃ m', m' < n - i ∧ CW n Pv (i + 1) m' σ2 H6 else ∃ m', m' < n - i ∧ CW n Pv (i + 1) m' σ2 H4)
    (hd : ∀ σ' H', Pv n σ' H' → Q (.ref D) H') :
    ∃ W : Nat → Nat → St → Hp → Prop, (∃ m, W 0 m σ0 (upd H1 D (.lst []))) ∧ ∀ i m σ' H', W i m σ' H' → ((Itr lo n).stop i H' ∧ Q (.ref D) H') ∨ ((Itr lo n).go i H' ∧ ∀ x H2, (Itr lo n).yld i H' x H2 → g x σ' H2 fun σ2 H3 => tc σ2 H3 fun b H4 =>
      if b = true then te σ2 H4 fun v H5 => rAppend (.ref D) [v] H5 fun _ H6 => ∃ m', m' < m ∧ W (i + 1) m' σ2 H6 else ∃ m', m' < m ∧ W (i + 1) m' σ2 H4) := by
  refine ⟨CW n Pv, ⟨n, rfl, Nat.zero_le _, h0⟩, ?_⟩
  rintro i m σ' H' ⟨rfl, hi, p⟩
  by_cases hlt : i < n
  · refine .inr ⟨hlt, fun x H2 y => ?_⟩
    obtain ⟨e, y⟩ := y
    subst e y
    exact hs i σ' _ hlt p
  · have e : i = n := by trivial
    subst e
    exact .inl ⟨Nat.le_refl _, hd σ' H' p⟩
theorem comp_lst {K : Frag} {a : Addr} {xs : List V} {D : Addr} {σ0 : St} {H1 : Hp} {Q : VK} {g : TG} {tc : TT} {te : TE} (Pv : Nat → St → Hp → Prop) (h0 : Pv 0 σ0 (upd H1 D (.lst []))) (hl : ∀ i σ H, i ≤ xs.length → Pv i σ H → SqL K H a xs)
    (hs : ∀ i x σ' H', xs[i]? = some x → Pv i σ' H' → g x σ' H' fun σ2 H3 => tc σ2 H3 fun b H4 => if b = true then te σ2 H4 fun v H5 => rAppend (.ref D) [v] H5 fun _ H6 => ∃ m', m' < xs.length - i ∧ CW xs.length Pv (i + 1) m' σ2 H6 else ∃ m', m' < xs.length - i ∧ CW xs.length Pv (i + 1) m' σ2 H4)
    (hd : ∀ σ' H', Pv xs.length σ' H' → Q (.ref D) H') :
    ∃ W : Nat → Nat → St → Hp → Prop, (∃ m, W 0 m σ0 (upd H1 D (.lst []))) ∧ ∀ i m σ' H', W i m σ' H' → ((Itl K a).stop i H' ∧ Q (.ref D) H') ∨ ((Itl K a).go i H' ∧ ∀ x H2, (Itl K a).yld i H' x H2 → g x σ' H2 fun σ2 H3 => tc σ2 H3 fun b H4 =>
      if b = true then te σ2 H4 fun v H5 => rAppend (.ref D) [v] H5 fun _ H6 => ∃ m', m' < m ∧ W (i + 1) m' σ2 H6 else ∃ m', m' < m ∧ W (i + 1) m' σ2 H4) := by
  refine ⟨CW xs.length Pv, ⟨xs.length, rfl, Nat.zero_le _, h0⟩, ?_⟩
  rintro i m σ' H' ⟨rfl, hi, p⟩
  have q := hl i σ' H' hi p
  by_cases hlt : i < xs.length
  · refine .inr ⟨⟨xs, xs[i], q, by simp [hlt]⟩, fun x H2 y => ?_⟩
    obtain ⟨e, y⟩ := y
    subst e
    exact hs i x σ' _ (y xs q) p
  · have e : i = xs.length := by trivial
    subst e
    exact .inl ⟨⟨xs, q, Nat.le_refl _⟩, hd σ' H' p⟩
noncomputable def rBitLen : V → List V → Hp → VK → Prop := fun x vs H Q => ∃ n, x = .int n ∧ vs = [] ∧ Q (.int (Builtin.Int.intBits n)) H
theorem mt_bitlen {X : Cx} : MtR X "int.bit_length" rBitLen := by
  intro pins s σ H x xs v us Q I rx rv h
  obtain ⟨n, rfl, rfl, q⟩ := h
  obtain ⟨t, rfl⟩ := rx
  cases rv.zero
  exact call_int_bit_length ⟨.int _, H, I.tok _, ⟨_, rfl⟩, q⟩
theorem eqDs_ints : ∀ (a b : List Int), eqDs (a.map DV.int) (b.map DV.int) = decide (a = b)
  | [], [] => by unfold eqDs; rfl
  | [], _ :: _ => by simp [eqDs]
  | _ :: _, [] => by simp [eqDs]
  | x :: r, y :: t => by
    rw [List.map_cons, List.map_cons]
    unfold eqDs eqD
    rw [eqDs_ints r t]
    by_cases h : x = y <;> by_cases h2 : r = t <;> simp [h, h2]
theorem hts_ints : ∀ a : List Int, hts (a.map DV.int) = 0
  | [] => by unfold hts; rfl
  | x :: r => by rw [List.map_cons]; unfold hts ht; rw [hts_ints r]; rfl
noncomputable def rEqI (K : Frag) : R2 := fun x y H Q => ∃ (a b : Addr) (ns ms : List Int), x = .ref a ∧ y = .ref b ∧ SqL K H a (ns.map V.int) ∧ SqL K H b (ms.map V.int) ∧ Q (.bl (decide (ns = ms))) H
theorem op_eqL {X : Cx} (hu : X.A.units + 64 < cLine) : OpR X (compareOp .Eq) (rEqI X.K) := by
  intro pins s σ H x y v u Q I rx ry h
  obtain ⟨a, b, ns, ms, rfl, rfl, h1, h2, q⟩ := h
  refine op_eqD hu pins s σ H _ _ v u Q I rx ry ⟨_, _, .lst h1 (Deeps.ints ns), .lst h2 (Deeps.ints ms), ?_, ?_⟩
  · unfold ht; rw [hts_ints]; decide
  · unfold eqD; rw [eqDs_ints]; exact q
theorem units_of {A : Around} {k : Nat} (hr : Room k A) : A.units + 64 < cLine := by have := hr.un; trivial
theorem nameT {j : Nat} {v : V} {σ : St} {H : Hp} {A B : St → Hp → Prop} (h : A (σ.set j (some v)) H) : gName j v σ H (fun σ2 H3 => tTrue σ2 H3 (fun b H4 => if b = true then A σ2 H4 else B σ2 H4)) := by
  show if true = true then A (σ.set j (some v)) H else B (σ.set j (some v)) H
  exact iteT h
noncomputable abbrev rLen (K : Frag) : List V → Hp → VK → Prop := fun xs H Q => ∃ p ys, xs = [.ref p] ∧ (SqL K H p ys ∨ SqT K H p ys) ∧ Q (.int ys.length) H
end L2
namespace PH
noncomputable def worth (bs : List Int) : Int := bs.foldl (fun a b => a + a + b) 0
noncomputable def horner (bs : List Int) : Int := bs.foldl (fun a b => 2 * a + b) 0
noncomputable def isBits (bs : List Int) : Prop := ∀ b ∈ bs, b = 0 ∨ b = 1
noncomputable def wl : List Int → Int
  | [] => 0
  | b :: r => b + 2 * wl r
noncomputable def rlow (n : Int) : Nat → List Int
  | 0 => []
  | k + 1 => (n % 2) :: rlow (n / 2) k
noncomputable def lowb (n : Int) (k : Nat) : List Int := (rlow n k).reverse
theorem foldl_worth (bs : List Int) : ∀ a, bs.foldl (fun a b => a + a + b) a = bs.foldl (fun a b => 2 * a + b) a := by
  induction bs with
  | nil => intro a; rfl
  | cons b r ih => intro a; simp only [List.foldl_cons]; rw [show a + a + b = 2 * a + b by trivial]; exact ih _
theorem worth_eq (bs : List Int) : horner bs = worth bs := (foldl_worth bs 0).symm
theorem worth_snoc (bs : List Int) (b : Int) : worth (bs ++ [b]) = worth bs + worth bs + b := by unfold worth; rw [List.foldl_append]; rfl
theorem horner_snoc (bs : List Int) (b : Int) : horner (bs ++ [b]) = 2 * horner bs + b := by unfold horner; rw [List.foldl_append]; rfl
theorem wl_cons (b : Int) (r : List Int) : wl (b :: r) = b + 2 * wl r := rfl
theorem worth_rev : ∀ rs : List Int, worth rs.reverse = wl rs
  | [] => rfl
  | b :: r => by rw [List.reverse_cons, worth_snoc, worth_rev r, wl_cons]; trivial
theorem worth_wl (bs : List Int) : worth bs = wl bs.reverse := by rw [← worth_rev, List.reverse_reverse]
theorem isBits_rev {bs : List Int} (h : isBits bs) : isBits bs.reverse := fun b hb => h b (List.mem_reverse.mp hb)
theorem rlow_length (n : Int) (k : Nat) : (rlow n k).length = k := by
  induction k generalizing n with
  | zero => rfl
  | succ k ih => unfold rlow; rw [List.length_cons, ih]
theorem lowb_length (n : Int) (k : Nat) : (lowb n k).length = k := by unfold lowb; rw [List.length_reverse, rlow_length]
theorem rlow_bits (n : Int) (k : Nat) : isBits (rlow n k) := by
  induction k generalizing n with
  | zero => intro b hb; cases hb
  | succ k ih =>
    intro b hb
    unfold rlow at hb
    rcases List.mem_cons.mp hb with e | hb
    · trivial
    · exact ih _ b hb
theorem lowb_bits (n : Int) (k : Nat) : isBits (lowb n k) := isBits_rev (rlow_bits n k)
theorem rlow_snoc (n : Int) (k : Nat) : rlow n (k + 1) = rlow n k ++ [(n / 2 ^ k) % 2] := by
  induction k generalizing n with
  | zero => unfold rlow rlow; simp
  | succ k ih =>
    rw [show rlow n (k + 1 + 1) = (n % 2) :: rlow (n / 2) (k + 1) from rfl, ih]
    rw [show rlow n (k + 1) = (n % 2) :: rlow (n / 2) k from rfl, List.cons_append]
    congr 3
    rw [Int.pow_succ, Int.mul_comm, ← Int.ediv_ediv_of_nonneg (by decide)]
theorem div_pow_succ (n : Int) (k : Nat) : n / 2 ^ k / 2 = n / 2 ^ (k + 1) := by
  rw [Int.ediv_ediv_of_nonneg (Int.le_of_lt (Int.pow_pos (by decide))), Int.pow_succ]
theorem rlow_zero (k : Nat) : rlow 0 k = List.replicate k 0 := by
  induction k with
  | zero => rfl
  | succ k ih => unfold rlow; rw [List.replicate_succ]; simp [ih]
theorem rlow_wl : ∀ (rs : List Int), isBits rs → ∀ m, rlow (wl rs) (rs.length + m) = rs ++ List.replicate m 0
  | [], _, m => by rw [List.length_nil, Nat.zero_add]; unfold wl; rw [rlow_zero]; rfl
  | b :: r, h, m => by
    have hb := h b List.mem_cons_self
    have ih := rlow_wl r (fun c hc => h c (List.mem_cons_of_mem _ hc)) m
    rw [show (b :: r).length + m = (r.length + m) + 1 by rw [List.length_cons]; trivial]
    unfold rlow
    have e1 : wl (b :: r) % 2 = b := by rw [wl_cons]; trivial
    have e2 : wl (b :: r) / 2 = wl r := by rw [wl_cons]; trivial
    rw [e1, e2, ih]; rfl
theorem lowb_worth {bs : List Int} (h : isBits bs) (m : Nat) : lowb (worth bs) (bs.length + m) = List.replicate m 0 ++ bs := by
  unfold lowb
  rw [worth_wl, show bs.length = bs.reverse.length by rw [List.length_reverse], rlow_wl _ (isBits_rev h), List.reverse_append, List.reverse_reverse, List.reverse_replicate]
theorem wl_bound : ∀ (rs : List Int), isBits rs → 0 ≤ wl rs ∧ wl rs < 2 ^ rs.length
  | [], _ => by unfold wl; simp
  | b :: r, h => by
    have hb := h b List.mem_cons_self
    have ih := wl_bound r fun c hc => h c (List.mem_cons_of_mem _ hc)
    rw [List.length_cons, Int.pow_succ, wl_cons]
    trivial
theorem worth_bound {bs : List Int} (h : isBits bs) : 0 ≤ worth bs ∧ worth bs < 2 ^ bs.length := by
  have := wl_bound _ (isBits_rev h)
  rw [List.length_reverse, ← worth_wl] at this
  exact this
end PH
set_option Elab.async false
set_option linter.all false
set_option maxRecDepth 100000
set_option maxHeartbeats 4000000
namespace PH
open PySem L2 PySem.W
theorem same_new {H : Hp} {p : Addr} (h : H p = none) (o : HO) : Same H (upd H p o) := fun b u q => by rw [upd_ne (ne_of_none q h)]; exact q
noncomputable def deckO (a b c : Int) : HO := .lst [.int a, .int b, .int c]
noncomputable def lsI (ns : List Int) : HO := .lst (ns.map V.int)
noncomputable def spDraw : Sp := fun vs H Q _ => ∃ (p : Addr) (a b c many : Int), vs = [.ref p, .int many] ∧ H p = some (deckO a b c) ∧ 0 < many ∧ many < 1073741824 ∧
  ∀ r a' c' : Int, 0 ≤ r → r < many → Q (.int r) (upd H p (deckO a' b c'))
noncomputable def spBits : Sp := fun vs H Q _ => ∃ (p : Addr) (a b c most : Int), vs = [.ref p, .int most] ∧ H p = some (deckO a b c) ∧ 0 ≤ most ∧ most ≤ 1000 ∧
  ∀ (D : Addr) (bs : List Int) (a' c' : Int) (H' : Hp), isBits bs → (bs.length : Int) ≤ most → H D = none → H' D = some (lsI bs) → H' p = some (deckO a' b c') → (∀ q o, q ≠ p → H q = some o → H' q = some o) → Q (.ref D) H'
noncomputable def spWorth (K : PySem.W.Frag) : Sp := fun vs H Q _ => ∃ (a : Addr) (bs : List Int), vs = [.ref a] ∧ SqL K H a (bs.map V.int) ∧ Q (.int (worth bs)) H
theorem int_at {ns : List Int} {i : Nat} {y : V} (h : (ns.map V.int)[i]? = some y) : ∃ z, y = V.int z ∧ ns[i]? = some z := by
  rw [List.getElem?_map] at h
  cases e : ns[i]? with
  | none => rw [e] at h; cases h
  | some z => rw [e] at h; exact ⟨z, (Option.some.inj h).symm, rfl⟩
theorem take_at {α : Type} {ns : List α} {i : Nat} {z : α} (h : ns[i]? = some z) : ns.take (i + 1) = ns.take i ++ [z] := by rw [List.take_add_one, h]; rfl
noncomputable def spDecks (K : PySem.W.Frag) : Sp := fun vs H Q _ => ∃ (a : Addr) (ns : List Int), vs = [.ref a] ∧ SqL K H a (ns.map V.int) ∧ ns.length ≤ 63 ∧
  ∀ (D : Addr) (ps : List Addr) (H' : Hp), H D = none → H' D = some (.lst (ps.map V.ref)) → 1 ≤ ps.length → ps.length ≤ 63 → (∀ p ∈ ps, H p = none ∧ p ≠ D ∧ ∃ a b c, H' p = some (deckO a b c)) → ps.Nodup → Same H H' → Q (.ref D) H'
theorem cut_to {α : Type} {f : Int → V} (ns : List Int) (k : Nat) : cutV (ns.map f) none (some (k : Int)) = (ns.take k).map f := by
  unfold cutV
  rw [HT.sIx_none, HT.sIx_nat, List.drop_zero, Nat.sub_zero, List.length_map, ← List.map_take]
  congr 1
  rcases Nat.le_total k ns.length with h | h
  · rw [Nat.min_eq_left h]
  · rw [Nat.min_eq_right h, List.take_of_length_le (Nat.le_refl _), List.take_of_length_le h]
noncomputable abbrev teDecks (K : Frag) : TE := tLst (tCons (tOp (rIxL K) (tVar 1) (tVar 0)) (tCons (tOp (rI (fun _ j => 0 < j) fun i j => .int (i % j)) (tCB (rLen K) (tCons (tVar 2) tNil)) (tC (.int 2))) (tCons (tOp (rI CMul fun i j => .int (i * j)) (tC (.int 7)) (tVar 0)) tNil)))
abbrev bmV : List Value := [.type "ValueError", .type "Exception", .type "BaseException", .type "object"]
structure Ex (K : Frag) (mg : Str → Option Value) (x : Str) (C : Addr) : Prop where
  mg : mg x = some (.ref C)
  ex : excIn K C bmV "ValueError.__new__" = true
  cl : ExcC K C
theorem bits_over {n : Int} {k : Nat} (h0 : 0 ≤ n) : decide (((k : Nat) : Int) < ((Builtin.Int.intBits n : Nat) : Int)) = decide (2 ^ k ≤ n) := by
  have h := intBits_le_iff (m := k) (x := n)
  have e : ((n.natAbs : Nat) : Int) = n := Int.natAbs_of_nonneg h0
  have e2 : (((2 ^ k : Nat)) : Int) = (2 : Int) ^ k := by norm_cast
  apply decide_eq_decide.mpr
  constructor
  · intro q
    have : ¬ n.natAbs < 2 ^ k := fun z => by have := h.mpr z; trivial
    trivial
  · intro q
    have : ¬ Builtin.Int.intBits n ≤ k := fun z => by have := h.mp z; trivial
    trivial
noncomputable def spLow (cN : Addr) : Sp := fun vs H Q E => ∃ (n : Int) (k : Nat), vs = [.int n, .int k] ∧ k ≤ 1000 ∧ (((n < 0 ∨ 2 ^ k ≤ n) ∧ E (.ref cN) none H) ∨ ((0 ≤ n ∧ n < 2 ^ k) ∧ ∀ p, H p = none → Q (.ref p) (upd H p (lsI (lowb n k)))))
theorem kit_refl (K : Frag) (t : Value) : kitOne K t t = some true := by unfold kitOne; rw [if_pos (beq_self_eq_true t)]
theorem kit_ib (K : Frag) : kitOne K (.type "int") (.type "bool") = some false := by rfl
theorem boot_isi : bootBuiltins "isinstance" = some (.builtin "isinstance") := by decide +kernel
theorem boot_list' : bootBuiltins "list" = some (.type "list") := by decide +kernel
theorem boot_int' : bootBuiltins "int" = some (.type "int") := by decide +kernel
theorem boot_bool' : bootBuiltins "bool" = some (.type "bool") := by decide +kernel
theorem boot_VE : bootBuiltins "ValueError" = some (.type "ValueError") := by decide +kernel
theorem boot_max' : bootBuiltins "max" = some (.builtin "max") := by decide +kernel
structure Bl (mg : Str → Option Value) : Prop where
  isi : mg "isinstance" = none
  list : mg "list" = none
  int : mg "int" = none
  bool : mg "bool" = none
  len : mg "len" = none
  range : mg "range" = none
  max : mg "max" = none
  ve : mg "ValueError" = none
noncomputable abbrev tcAre (K : Frag) : TT := tOr (tNot (tB (tCB (rIsi K) (tCons (tVar 0) (tCons (tC (.ty "int")) tNil))))) (tB (tCB (rIsi K) (tCons (tVar 0) (tCons (tC (.ty "bool")) tNil))))
theorem cut_from (ns : List Int) (k : Nat) : cutV (ns.map V.int) (some (k : Int)) none = (ns.drop k).map V.int := by
  unfold cutV
  rw [HT.sIx_none, HT.sIx_nat, List.length_map]
  rcases Nat.le_total k ns.length with h | h
  · rw [Nat.min_eq_left h, ← List.map_drop, List.take_of_length_le (by rw [List.length_map, List.length_drop]; exact Nat.le_refl _)]
  · rw [Nat.min_eq_right h, Nat.sub_self, List.take_zero, List.drop_of_length_le h]; rfl
noncomputable def spLaw (K : PySem.W.Frag) : Sp := fun vs H Q _ => ∃ (a : Addr) (ns : List Int), vs = [.ref a] ∧ SqL K H a (ns.map V.int) ∧ ns.length ≤ 63 ∧ ∀ H', Q (.bl true) H'
theorem fits {n : Nat} (h : n ≤ 1000000) : n ≤ sizeLine := by
  have : sizeLine = 16777216 := by decide
  trivial
theorem fits_lt {n : Nat} (h : n ≤ 1000000) : n < sizeLine := by
  have : sizeLine = 16777216 := by decide
  trivial
end PH
namespace PH
end PH
set_option Elab.async false
set_option linter.all false
set_option maxRecDepth 100000
namespace L2
open PySem PySem.Spec PyProof.Rows PySem.W
section
variable {X : Cx} {tg : Expr}
end
theorem comp_rngQ {lo : Int} {n : Nat} {D : Addr} {σ0 : St} {H1 : Hp} {Qd : Hp → Prop} {g : TG} {tc : TT} {te : TE} (Pv : Nat → St → Hp → Prop) (h0 : Pv 0 σ0 (upd H1 D (.lst [])))
    (hs : ∀ i σ' H', i < n → Pv i σ' H' → g (.int (lo + i)) σ' H' fun σ2 H3 => tc σ2 H3 fun b H4 => if b = true then te σ2 H4 fun v H5 => rAppend (.ref D) [v] H5 fun _ H6 => ∃ m', m' < n - i ∧ CW n Pv (i + 1) m' σ2 H6 else ∃ m', m' < n - i ∧ CW n Pv (i + 1) m' σ2 H4)
    (hd : ∀ σ' H', Pv n σ' H' → Qd H') :
    ∃ W : Nat → Nat → St → Hp → Prop, (∃ m, W 0 m σ0 (upd H1 D (.lst []))) ∧ ∀ i m σ' H', W i m σ' H' → ((Itr lo n).stop i H' ∧ Qd H') ∨ ((Itr lo n).go i H' ∧ ∀ x H2, (Itr lo n).yld i H' x H2 → g x σ' H2 fun σ2 H3 => tc σ2 H3 fun b H4 =>
      if b = true then te σ2 H4 fun v H5 => rAppend (.ref D) [v] H5 fun _ H6 => ∃ m', m' < m ∧ W (i + 1) m' σ2 H6 else ∃ m', m' < m ∧ W (i + 1) m' σ2 H4) :=
  comp_rng (Q := fun _ H => Qd H) Pv h0 hs hd
theorem comp_lstQ {K : Frag} {a : Addr} {xs : List V} {D : Addr} {σ0 : St} {H1 : Hp} {Qd : Hp → Prop} {g : TG} {tc : TT} {te : TE} (Pv : Nat → St → Hp → Prop) (h0 : Pv 0 σ0 (upd H1 D (.lst []))) (hl : ∀ i σ H, i ≤ xs.length → Pv i σ H → SqL K H a xs)
    (hs : ∀ i x σ' H', xs[i]? = some x → Pv i σ' H' → g x σ' H' fun σ2 H3 => tc σ2 H3 fun b H4 => if b = true then te σ2 H4 fun v H5 => rAppend (.ref D) [v] H5 fun _ H6 => ∃ m', m' < xs.length - i ∧ CW xs.length Pv (i + 1) m' σ2 H6 else ∃ m', m' < xs.length - i ∧ CW xs.length Pv (i + 1) m' σ2 H4)
    (hd : ∀ σ' H', Pv xs.length σ' H' → Qd H') :
    ∃ W : Nat → Nat → St → Hp → Prop, (∃ m, W 0 m σ0 (upd H1 D (.lst []))) ∧ ∀ i m σ' H', W i m σ' H' → ((Itl K a).stop i H' ∧ Qd H') ∨ ((Itl K a).go i H' ∧ ∀ x H2, (Itl K a).yld i H' x H2 → g x σ' H2 fun σ2 H3 => tc σ2 H3 fun b H4 =>
      if b = true then te σ2 H4 fun v H5 => rAppend (.ref D) [v] H5 fun _ H6 => ∃ m', m' < m ∧ W (i + 1) m' σ2 H6 else ∃ m', m' < m ∧ W (i + 1) m' σ2 H4) :=
  comp_lst (Q := fun _ H => Qd H) Pv h0 hl hs hd
end L2
set_option Elab.async false
set_option linter.all false
set_option maxRecDepth 100000
set_option maxHeartbeats 4000000
namespace PH
open PySem L2 PySem.W
theorem boot_tuple' : bootBuiltins "tuple" = some (.type "tuple") := by decide +kernel
structure ExR (K : Frag) (cP cN c1 c2 c3 c4 c5 c6 : Addr) : Prop where
  m : mroIn K cN (.ref cP) = some true
  v : kitOne K (.ref cN) (.type "ValueError") = some true
  o : kitAny K (.ref cN) [.ref c1, .ref c2, .ref c3, .ref c4, .ref c5, .ref c6] = some false
theorem cut_two (ns : List Int) (i j : Nat) : cutV (ns.map V.int) (some (i : Int)) (some (j : Int)) = ((ns.drop i).take (j - i)).map V.int := by
  unfold cutV
  rw [HT.sIx_nat, HT.sIx_nat, List.length_map, ← List.map_drop, ← List.map_take]
  congr 1
  rcases Nat.le_total i ns.length with h | h
  · rw [Nat.min_eq_left h]
    rcases Nat.le_total j ns.length with h2 | h2
    · rw [Nat.min_eq_left h2]
    · rw [Nat.min_eq_right h2, List.take_of_length_le (by rw [List.length_drop]; exact Nat.le_refl _), List.take_of_length_le (by rw [List.length_drop]; trivial)]
  · rw [Nat.min_eq_right h, List.drop_of_length_le (Nat.le_refl _), List.drop_of_length_le h, List.take_nil, List.take_nil]
end PH
namespace PH
theorem wl_rlow (n : Int) (k : Nat) : wl (rlow n k) = n % 2 ^ k := by
  induction k generalizing n with
  | zero => unfold rlow wl; simp [Int.emod_one]
  | succ k ih =>
    unfold rlow
    rw [wl_cons, ih, Int.pow_succ]
    have p : (0 : Int) < 2 ^ k := Int.pow_pos (by decide)
    generalize (2 : Int) ^ k = m at *
    have h1 := Int.mul_ediv_add_emod (n / 2) m
    have h2 := Int.mul_ediv_add_emod n (m * 2)
    have h3 : n / 2 / m = n / (2 * m) := Int.ediv_ediv_of_nonneg (by decide)
    rw [h3, Int.mul_comm 2 m] at h1
    generalize n / (m * 2) = z at *
    have h4 : m * 2 * z = 2 * (m * z) := by rw [Int.mul_comm m 2, Int.mul_assoc]
    rw [h4] at h2
    generalize m * z = y at *
    trivial
theorem worth_lowb {n : Int} {k : Nat} (h0 : 0 ≤ n) (h1 : n < 2 ^ k) : worth (lowb n k) = n := by
  unfold lowb
  rw [worth_rev, wl_rlow, Int.emod_eq_of_lt h0 h1]
end PH
set_option Elab.async false
set_option linter.all false
namespace L2
open PySem PySem.Spec PyProof.Rows
section
variable {X : Cx}
end
end L2
set_option Elab.async false
set_option linter.all false
set_option maxRecDepth 100000
set_option maxHeartbeats 4000000
namespace PH
open PySem L2 PySem.W
structure Bls (mg : Str → Option Value) : Prop where
  isi : mg "isinstance" = none
  list : mg "list" = none
  int : mg "int" = none
  bool : mg "bool" = none
  len : mg "len" = none
  range : mg "range" = none
  max : mg "max" = none
  ve : mg "ValueError" = none
  tuple : mg "tuple" = none
  min : mg "min" = none
  sorted : mg "sorted" = none
  all : mg "all" = none
  dict : mg "dict" = none
theorem comp_ints {K : Frag} {a D : Addr} {ns : List Int} {H1 : Hp} {Qd : Hp → Prop} (hD : H1 D = none) (ha : H1 a = some (lsI ns)) (k : Qd (upd H1 D (.lst []))) :
    ∃ W : Nat → Nat → St → Hp → Prop, (∃ m, W 0 m [none] (upd H1 D (.lst []))) ∧ ∀ i m σ' H', W i m σ' H' → ((Itl K a).stop i H' ∧ Qd H') ∨ ((Itl K a).go i H' ∧ ∀ x H2, (Itl K a).yld i H' x H2 → gName 0 x σ' H2 fun σ2 H3 => tcAre K σ2 H3 fun b H4 =>
      if b = true then tVar 0 σ2 H4 fun v H5 => rAppend (.ref D) [v] H5 fun _ H6 => ∃ m', m' < m ∧ W (i + 1) m' σ2 H6 else ∃ m', m' < m ∧ W (i + 1) m' σ2 H4) := by
  have haD : a ≠ D := ne_of_none ha hD
  refine comp_lstQ (K := K) (a := a) (xs := ns.map V.int) (σ0 := [none]) (fun i σ' H' => ∃ v, σ' = [v] ∧ H' = upd H1 D (.lst [])) ⟨none, rfl, rfl⟩ (fun i σ' H' _ ⟨_, _, e⟩ => by rw [e]; exact SqL.of (by rw [upd_ne haD]; exact ha)) ?_ ?_
  · rintro j x σ' H' hj ⟨v, rfl, rfl⟩
    obtain ⟨z, rfl, _⟩ := int_at hj
    have hlt : j < (ns.map V.int).length := (List.getElem?_eq_some_iff.mp hj).1
    refine ⟨_, rfl, _, _, _, _, true, rfl, .of (.int z), rfl, kit_refl _ _, _, rfl, ?_⟩
    refine iteF ?_
    refine ⟨_, rfl, _, _, _, _, false, rfl, .of (.int z), rfl, kit_ib _, _, rfl, ?_⟩
    refine iteF ?_
    exact CW.next hlt ⟨_, rfl, rfl⟩
  · rintro σ' H' ⟨v, rfl, rfl⟩
    exact k
theorem same_upd {H H' : Hp} (s : Same H H') {q : Addr} (u : HO) (hq : H q = none) : Same H (upd H' q u) := fun b w e => by
  rw [upd_ne (ne_of_none e hq)]; exact s b w e
theorem lsI_app (a b : List Int) : (.lst (a.map V.int ++ b.map V.int) : HO) = lsI (a ++ b) := by unfold lsI; rw [List.map_append]
theorem lsI_app1 (a : List Int) (z : Int) : (.lst (a.map V.int ++ [V.int z]) : HO) = lsI (a ++ [z]) := by unfold lsI; rw [List.map_append]; rfl
theorem len_lsI (a : List Int) : (a.map V.int).length = a.length := List.length_map _
end PH
set_option Elab.async false
set_option linter.all false
set_option maxRecDepth 100000
set_option maxHeartbeats 4000000
namespace PH
open PySem L2 PySem.W
structure Dks (ps : List Addr) (D : Addr) (H : Hp) : Prop where
  at_ : H D = some (.lst (ps.map V.ref))
  each : ∀ p ∈ ps, p ≠ D ∧ ∃ a b c, H p = some (deckO a b c)
theorem Dks.same {ps : List Addr} {D : Addr} {H H' : Hp} (h : Dks ps D H) (s : Same H H') : Dks ps D H' := ⟨s _ _ h.at_, fun p hp => by
  obtain ⟨e, a, b, c, q⟩ := h.each p hp
  exact ⟨e, a, b, c, s _ _ q⟩⟩
theorem Dks.other {ps : List Addr} {D q : Addr} {H : Hp} {o : HO} (h : Dks ps D H) (h1 : D ≠ q) (h2 : ∀ p ∈ ps, p ≠ q) : Dks ps D (upd H q o) := ⟨by rw [upd_ne h1]; exact h.at_, fun p hp => by
  obtain ⟨e, a, b, c, z⟩ := h.each p hp
  exact ⟨e, a, b, c, by rw [upd_ne (h2 p hp)]; exact z⟩⟩
theorem Dks.draw {ps : List Addr} {D p : Addr} {H : Hp} (h : Dks ps D H) (hp : p ∈ ps) (a b c : Int) : Dks ps D (upd H p (deckO a b c)) := ⟨by rw [upd_ne (h.each p hp).1.symm]; exact h.at_, fun q hq => by
  obtain ⟨e, a', b', c', z⟩ := h.each q hq
  by_cases hqp : q = p
  · subst hqp; exact ⟨e, a, b, c, upd_same⟩
  · exact ⟨e, a', b', c', by rw [upd_ne hqp]; exact z⟩⟩
theorem Dks.bits {ps : List Addr} {D p : Addr} {H H' : Hp} {a b c : Int} (h : Dks ps D H) (hp : p ∈ ps) (h1 : H' p = some (deckO a b c)) (kp : ∀ q o, q ≠ p → H q = some o → H' q = some o) : Dks ps D H' := ⟨kp _ _ (h.each p hp).1.symm h.at_, fun q hq => by
  obtain ⟨e, a', b', c', z⟩ := h.each q hq
  by_cases hqp : q = p
  · subst hqp; exact ⟨e, a, b, c, h1⟩
  · exact ⟨e, a', b', c', kp _ _ hqp z⟩⟩
theorem Dks.of {ps : List Addr} {D : Addr} {H H' : Hp} (hD : H' D = some (.lst (ps.map V.ref))) (h : ∀ p ∈ ps, H p = none ∧ p ≠ D ∧ ∃ a b c, H' p = some (deckO a b c)) : Dks ps D H' := ⟨hD, fun p hp => (h p hp).2⟩
theorem Dks.ne {ps : List Addr} {D q : Addr} {H : Hp} (h : Dks ps D H) (hq : H q = none) : (∀ p ∈ ps, p ≠ q) ∧ D ≠ q := ⟨fun p hp => by
  obtain ⟨_, _, _, _, z⟩ := h.each p hp
  exact ne_of_none z hq, ne_of_none h.at_ hq⟩
theorem ht_pair (ns : List Int) (b : Int) : ht (.tup [.lst (ns.map DV.int), .int b]) ≤ 60 := by
  rw [ht_tup]
  unfold hts
  rw [ht_lst, hts_ints]
  unfold hts
  unfold ht
  unfold hts
  decide
end PH
set_option Elab.async false
set_option linter.all false
set_option maxRecDepth 100000
namespace L2
open PySem PySem.Spec PyProof.Rows PySem.W
end L2
set_option Elab.async false
set_option linter.all false
set_option maxRecDepth 100000
namespace L2
open PySem PySem.Spec PyProof.Rows
section
variable {κ : Type} [DecidableEq κ]
noncomputable def valV (kvs : List (κ × V)) (k : κ) : Option V := (kvs.find? fun kv => decide (kv.1 = k)).map (·.2)
noncomputable def putK (kvs : List (κ × V)) (k : κ) (v : V) : List (κ × V) :=
  if (kvs.any fun kv => decide (kv.1 = k)) = true then kvs.map (fun kv => if kv.1 = k then (kv.1, v) else kv) else kvs ++ [(k, v)]
theorem valV_pos {p : κ × V} {r : List (κ × V)} {k : κ} (e : p.1 = k) : valV (p :: r) k = some p.2 := by simp [valV, List.find?_cons, e]
theorem valV_neg {p : κ × V} {r : List (κ × V)} {k : κ} (e : ¬ p.1 = k) : valV (p :: r) k = valV r k := by simp [valV, List.find?_cons, e]
theorem valV_any (k : κ) : ∀ kvs : List (κ × V), (kvs.any fun kv => decide (kv.1 = k)) = (valV kvs k).isSome
  | [] => rfl
  | p :: r => by
    rw [List.any_cons]
    by_cases e : p.1 = k
    · simp only [valV_pos e, decide_eq_true e, Bool.true_or, Option.isSome_some]
    · rw [valV_neg e, decide_eq_false e, Bool.false_or]; exact valV_any k r
theorem valV_map (k j : κ) (y : V) : ∀ kvs : List (κ × V), valV (kvs.map fun kv => if kv.1 = k then (kv.1, y) else kv) j = (valV kvs j).map fun x => if j = k then y else x
  | [] => rfl
  | p :: r => by
    have ih := valV_map k j y r
    rw [List.map_cons]
    by_cases h : p.1 = k
    · rw [if_pos h]
      by_cases e : p.1 = j
      · rw [valV_pos (p := (p.1, y)) e, valV_pos e, Option.map_some, if_pos (e.symm.trans h)]
      · rw [valV_neg (p := (p.1, y)) e, valV_neg e, ih]
    · rw [if_neg h]
      by_cases e : p.1 = j
      · rw [valV_pos (p := p) e, valV_pos e, Option.map_some, if_neg (fun z => h (e.trans z))]
      · rw [valV_neg (p := p) e, valV_neg e, ih]
theorem valV_snoc (k j : κ) (y : V) : ∀ kvs : List (κ × V), valV kvs k = none → valV (kvs ++ [(k, y)]) j = if j = k then some y else valV kvs j
  | [], _ => by
    by_cases e : k = j
    · rw [if_pos e.symm]; exact valV_pos (p := (k, y)) e
    · rw [if_neg (fun z => e z.symm)]; exact valV_neg (p := (k, y)) e
  | p :: r, hn => by
    rw [List.cons_append]
    have hk : ¬ p.1 = k := fun z => by rw [valV_pos z] at hn; cases hn
    rw [valV_neg hk] at hn
    have ih := valV_snoc k j y r hn
    by_cases e : p.1 = j
    · rw [valV_pos e, valV_pos e, if_neg (fun z => hk (e.trans z))]
    · rw [valV_neg e, valV_neg e, ih]
theorem valV_put (kvs : List (κ × V)) (k j : κ) (y : V) : valV (putK kvs k y) j = if j = k then some y else valV kvs j := by
  unfold putK
  by_cases a : (kvs.any fun kv => decide (kv.1 = k)) = true
  · rw [if_pos a, valV_map]
    rw [valV_any] at a
    by_cases e : j = k
    · obtain ⟨x, hx⟩ := Option.isSome_iff_exists.mp a
      rw [if_pos e, e, hx, Option.map_some, if_pos rfl]
    · rw [if_neg e]
      cases valV kvs j with
      | none => rfl
      | some x => rw [Option.map_some, if_neg e]
  · rw [if_neg a]
    refine valV_snoc k j y kvs ?_
    rw [valV_any] at a
    cases q : valV kvs k with
    | none => rfl
    | some x => rw [q] at a; exact (a rfl).elim
theorem length_putK (kvs : List (κ × V)) (k : κ) (v : V) : (putK kvs k v).length ≤ kvs.length + 1 := by
  unfold putK
  split
  · rw [List.length_map]; trivial
  · rw [List.length_append, List.length_cons, List.length_nil]; trivial
theorem RelO.isSome_eq {o : Option V} {u : Option Value} (r : RelO o u) : o.isSome = u.isSome := by
  cases o with
  | none => cases u with
    | none => rfl
    | some _ => exact (show False from r).elim
  | some _ => cases u with
    | none => exact (show False from r).elim
    | some _ => rfl
theorem RelO.getD {o : Option V} {u : Option Value} {d : V} {d' : Value} (r : RelO o u) (rd : RelV d d') : RelV (o.getD d) (u.getD d') := by
  cases o with
  | none => cases u with
    | none => exact rd
    | some _ => exact (show False from r).elim
  | some _ => cases u with
    | none => exact (show False from r).elim
    | some _ => exact r
theorem KV.val {kvs : List (κ × V)} {vs : List (κ × Value)} (r : KV kvs vs) (k : κ) : RelO (valV kvs k) (valueAt vs k) := by
  unfold KV at r
  induction r with
  | nil => exact True.intro
  | @cons p q ps qs h t ih =>
    obtain ⟨h1, h2⟩ := h
    by_cases e : p.1 = k
    · have e' : q.1 = k := h1.symm.trans e
      have b : valueAt (q :: qs) k = some q.2 := by simp [valueAt, List.find?_cons, e']
      rw [valV_pos e, b]; exact h2
    · have e' : ¬ q.1 = k := fun z => e (h1.trans z)
      have b : valueAt (q :: qs) k = valueAt qs k := by simp [valueAt, List.find?_cons, e']
      rw [valV_neg e, b]; exact ih
theorem KV.any {kvs : List (κ × V)} {vs : List (κ × Value)} (r : KV kvs vs) (k : κ) : (kvs.any fun kv => decide (kv.1 = k)) = vs.any fun kv => decide (kv.1 = k) := by
  unfold KV at r
  induction r with
  | nil => rfl
  | cons h t ih => rw [List.any_cons, List.any_cons, ih, h.1]
theorem KV.repl {kvs : List (κ × V)} {vs : List (κ × Value)} (r : KV kvs vs) (k : κ) {y : V} {u : Value} (ry : RelV y u) :
    KV (kvs.map fun kv => if kv.1 = k then (kv.1, y) else kv) (vs.map fun kv => if kv.1 = k then (kv.1, u) else kv) := by
  unfold KV at r ⊢
  induction r with
  | nil => exact .nil
  | @cons p q ps qs h t ih =>
    rw [List.map_cons, List.map_cons]
    refine .cons ?_ ih
    obtain ⟨h1, h2⟩ := h
    by_cases e : p.1 = k
    · rw [if_pos e, if_pos (h1.symm.trans e)]; exact ⟨h1, ry⟩
    · rw [if_neg e, if_neg (fun z => e (h1.trans z))]; exact ⟨h1, h2⟩
theorem KV.put {kvs : List (κ × V)} {vs : List (κ × Value)} (r : KV kvs vs) (k : κ) {y : V} {u : Value} (ry : RelV y u) : KV (putK kvs k y) (stored vs k u) := by
  unfold putK stored
  rw [r.any k]
  by_cases e : (vs.any fun kv => decide (kv.1 = k)) = true
  · rw [if_pos e, if_pos e]; exact r.repl k ry
  · rw [if_neg e, if_neg e]; exact Paired.snoc r ⟨rfl, ry⟩
theorem KV.length {kvs : List (κ × V)} {vs : List (κ × Value)} (r : KV kvs vs) : kvs.length = vs.length := Paired.length r
end
theorem kV_is {P : Program} {w : World} {k : Key} {u : Value} (r : RelV (kV k) u) : (mixKind P w).is k u = true := by
  cases k with
  | inl i => obtain ⟨t, e⟩ := (show ∃ t, u = Value.int i t from r); subst e; exact mixKind_int P w i t
  | inr x => obtain ⟨t, e⟩ := (show ∃ t, u = Value.str x t from r); subst e; exact mixKind_str P w x t
theorem items_are {P : Program} {w : World} : ∀ {ks : List Key} {us : List Value}, Vals (ks.map kV) us → ItemsAre (mixKind P w) ks us
  | [], _, r => by rw [List.map_nil] at r; cases r; exact .nil
  | k :: ks, _, r => by
    rw [List.map_cons] at r
    cases r with
    | cons h t => exact .cons (kV_is h) (items_are t)
noncomputable abbrev KT (H : Hp) : List (List Key × V) → List (List Key × Addr × Value) → Prop := Paired fun p q => p.1 = q.1 ∧ H q.2.1 = some (.tup (p.1.map kV)) ∧ RelV p.2 q.2.2
theorem KT.val {H : Hp} {kvs : List (List Key × V)} {xs : List (List Key × Addr × Value)} (r : KT H kvs xs) (k : List Key) : RelO (valV kvs k) ((atKey xs k).map (·.2)) := by
  induction r with
  | nil => exact True.intro
  | @cons p q ps qs h t ih =>
    obtain ⟨h1, _, h2⟩ := h
    by_cases e : p.1 = k
    · have e' : q.1 = k := h1.symm.trans e
      have b : atKey (q :: qs) k = some q.2 := by simp [atKey, List.find?_cons, e']
      rw [valV_pos e, b]; exact h2
    · have e' : ¬ q.1 = k := fun z => e (h1.trans z)
      have b : atKey (q :: qs) k = atKey qs k := by simp [atKey, List.find?_cons, e']
      rw [valV_neg e, b]; exact ih
theorem KT.repl {H : Hp} {kvs : List (List Key × V)} {xs : List (List Key × Addr × Value)} (r : KT H kvs xs) (k : List Key) {y : V} {u : Value} (ry : RelV y u) :
    KT H (kvs.map fun kv => if kv.1 = k then (kv.1, y) else kv) (xs.map (putAt k u)) := by
  induction r with
  | nil => exact .nil
  | @cons p q ps qs h t ih =>
    rw [List.map_cons, List.map_cons]
    refine .cons ?_ ih
    obtain ⟨h1, h2, h3⟩ := h
    unfold putAt
    by_cases e : p.1 = k
    · rw [if_pos e, if_pos (h1.symm.trans e)]; exact ⟨h1, h2, ry⟩
    · rw [if_neg e, if_neg (fun z => e (h1.trans z))]; exact ⟨h1, h2, h3⟩
theorem KT.put {H : Hp} {kvs : List (List Key × V)} {xs : List (List Key × Addr × Value)} (r : KT H kvs xs) (k : List Key) {b : Addr} {y : V} {u : Value} (hb : H b = some (.tup (k.map kV))) (ry : RelV y u) :
    KT H (putK kvs k y) (storedH xs k b u) := by
  have e : (kvs.any fun kv => decide (kv.1 = k)) = (atKey xs k).isSome := by
    rw [valV_any, (r.val k).isSome_eq, Option.isSome_map]
  unfold putK storedH
  rw [e]
  by_cases q : (atKey xs k).isSome = true
  · rw [if_pos q, if_pos q]; exact r.repl k ry
  · rw [if_neg q, if_neg q]; exact Paired.snoc r ⟨rfl, hb, ry⟩
theorem KT.keeps {H H' : Hp} {kvs : List (List Key × V)} {xs : List (List Key × Addr × Value)} (r : KT H kvs xs) (ht : ∀ b ys, H b = some (.tup ys) → H' b = some (.tup ys)) : KT H' kvs xs :=
  Paired.mapP r fun _ _ z => ⟨z.1, ht _ _ z.2.1, z.2.2⟩
section
variable {P : Program} {w : World} {H : Hp} {h : Heap} {a : Addr}
theorem rd_of {u : HO} (ok : HOk P w H h) (e : Rd H a u) : ObjOk P w H h a u := e.ok ok
theorem dk_rd {kvs : List (Key × V)} (ok : HOk P w H h) (e : Rd H a (.dK kvs)) : kvs.length ≤ sizeLine ∧ (a == sysModules) = false ∧ ∃ vs, KV kvs vs ∧ h.DictOf (mixKind P w) a vs :=
  show ObjOk P w H h a (.dK kvs) from rd_of ok e
theorem dk_of {kvs : List (Key × V)} (ok : HOk P w H h) (e : H a = some (.dK kvs)) : kvs.length ≤ sizeLine ∧ (a == sysModules) = false ∧ ∃ vs, KV kvs vs ∧ h.DictOf (mixKind P w) a vs := dk_rd ok (.inl e)
theorem key_of {ks : List Key} (ok : HOk P w H h) (e : H a = some (.tup (ks.map kV))) : (tupleKind (mixKind P w)).is h ks a := by
  obtain ⟨_, its, r, o, h1, h2, n, h3⟩ := (show ObjOk P w H h a (.tup (ks.map kV)) from ok a _ e)
  exact ⟨o, its.toArray, n, h1, h2, h3, by simpa using items_are r⟩
theorem dt_rd {kvs : List (List Key × V)} (ok : HOk P w H h) (e : Rd H a (.dT kvs)) : kvs.length ≤ sizeLine ∧ (a == sysModules) = false ∧
    ∃ xs, KT H kvs xs ∧ h.DictOfH (tupleKind (mixKind P w)) a xs := by
  obtain ⟨z, y, xs, r, o, es, ep, h1, h2, h3, h4, h5⟩ := (show ObjOk P w H h a (.dT kvs) from rd_of ok e)
  refine ⟨z, y, xs, r, o, es, ep, h1, h2, h3, h4, fun x hx => ?_, h5⟩
  have all : ∀ {l : List (List Key × V)} {m : List (List Key × Addr × Value)}, KT H l m → ∀ x ∈ m, (tupleKind (mixKind P w)).is h x.1 x.2.1 := by
    intro l m q
    induction q with
    | nil => intro x hx; exact nomatch hx
    | @cons p q ps qs hq t ih =>
      intro x hx
      rcases List.mem_cons.mp hx with e | hx
      · subst e
        exact key_of ok (by rw [← hq.1]; exact hq.2.1)
      · exact ih x hx
  exact all r x hx
theorem dt_of {kvs : List (List Key × V)} (ok : HOk P w H h) (e : H a = some (.dT kvs)) : kvs.length ≤ sizeLine ∧ (a == sysModules) = false ∧
    ∃ xs, KT H kvs xs ∧ h.DictOfH (tupleKind (mixKind P w)) a xs := dt_rd ok (.inl e)
end
noncomputable def DGet (H : Hp) (a : Addr) (y : V) (r : Option V) : Prop :=
  (∃ kvs k, Rd H a (.dK kvs) ∧ y = kV k ∧ r = valV kvs k) ∨ ∃ kvs k b, Rd H a (.dT kvs) ∧ y = .ref b ∧ H b = some (.tup (k.map kV)) ∧ r = valV kvs k
noncomputable def DPut (H : Hp) (a : Addr) (y v : V) (H' : Hp) : Prop :=
  (∃ kvs k, H a = some (.dK kvs) ∧ y = kV k ∧ kvs.length < sizeLine ∧ H' = upd H a (.dK (putK kvs k v))) ∨
  ∃ kvs k b, H a = some (.dT kvs) ∧ y = .ref b ∧ H b = some (.tup (k.map kV)) ∧ kvs.length < sizeLine ∧ H' = upd H a (.dT (putK kvs k v))
theorem DGet.k {H : Hp} {a : Addr} {kvs : List (Key × V)} {k : Key} (e : H a = some (.dK kvs)) : DGet H a (kV k) (valV kvs k) := .inl ⟨kvs, k, .inl e, rfl, rfl⟩
theorem DGet.t {H : Hp} {a b : Addr} {kvs : List (List Key × V)} {k : List Key} (e : H a = some (.dT kvs)) (eb : H b = some (.tup (k.map kV))) : DGet H a (.ref b) (valV kvs k) := .inr ⟨kvs, k, b, .inl e, rfl, eb, rfl⟩
theorem DPut.k {H : Hp} {a : Addr} {kvs : List (Key × V)} {k : Key} {v : V} (e : H a = some (.dK kvs)) (hl : kvs.length < sizeLine) : DPut H a (kV k) v (upd H a (.dK (putK kvs k v))) := .inl ⟨kvs, k, e, rfl, hl, rfl⟩
theorem DPut.t {H : Hp} {a b : Addr} {kvs : List (List Key × V)} {k : List Key} {v : V} (e : H a = some (.dT kvs)) (eb : H b = some (.tup (k.map kV))) (hl : kvs.length < sizeLine) :
    DPut H a (.ref b) v (upd H a (.dT (putK kvs k v))) := .inr ⟨kvs, k, b, e, rfl, eb, hl, rfl⟩
section
variable {X : Cx} {pins : List (Addr × Obj)} {σ : St} {H : Hp} {s : Shared} {a : Addr} {y v : V} {u r : Value} {o : Option V} {A : Around} {E : Value → Shared → Prop}
theorem Inv.big (I : Inv X pins σ H s) : sysModules < s.heap.objs.size := by
  have h : mainGlobals < s.heap.objs.size := (I.mod.glob.keeps I.bk).lt
  exact Nat.lt_trans (by decide) h
theorem d_getItem {Q : Value → Shared → Prop} (hu : A.units + 1 < cLine) (I : Inv X pins σ H s) (g : DGet H a y (some v)) (ry : RelV y u) (h : ∀ w' s', Inv X pins σ H s' → RelV v w' → Q w' s') :
    wpAny (model X.prog X.w) A (getItem (.ref a) u) Q E s := by
  rcases g with ⟨kvs, k, e, ey, l⟩ | ⟨kvs, k, b, e, ey, eb, l⟩
  · subst ey
    obtain ⟨z, hd, vs, rel, dd⟩ := dk_rd I.hok e
    obtain ⟨w', hw, rw'⟩ := RelO.some_of (v := v) (o := valueAt vs k) (by rw [l]; exact rel.val k)
    exact wpAny_getItem_of (kV_is ry) dd.mapOf hw (h w' _ (I.tok _) rw')
  · subst ey
    cases (show u = Value.ref b from ry)
    obtain ⟨z, hd, xs, rel, dd⟩ := dt_rd I.hok e
    obtain ⟨w', hw, rw'⟩ := RelO.some_of (v := v) (o := (atKey xs k).map (·.2)) (by rw [l]; exact rel.val k)
    obtain ⟨p, hp, hp2⟩ := Option.map_eq_some_iff.mp hw
    refine wpAny_getItem_heap (tupleKind_room_in1 hu) (key_of I.hok eb) dd hp ?_
    rw [hp2]
    exact h w' _ (I.tok _) rw'
theorem d_in {Q : Value → Shared → Prop} (hu : A.units + 1 < cLine) (I : Inv X pins σ H s) (g : DGet H a y o) (ry : RelV y u) (h : ∀ s', Inv X pins σ H s' → Q (.bool o.isSome) s') :
    wpAny (model X.prog X.w) A (compareOp .In u (.ref a)) Q E s := by
  rcases g with ⟨kvs, k, e, ey, l⟩ | ⟨kvs, k, b, e, ey, eb, l⟩
  · subst ey
    obtain ⟨z, hd, vs, rel, dd⟩ := dk_rd I.hok e
    refine wpAny_in_of (kV_is ry) hd dd.mapOf ?_
    rw [← (rel.val k).isSome_eq, ← l]
    exact h _ (I.tok _)
  · subst ey
    cases (show u = Value.ref b from ry)
    obtain ⟨z, hd, xs, rel, dd⟩ := dt_rd I.hok e
    refine wpAny_in_heap (tupleKind_room_in1 hu) (key_of I.hok eb) hd dd ?_
    have q := (rel.val k).isSome_eq
    rw [Option.isSome_map] at q
    rw [← q, ← l]
    exact h _ (I.tok _)
theorem d_notIn {Q : Value → Shared → Prop} (hu : A.units + 1 < cLine) (I : Inv X pins σ H s) (g : DGet H a y o) (ry : RelV y u) (h : ∀ s', Inv X pins σ H s' → Q (.bool (!o.isSome)) s') :
    wpAny (model X.prog X.w) A (compareOp .NotIn u (.ref a)) Q E s := by
  rcases g with ⟨kvs, k, e, ey, l⟩ | ⟨kvs, k, b, e, ey, eb, l⟩
  · subst ey
    obtain ⟨z, hd, vs, rel, dd⟩ := dk_rd I.hok e
    refine wpAny_notIn_of (kV_is ry) hd dd.mapOf ?_
    rw [← (rel.val k).isSome_eq, ← l]
    exact h _ (I.tok _)
  · subst ey
    cases (show u = Value.ref b from ry)
    obtain ⟨z, hd, xs, rel, dd⟩ := dt_rd I.hok e
    refine wpAny_notIn_heap (tupleKind_room_in1 hu) (key_of I.hok eb) hd dd ?_
    have q := (rel.val k).isSome_eq
    rw [Option.isSome_map] at q
    rw [← q, ← l]
    exact h _ (I.tok _)
theorem d_write {h' : Heap} {t' : Nat} {ob : HO} (I : Inv X pins σ H s) (mu : Mut (H a)) (hs : Heap.SameBut a s.heap h') (he : ∃ q, h'.get? a = some q) (new : ObjOk X.prog X.w (upd H a ob) h' a ob) :
    Inv X pins σ (upd H a ob) { s with heap := h', toks := t' } :=
  I.write (x := a) (e := a) mu (.inl rfl) (fun b q hb z => (hs.2 b hb).trans z) he new
theorem dk_new {P : Program} {w : World} {H' : Hp} {h' : Heap} {kvs : List (Key × V)} {vs : List (Key × Value)} (z : kvs.length ≤ sizeLine) (hd : (a == sysModules) = false) (rel : KV kvs vs) (dd : h'.DictOf (mixKind P w) a vs) :
    ObjOk P w H' h' a (.dK kvs) := ⟨z, hd, vs, rel, dd⟩
theorem d_setItem {H' : Hp} {Q : Unit → Shared → Prop} (hu : A.units + 1 < cLine) (I : Inv X pins σ H s) (g : DPut H a y v H') (ry : RelV y u) (rv : RelV v r) (h : ∀ s', Inv X pins σ H' s' → Q () s') :
    wpAny (model X.prog X.w) A (setItem (.ref a) u r) Q E s := by
  rcases g with ⟨kvs, k, e, ey, l, eH⟩ | ⟨kvs, k, b, e, ey, eb, l, eH⟩
  · subst ey eH
    obtain ⟨z, hd, vs, rel, dd⟩ := dk_of I.hok e
    have hz : vs.length ≤ sizeLine := by rw [← rel.length]; exact z
    have hl : (putK kvs k v).length ≤ sizeLine := by have := length_putK kvs k v; trivial
    refine wpAny_setItem_pairs (hsz := hz) (kV_is ry) dd fun h' dd' hs => h _ ?_
    have he : ∃ q, h'.get? a = some q := let ⟨q, _, _, hq, _⟩ := dd'; ⟨q, hq⟩
    exact d_write I (by rw [e]; exact True.intro) hs he (dk_new hl hd (rel.put k rv) dd')
  · subst ey eH
    cases (show u = Value.ref b from ry)
    obtain ⟨z, hd, xs, rel, dd⟩ := dt_of I.hok e
    have hz : xs.length ≤ sizeLine := by rw [← Paired.length rel]; exact z
    have hl : (putK kvs k v).length ≤ sizeLine := by have := length_putK kvs k v; trivial
    refine wpAny_setItem_heap (hsz := hz) (tupleKind_room_in1 hu) (key_of I.hok eb) dd fun h' dd' hs => h _ ?_
    obtain ⟨q, es, ep, hq, h2, h3, h4, _, h5⟩ := dd'
    refine d_write I (by rw [e]; exact True.intro) hs ⟨q, hq⟩ ⟨hl, hd, _, (rel.put k eb rv).keeps fun c ys ec => ?_, q, es, ep, hq, h2, h3, h4, h5⟩
    rw [upd_ne (ne_of ec e (fun z => nomatch z))]
    exact ec
end
section
variable {X : Cx} {pins : List (Addr × Obj)} {σ : St} {H : Hp} {s : Shared} {a : Addr} {kvs : List (Key × V)} {k : Key} {u : Value} {A : Around} {E : Value → Shared → Prop}
theorem d_len {Q : Value → Shared → Prop} (I : Inv X pins σ H s) (e : Rd H a (.dK kvs)) (h : ∀ t s', Inv X pins σ H s' → Q (.int kvs.length t) s') : wpAny (model X.prog X.w) A (call (.builtin "len") [.ref a]) Q E s := by
  obtain ⟨z, hd, vs, rel, dd⟩ := dk_rd I.hok e
  refine call_len_dict hd dd (by rw [← rel.length]; rw [sizeLine_eq] at z; trivial) ?_
  rw [← rel.length]
  exact h _ _ (I.tok _)
end
noncomputable def NoSl (i : Expr) : Prop := ∀ ov iv, subscripted i false ov iv = operate [ov, iv] (getItem ov iv)
theorem subD_of {prog : Program} {w : World} {A : Around} {E : Value → Shared → Prop} {s : Shared} {env : Env} {value slice : Expr} {pos : Pos} {T id : String} {Q : Value → Shared → Prop}
    (hl : typeLookup (.type T) "__getitem__" = pure (some (.builtin id))) (hs : NoSl slice)
    (h : wpAny (model prog w) A (eval value env) (fun o s₁ => wpAny (model prog w) A (eval slice env) (fun i s₂ => s₂.TypeIs o T ∧ wpAny (model prog w) A (getItem o i) Q E s₂) E s₁) E s) :
    wpAny (model prog w) A (eval (.Subscript value slice pos) env) Q E s := by
  refine Subscript_ (wpAny_mono h (fun o s₁ h₁ => wpAny_mono h₁ (fun i s₂ h₂ => ?_) fun _ _ x => x) fun _ _ x => x)
  obtain ⟨hT, h₂⟩ := h₂
  unfold subscriptTail
  refine wpAny_bind ?_
  rw [getitemInPython_of_ne hT.not_modules]
  refine wpAny_bind (wpAny_specialOf hT hl ?_)
  have fin : wpAny (model prog w) A (subscripted slice false o i) (fun r s₃ => wpAny (model prog w) A (letTemporaryGo value o r >>= fun _ => pure r) Q E s₃) E s₂ := by
    rw [hs o i]
    exact wpAny_operating (wpAny_mono h₂ (fun r s₃ h₃ => wpAny_bind (wpAny_letTemporaryGo (wpAny_pure h₃))) fun _ _ x => x)
  first
    | exact wpAny_pure (wpAny_bind fin)
    | exact wpAny_bind (wpAny_pure (wpAny_bind fin))
    | exact wpAny_bind fin
theorem dict_typeIs {X : Cx} {pins : List (Addr × Obj)} {σ : St} {H : Hp} {s : Shared} {a : Addr} {y : V} {o : Option V} (I : Inv X pins σ H s) (g : DGet H a y o) : s.TypeIs (.ref a) "dict" := by
  rcases g with ⟨kvs, k, e, _, _⟩ | ⟨kvs, k, b, e, _, _, _⟩
  · obtain ⟨_, _, vs, _, dd⟩ := dk_rd I.hok e
    exact dd.typeIs
  · obtain ⟨_, _, xs, _, dd⟩ := dt_rd I.hok e
    exact dd.typeIs
noncomputable def tDGet (td ty : TE) : TE := fun σ H Q => td σ H fun x H1 => ty σ H1 fun y H2 => ∃ a v, x = .ref a ∧ DGet H2 a y (some v) ∧ Q v H2
noncomputable def tDIn (ty td : TE) : TE := fun σ H Q => ty σ H fun y H1 => td σ H1 fun x H2 => ∃ a o, x = .ref a ∧ DGet H2 a y o ∧ Q (.bl o.isSome) H2
noncomputable def tDNotIn (ty td : TE) : TE := fun σ H Q => ty σ H fun y H1 => td σ H1 fun x H2 => ∃ a o, x = .ref a ∧ DGet H2 a y o ∧ Q (.bl (!o.isSome)) H2
noncomputable def sDPut (td ty tv : TE) : TS := fun D σ H => tv σ H fun v H1 => td σ H1 fun x H2 => ty σ H2 fun y H3 => ∃ a H4, x = .ref a ∧ DPut H3 a y v H4 ∧ D.nx σ H4
section
variable {X : Cx} {o i e value : Expr} {pos pos' tpos : Pos} {td ty tv : TE}
theorem pe_dget (hu : X.A.units + 1 < cLine) (ho : PE X o td) (hi : PE X i ty) (hs : NoSl i) : PE X (.Subscript o i pos) (tDGet td ty) := by
  intro pins s σ H Q I h
  refine subD_of PySem.F.slot_dict_getitem.lookup hs (thn (ho pins s σ H _ I h) fun u s1 ⟨x, H1, I1, rx, q1⟩ => thn (hi pins s1 σ H1 _ I1 q1) fun iv s2 ⟨y, H2, I2, ry, a, v, ex, g, q2⟩ => ?_)
  subst ex
  obtain rfl : u = Value.ref a := rx
  exact ⟨dict_typeIs I2 g, d_getItem hu I2 g ry fun w' s3 I3 rw' => ⟨v, H2, I3, rw', q2⟩⟩
theorem pc_din (hu : X.A.units + 1 < cLine) (hi : PE X i ty) (ho : PE X o td) : PC X .In i o (tDIn ty td) := by
  intro pins s σ H Q I h
  refine thn (hi pins s σ H _ I h) fun iv s1 ⟨y, H1, I1, ry, q1⟩ => thn (ho pins s1 σ H1 _ I1 q1) fun u s2 ⟨x, H2, I2, rx, a, ov, ex, g, q2⟩ => ?_
  subst ex
  obtain rfl : u = Value.ref a := rx
  exact d_in hu I2 g ry fun s3 I3 => ⟨.bl ov.isSome, H2, I3, rfl, q2⟩
theorem pc_dnotin (hu : X.A.units + 1 < cLine) (hi : PE X i ty) (ho : PE X o td) : PC X .NotIn i o (tDNotIn ty td) := by
  intro pins s σ H Q I h
  refine thn (hi pins s σ H _ I h) fun iv s1 ⟨y, H1, I1, ry, q1⟩ => thn (ho pins s1 σ H1 _ I1 q1) fun u s2 ⟨x, H2, I2, rx, a, ov, ex, g, q2⟩ => ?_
  subst ex
  obtain rfl : u = Value.ref a := rx
  exact d_notIn hu I2 g ry fun s3 I3 => ⟨.bl (!ov.isSome), H2, I3, rfl, q2⟩
theorem ps_dput (hu : X.A.units + 1 < cLine) (ho : PE X o td) (hi : PE X i ty) (hv : PE X value tv) (hs : swapsWith value (some (.Subscript o i pos')) pos.line X.env = pure false) :
    PS X (.Assign [.Subscript o i pos'] value pos) (sDPut td ty tv) := by
  intro pins s σ H D I h
  refine wpAny_Assign_Subscript (thn (hv pins s σ H _ I h) fun r s1 ⟨v, H1, I1, rv, q1⟩ => thn (ho pins s1 σ H1 _ I1 q1) fun u s2 ⟨x, H2, I2, rx, q2⟩ => thn (hi pins s2 σ H2 _ I2 q2) fun iv s3 ⟨y, H3, I3, ry, a, H4, ex, g, q3⟩ => ?_) hs
  subst ex
  obtain rfl : u = Value.ref a := rx
  exact d_setItem hu I3 g ry rv fun s4 I4 => ⟨σ, H4, I4, q3⟩
end
theorem dk_empty {P : Program} {w : World} {H : Hp} (h : Heap) (hb : sysModules < h.objs.size) : ObjOk P w H (h.push { cls := .type "dict", data := .dict #[] }) h.objs.size (.dK []) :=
  ⟨Nat.zero_le _, beq_eq_false_iff_ne.mpr (Ne.symm (Nat.ne_of_lt hb)), [], .nil, Heap.DictOf.new h⟩
noncomputable def tDNewK : TE := fun _ H Q => ∀ p, H p = none → Q (.ref p) (upd H p (.dK []))
section
variable {X : Cx} {pos : Pos}
theorem pe_dnewK : PE X (.Dict [] [] pos) tDNewK := fun pins s σ H Q I h =>
  wpAny_Dict_empty ⟨.ref s.heap.objs.size, _, I.laid (a := s.heap.objs.size) (o := .dK []) (t' := s.toks) (fun _ _ q => Heap.get?_push_of_some _ q) (Nat.le_refl _) (dk_empty s.heap I.big), rfl, h _ (I.hok.fresh (Nat.le_refl _))⟩
end
structure M1 (X : Cx) (o : Expr) (m : Str) (apos : Pos) (e : Expr) (cpos : Pos) : Prop where
  base : attributeBase o m X.env (eval o X.env) = eval o X.env
  few : ((backTo cpos (starEach [e] X.env)).all (fun x => !x.1) && (backToKw cpos (keywordEach [] X.env)).all (fun x => x.1.isSome)
    && decide (([e] : List Expr).length + ([] : List Keyword).length + (if ([] : List Keyword).isEmpty then 0 else 1) < 30)) = true
  line : (apos.endLine == cpos.line) = true
  trees : backTo cpos (starEach [e] X.env) = [(false, eval e X.env)]
structure M2 (X : Cx) (o : Expr) (m : Str) (apos : Pos) (e f : Expr) (cpos : Pos) : Prop where
  base : attributeBase o m X.env (eval o X.env) = eval o X.env
  few : ((backTo cpos (starEach [e, f] X.env)).all (fun x => !x.1) && (backToKw cpos (keywordEach [] X.env)).all (fun x => x.1.isSome)
    && decide (([e, f] : List Expr).length + ([] : List Keyword).length + (if ([] : List Keyword).isEmpty then 0 else 1) < 30)) = true
  line : (apos.endLine == cpos.line) = true
  trees : backTo cpos (starEach [e, f] X.env) = [(false, eval e X.env), (false, eval f X.env)]
noncomputable def IsD (H : Hp) (a : Addr) : Prop := (∃ kvs, Rd H a (.dK kvs)) ∨ ∃ kvs, Rd H a (.dT kvs)
theorem isD_at {X : Cx} {pins : List (Addr × Obj)} {σ : St} {H : Hp} {s : Shared} {a : Addr} (I : Inv X pins σ H s) (d : IsD H a) :
    s.TypeIs (.ref a) "dict" ∧ (∀ b, Value.ref a = .ref b → ∃ ob, s.heap.get? b = some ob ∧ ob.dict = none) ∧ (a == sysModules) = false := by
  rcases d with ⟨kvs, e⟩ | ⟨kvs, e⟩
  · obtain ⟨_, hd, vs, _, dd⟩ := dk_rd I.hok e
    refine ⟨dd.typeIs, fun b q => ?_, hd⟩
    cases q
    obtain ⟨ob, _, _, h1, h2, _⟩ := dd
    exact ⟨ob, h1, h2.2.1⟩
  · obtain ⟨_, hd, xs, _, dd⟩ := dt_rd I.hok e
    refine ⟨dd.typeIs, fun b q => ?_, hd⟩
    cases q
    obtain ⟨ob, _, _, h1, h2, _⟩ := dd
    exact ⟨ob, h1, h2.2.1⟩
section
variable {X : Cx} {pins : List (Addr × Obj)} {σ : St} {H : Hp} {s : Shared} {a : Addr} {y d : V} {u r : Value} {o : Option V} {A : Around} {E : Value → Shared → Prop}
theorem d_get2 {Q : Value → Shared → Prop} (hu : A.units + 1 < cLine) (I : Inv X pins σ H s) (g : DGet H a y o) (ry : RelV y u) (rd : RelV d r) (h : ∀ w' s', Inv X pins σ H s' → RelV (o.getD d) w' → Q w' s') :
    wpAny (model X.prog X.w) A (call (.builtin "dict.get") [.ref a, u, r]) Q E s := by
  rcases g with ⟨kvs, k, e, ey, l⟩ | ⟨kvs, k, b, e, ey, eb, l⟩
  · subst ey
    obtain ⟨z, hd, vs, rel, dd⟩ := dk_rd I.hok e
    refine call_meetsIn PySem.F.slot_dict_get dd.typeIs PySem.F.entry_dict_get (PySem.F.args_dict_get_3 _ _ _) (meets_dict_get_default (mixKind X.prog X.w) a (kV_is ry) hd r) ⟨_, dd.mapOf, h _ _ (I.tok _) ?_⟩
    rw [l]
    exact (rel.val k).getD rd
  · subst ey
    cases (show u = Value.ref b from ry)
    obtain ⟨z, hd, xs, rel, dd⟩ := dt_rd I.hok e
    refine call_meetsIn PySem.F.slot_dict_get dd.typeIs PySem.F.entry_dict_get (PySem.F.args_dict_get_3 _ _ _) (meetsH_dict_get_default (tupleKind (mixKind X.prog X.w)) a b hd r) ⟨tupleKind_room_in1 hu, k, xs, key_of I.hok eb, dd, h _ _ (I.tok _) ?_⟩
    rw [l]
    exact (rel.val k).getD rd
end
noncomputable def tDGet2 (td ty tx : TE) : TE := fun σ H Q => td σ H fun x H1 => ∃ a, x = .ref a ∧ IsD H1 a ∧ ty σ H1 fun y H2 => tx σ H2 fun z H3 => ∃ o, DGet H3 a y o ∧ Q (o.getD z) H3
section
variable {X : Cx} {o e f : Expr} {apos cpos : Pos} {td ty tx : TE}
theorem pe_dget2 (hu : X.A.units + 1 < cLine) (ho : PE X o td) (he : PE X e ty) (hf : PE X f tx) (m : M2 X o "get" apos e f cpos) : PE X (.Call (.Attribute o "get" apos) [e, f] [] cpos) (tDGet2 td ty tx) := by
  intro pins s σ H Q I h
  refine wpAny_Call_method m.base m.few m.line PySem.F.plainAttrs_dict PySem.F.slot_dict_get PySem.F.type_dict_get (thn (ho pins s σ H _ I h) fun u s1 ⟨x, H1, I1, rx, a, ex, d, q1⟩ => ?_)
  subst ex
  obtain rfl : u = Value.ref a := rx
  obtain ⟨t1, t2, _⟩ := isD_at I1 d
  refine ⟨t1, t2, ?_⟩
  rw [m.trees]
  refine Calls.callWith_builtin rfl (Calls.evalArgs_plain (Calls.spliced_cons (thn (he pins s1 σ H1 _ I1 q1) fun iv s2 ⟨y, H2, I2, ry, q2⟩ =>
    Calls.spliced_cons (thn (hf pins s2 σ H2 _ I2 q2) fun fv s3 ⟨z, H3, I3, rz, ov, g, q3⟩ => Calls.spliced_nil ?_))))
  exact d_get2 hu I3 g ry rz fun w' s4 I4 rw' => ⟨_, H3, I4, rw', q3⟩
end
section
variable {X : Cx} {pins : List (Addr × Obj)} {σ : St} {H : Hp} {s : Shared} {a : Addr} {kvs : List (Key × V)} {A : Around} {E : Value → Shared → Prop}
end
section
variable {X : Cx} {pins : List (Addr × Obj)} {σ : St} {H : Hp} {s : Shared} {a : Addr} {y : V} {u : Value} {A : Around} {E : Value → Shared → Prop}
end
end L2
namespace L2
open PySem PySem.Spec PyProof.Rows
section
variable {X : Cx}
theorem call_lenD : CallR X (.builtin "len") (fun xs H Q => ∃ a kvs, xs = [V.ref a] ∧ H a = some (.dK kvs) ∧ Q (.int kvs.length) H) := by
  intro pins s σ H xs us Q I r h
  obtain ⟨a, kvs, rfl, ha, q⟩ := h
  obtain ⟨u, rfl, ru⟩ := vals1 r
  cases ru
  exact d_len I (.inl ha) fun t s' I' => ⟨.int kvs.length, H, I', ⟨t, rfl⟩, q⟩
end
section
variable {κ : Type} [DecidableEq κ]
theorem nd_snoc : ∀ {l : List κ} {k : κ}, l.Nodup → ¬ k ∈ l → (l ++ [k]).Nodup
  | [], k, _, _ => by simp
  | a :: r, k, h, hk => by
    obtain ⟨h1, h2⟩ := List.nodup_cons.mp h
    show (a :: (r ++ [k])).Nodup
    refine List.nodup_cons.mpr ⟨fun m => ?_, nd_snoc h2 fun m => hk (List.mem_cons.mpr (Or.inr m))⟩
    rcases List.mem_append.mp m with q | q
    · exact h1 q
    · exact hk (List.mem_cons.mpr (Or.inl (List.mem_singleton.mp q).symm))
end
end L2
set_option linter.all false
namespace TS
open PySem PyProof.Rows
noncomputable def gallop' : Bool → Keyed → Array Keyed → Nat → Nat → Nat → StateT SortSt Sem (Option Nat) := sortPriv% PySem.Builtin.gallop
noncomputable def mergeLo' : Array Keyed → Array Keyed → StateT SortSt Sem (Array Keyed) := sortPriv% PySem.Builtin.mergeLo
noncomputable def mergeHi' : Array Keyed → Array Keyed → StateT SortSt Sem (Array Keyed) := sortPriv% PySem.Builtin.mergeHi
noncomputable def mergeAt' : Nat → StateT SortSt Sem Bool := sortPriv% PySem.Builtin.mergeAt
section
variable {prog : Program} {w : World} {A : Around} {E : Value → Shared → Prop} {s : Shared}
structure Cmp (prog : Program) (w : World) (A : Around) (s : Shared) (kd : SortKind) (O : KeyOrd) (ky : Keyed → O.α) (S : Keyed → Prop) : Prop where
  lt : ∀ p q, S p → S q → ∀ {E : Value → Shared → Prop} {Q : Bool → Shared → Prop}, Q (O.blt (ky p) (ky q)) s → wpAny (model prog w) A (keyLt' kd p.1 q.1) Q E s
variable {kd : SortKind} {O : KeyOrd} {ky : Keyed → O.α} {S : Keyed → Prop}
theorem wpS_lt (C : Cmp prog w A s kd O ky S) {st : SortSt} {p q : Keyed} {Q : Option Bool → SortSt → Prop} (hk : kindOf st = kd) (hp : S p) (hq : S q) (h : Q (some (O.blt (ky p) (ky q))) st) : wpS (model prog w) A E s (lt' p q) Q st := by
  rw [lt'_eq]
  refine wpS_bind (wpS_get ?_)
  rw [hk]
  refine wpS_bind (wpS_lift (wpAny_attempt (C.lt p q hp hq ⟨rfl, ?_⟩)))
  exact wpS_pure h
theorem wpS_elem {arr : Array Keyed} {i : Nat} {p : Keyed} {Q : Keyed → SortSt → Prop} {st : SortSt} (h : arr[i]? = some p) (hq : Q p st) : wpS (model prog w) A E s (elem' arr i) Q st := by
  rw [elem'_eq, h]
  exact wpS_pure hq
noncomputable def bey (O : KeyOrd) (ky : Keyed → O.α) (left : Bool) (key p : Keyed) : Bool := if left then O.blt (ky p) (ky key) else !O.blt (ky key) (ky p)
theorem wpS_bey (C : Cmp prog w A s kd O ky S) {st : SortSt} {left : Bool} {key p : Keyed} {arr : Array Keyed} {i : Nat} {Q : Option Bool → SortSt → Prop} (hk : kindOf st = kd) (hs : S key) (hp : arr[i]? = some p) (hsp : S p) (h : Q (some (bey O ky left key p)) st) :
    wpS (model prog w) A E s (do
      let x ← elem' arr i
      if left = true then lt' x key else do
        let r ← lt' key x
        pure (Option.map (fun x => !x) r)) Q st := by
  refine wpS_bind (wpS_elem hp ?_)
  unfold bey at h
  cases left with
  | true =>
    rw [if_pos rfl] at h ⊢
    exact wpS_lt C hk hsp hs h
  | false =>
    rw [if_neg Bool.false_ne_true] at h ⊢
    exact wpS_bind (wpS_lt C hk hs hsp (wpS_pure h))
theorem wpS_gallop (C : Cmp prog w A s kd O ky S) {st : SortSt} {left : Bool} {key : Keyed} {arr : Array Keyed} {base n hint : Nat} {Q : Option Nat → SortSt → Prop} (hk : kindOf st = kd) (hs : S key) {el : Nat → Keyed} (hel : ∀ i, i < n → arr[base + i]? = some (el i) ∧ S (el i))
    (anti : ∀ i j, i ≤ j → j < n → bey O ky left key (el j) = true → bey O ky left key (el i) = true) (hh : hint < n)
    (h : ∀ k, k ≤ n → (∀ i, i < k → bey O ky left key (el i) = true) → (∀ i, k ≤ i → i < n → bey O ky left key (el i) = false) → Q (some k) st) :
    wpS (model prog w) A E s (gallop' left key arr base n hint) Q st := by
  have anti' : ∀ i j, i ≤ j → j < n → bey O ky left key (el i) = false → bey O ky left key (el j) = false := fun i j h1 h2 h3 => by
    cases e : bey O ky left key (el j) with
    | false => rfl
    | true => rw [anti i j h1 h2 e] at h3; cases h3
  have ask : ∀ (i : Nat) {Q : Option Bool → SortSt → Prop}, i < n → Q (some (bey O ky left key (el i))) st → wpS (model prog w) A E s (do
      let x ← elem' arr (base + i)
      if left = true then lt' x key else do
        let r ← lt' key x
        pure (Option.map (fun x => !x) r)) Q st := fun i Q hi hq => wpS_bey C hk hs (hel i hi).1 (hel i hi).2 hq
  unfold gallop'
  refine wpS_bind (ask hint hh ?_)
  -- the last search
  have fin : ∀ lo hi, lo ≤ hi → hi ≤ n → (∀ i, i < lo → bey O ky left key (el i) = true) → (∀ i, hi ≤ i → i < n → bey O ky left key (el i) = false) → ∀ {f : Nat → Option (Option Nat) × Nat × Nat → StateT SortSt Sem (ForInStep (Option (Option Nat) × Nat × Nat))},
      (∀ (x : Nat) lo hi, lo ≤ hi → hi ≤ n → ∀ {R : ForInStep (Option (Option Nat) × Nat × Nat) → SortSt → Prop}, (lo ≥ hi → R (.done (none, lo, hi)) st) → (∀ m, lo ≤ m → m < hi → bey O ky left key (el m) = true → R (.yield (none, m + 1, hi)) st) → (∀ m, lo ≤ m → m < hi → bey O ky left key (el m) = false → R (.yield (none, lo, m)) st) → wpS (model prog w) A E s (f x (none, lo, hi)) R st) →
      ∀ {g : Option (Option Nat) × Nat × Nat → StateT SortSt Sem (Option Nat)}, (∀ lo hi, g (none, lo, hi) = pure (some hi)) → wpS (model prog w) A E s (forIn [:n] (none, lo, hi) f >>= g) Q st := by
    intro lo hi h1 h2 h3 h4 f hf g hg
    refine wpS_bind (wpS_mono (wpS_forRange (I := fun x c st' => st' = st ∧ ∃ lo hi, c = (none, lo, hi) ∧ lo ≤ hi ∧ hi ≤ n ∧ hi - lo ≤ n - x ∧ (∀ i, i < lo → bey O ky left key (el i) = true) ∧ (∀ i, hi ≤ i → i < n → bey O ky left key (el i) = false))
      (Q := fun c st' => st' = st ∧ ∃ hi, c = (none, hi, hi) ∧ hi ≤ n ∧ (∀ i, i < hi → bey O ky left key (el i) = true) ∧ (∀ i, hi ≤ i → i < n → bey O ky left key (el i) = false)) ?step ?fin ⟨rfl, lo, hi, rfl, h1, h2, by trivial, h3, h4⟩) ?post)
    case fin =>
      rintro c st' ⟨rfl, lo, hi, rfl, a1, a2, a3, a4, a5⟩
      have : lo = hi := by trivial
      subst this
      exact ⟨rfl, lo, rfl, a2, a4, a5⟩
    case post =>
      rintro c st' ⟨rfl, hi, rfl, a2, a4, a5⟩
      rw [hg]
      exact wpS_pure (h hi a2 a4 a5)
    case step =>
      rintro x c st' _ hx ⟨rfl, lo, hi, rfl, a1, a2, a3, a4, a5⟩
      refine hf x lo hi a1 a2 (fun q => ?_) (fun m m1 m2 mb => ?_) (fun m m1 m2 mb => ?_)
      · have : lo = hi := by trivial
        subst this
        exact ⟨rfl, lo, rfl, a2, a4, a5⟩
      · exact ⟨rfl, m + 1, hi, rfl, by trivial, a2, by trivial, fun i hi' => anti i m (by trivial) (by trivial) mb, a5⟩
      · exact ⟨rfl, lo, m, rfl, m1, by trivial, by trivial, a4, fun i i1 i2 => anti' m i i1 i2 mb⟩
  have body : ∀ (x : Nat) lo hi, lo ≤ hi → hi ≤ n → ∀ {R : ForInStep (Option (Option Nat) × Nat × Nat) → SortSt → Prop}, (lo ≥ hi → R (.done (none, lo, hi)) st) → (∀ m, lo ≤ m → m < hi → bey O ky left key (el m) = true → R (.yield (none, m + 1, hi)) st) → (∀ m, lo ≤ m → m < hi → bey O ky left key (el m) = false → R (.yield (none, lo, m)) st) →
      wpS (model prog w) A E s (if lo ≥ hi then pure (ForInStep.done ((none : Option (Option Nat)), lo, hi)) else do
        let r ← (do
          let x ← elem' arr (base + (lo + (hi - lo) / 2))
          if left = true then lt' x key else do
            let r ← lt' key x
            pure (Option.map (fun x => !x) r))
        match r with
          | some more => if more = true then pure (ForInStep.yield (none, lo + (hi - lo) / 2 + 1, hi)) else pure (ForInStep.yield (none, lo, lo + (hi - lo) / 2))
          | x => pure (ForInStep.done (some none, lo, hi))) R st := by
    intro x lo hi h1 h2 R r1 r2 r3
    by_cases hge : lo ≥ hi
    · rw [if_pos hge]; exact wpS_pure (r1 hge)
    · rw [if_neg hge]
      refine wpS_bind (ask _ (by trivial) ?_)
      dsimp only
      cases e : bey O ky left key (el (lo + (hi - lo) / 2)) with
      | true => rw [if_pos rfl]; exact wpS_pure (r2 _ (by trivial) (by trivial) e)
      | false => rw [if_neg Bool.false_ne_true]; exact wpS_pure (r3 _ (by trivial) (by trivial) e)
  dsimp only
  cases e0 : bey O ky left key (el hint) with
  | true =>
    rw [if_pos rfl]
    refine wpS_bind (wpS_mono (wpS_forRange (I := fun x c st' => st' = st ∧ ∃ la of_, c = (none, la, of_) ∧ la < of_ ∧ hint + la < n ∧ x + 1 ≤ of_ ∧ bey O ky left key (el (hint + la)) = true)
      (Q := fun c st' => st' = st ∧ ∃ la of_, c = (none, la, of_) ∧ la < of_ ∧ hint + la < n ∧ bey O ky left key (el (hint + la)) = true ∧ (n - hint ≤ of_ ∨ (hint + of_ < n ∧ bey O ky left key (el (hint + of_)) = false))) ?step ?fin ⟨rfl, 0, 1, rfl, by trivial, by trivial, by trivial, e0⟩) ?post)
    case fin =>
      rintro c st' ⟨rfl, la, of_, rfl, a1, a2, a3, a4⟩
      exact ⟨rfl, la, of_, rfl, a1, a2, a4, .inl (by trivial)⟩
    case step =>
      rintro x c st' _ hx ⟨rfl, la, of_, rfl, a1, a2, a3, a4⟩
      dsimp only
      by_cases hge : of_ ≥ n - hint
      · rw [if_pos hge]; exact wpS_pure ⟨rfl, la, of_, rfl, a1, a2, a4, .inl hge⟩
      · rw [if_neg hge]
        refine wpS_bind (ask (hint + of_) (by trivial) ?_)
        dsimp only
        cases e : bey O ky left key (el (hint + of_)) with
        | true =>
          rw [if_neg (by decide)]
          exact wpS_pure ⟨rfl, of_, 2 * of_ + 1, rfl, by trivial, by trivial, by trivial, e⟩
        | false =>
          rw [if_pos (by decide)]
          exact wpS_pure ⟨rfl, la, of_, rfl, a1, a2, a4, .inr ⟨by trivial, e⟩⟩
    case post =>
      rintro c st' ⟨rfl, la, of_, rfl, a1, a2, a4, a5⟩
      dsimp only
      refine fin (hint + la + 1) (hint + min of_ (n - hint)) (by trivial) (by trivial) (fun i hi => anti i (hint + la) (by trivial) a2 a4) (fun i i1 i2 => ?_) (body) (fun lo hi => rfl)
      rcases a5 with a5 | ⟨a5, a6⟩
      · trivial
      · exact anti' (hint + of_) i (by trivial) i2 a6
  | false =>
    rw [if_neg Bool.false_ne_true]
    refine wpS_bind (wpS_mono (wpS_forRange (I := fun x c st' => st' = st ∧ ∃ la of_, c = (none, la, of_) ∧ la < of_ ∧ la ≤ hint ∧ x + 1 ≤ of_ ∧ bey O ky left key (el (hint - la)) = false)
      (Q := fun c st' => st' = st ∧ ∃ la of_, c = (none, la, of_) ∧ la < of_ ∧ la ≤ hint ∧ bey O ky left key (el (hint - la)) = false ∧ (hint + 1 ≤ of_ ∨ (of_ ≤ hint ∧ bey O ky left key (el (hint - of_)) = true))) ?step ?fin ⟨rfl, 0, 1, rfl, by trivial, by trivial, by trivial, e0⟩) ?post)
    case fin =>
      rintro c st' ⟨rfl, la, of_, rfl, a1, a2, a3, a4⟩
      exact ⟨rfl, la, of_, rfl, a1, a2, a4, .inl (by trivial)⟩
    case step =>
      rintro x c st' _ hx ⟨rfl, la, of_, rfl, a1, a2, a3, a4⟩
      dsimp only
      by_cases hge : of_ ≥ hint + 1
      · rw [if_pos hge]; exact wpS_pure ⟨rfl, la, of_, rfl, a1, a2, a4, .inl hge⟩
      · rw [if_neg hge]
        refine wpS_bind (ask (hint - of_) (by trivial) ?_)
        dsimp only
        cases e : bey O ky left key (el (hint - of_)) with
        | true =>
          rw [if_pos rfl]
          exact wpS_pure ⟨rfl, la, of_, rfl, a1, a2, a4, .inr ⟨by trivial, e⟩⟩
        | false =>
          rw [if_neg Bool.false_ne_true]
          exact wpS_pure ⟨rfl, of_, 2 * of_ + 1, rfl, by trivial, by trivial, by trivial, e⟩
    case post =>
      rintro c st' ⟨rfl, la, of_, rfl, a1, a2, a4, a5⟩
      dsimp only
      refine fin (hint + 1 - min of_ (hint + 1)) (hint - la) (by trivial) (by trivial) (fun i hi => ?_) (fun i i1 i2 => anti' (hint - la) i (by trivial) i2 a4) (body) (fun lo hi => rfl)
      rcases a5 with a5 | ⟨a5, a6⟩
      · trivial
      · exact anti i (hint - of_) (by trivial) (by trivial) a6
end
end TS
set_option linter.all false
namespace TT
open PySem PyProof.Rows TS
section
variable (O : KeyOrd) (ky : Keyed → O.α) (ix : Keyed → Nat)
noncomputable def R (p q : Keyed) : Prop := O.kle (ky p) (ky q) ∧ (O.kle (ky q) (ky p) → ix p ≤ ix q)
theorem R.refl {O : KeyOrd} {ky : Keyed → O.α} {ix : Keyed → Nat} (p : Keyed) : R O ky ix p p := ⟨KeyOrd.kle_refl _, fun _ => Nat.le_refl _⟩
theorem R.trans {O : KeyOrd} {ky : Keyed → O.α} {ix : Keyed → Nat} {p q r : Keyed} (h : R O ky ix p q) (h' : R O ky ix q r) : R O ky ix p r := ⟨KeyOrd.kle_trans h.1 h'.1, fun z => Nat.le_trans (h.2 (KeyOrd.kle_trans h'.1 z)) (h'.2 (KeyOrd.kle_trans z h.1))⟩
theorem R.lt {O : KeyOrd} {ky : Keyed → O.α} {ix : Keyed → Nat} {p q : Keyed} (h : O.klt (ky p) (ky q)) : R O ky ix p q := ⟨KeyOrd.kle_of_klt h, fun z => by
  unfold KeyOrd.klt at h
  unfold KeyOrd.kle at z
  rw [h] at z; cases z⟩
theorem R.le {O : KeyOrd} {ky : Keyed → O.α} {ix : Keyed → Nat} {p q : Keyed} (h : O.kle (ky p) (ky q)) (h' : ix p ≤ ix q) : R O ky ix p q := ⟨h, fun _ => h'⟩
noncomputable def Srt (l : List Keyed) : Prop := l.Pairwise (R O ky ix)
structure MI (a b out : Array Keyed) (ia ib : Nat) : Prop where
  ha : ia ≤ a.size
  hb : ib ≤ b.size
  perm : out.toList.Perm (a.toList.take ia ++ b.toList.take ib)
  srt : Srt O ky ix out.toList
  ra : ∀ x ∈ out.toList, ∀ y ∈ a.toList.drop ia, R O ky ix x y
  rb : ∀ x ∈ out.toList, ∀ y ∈ b.toList.drop ib, R O ky ix x y
noncomputable def Good (a b o : Array Keyed) : Prop := o.toList.Perm (a.toList ++ b.toList) ∧ Srt O ky ix o.toList
variable {O ky ix} {a b out o : Array Keyed} {ia ib : Nat}
theorem drop_srt {l : List Keyed} (h : Srt O ky ix l) (k : Nat) : Srt O ky ix (l.drop k) := List.Pairwise.sublist (List.drop_sublist k l) h
theorem take_srt {l : List Keyed} (h : Srt O ky ix l) (k : Nat) : Srt O ky ix (l.take k) := List.Pairwise.sublist (List.take_sublist k l) h
theorem split_srt {l : List Keyed} (h : Srt O ky ix l) (k : Nat) : ∀ x ∈ l.take k, ∀ y ∈ l.drop k, R O ky ix x y := by
  have e := (List.take_append_drop k l).symm
  unfold Srt at h
  rw [e, List.pairwise_append] at h
  exact h.2.2
theorem mem_drop_le {l : List Keyed} {i j : Nat} (h : i ≤ j) {x : Keyed} (hx : x ∈ l.drop j) : x ∈ l.drop i := by
  rw [show j = i + (j - i) by trivial, ← List.drop_drop] at hx
  exact List.mem_of_mem_drop hx
theorem mem_take_le {l : List Keyed} {i j : Nat} (h : i ≤ j) {x : Keyed} (hx : x ∈ l.take i) : x ∈ l.take j := by
  rw [show i = min i j by trivial, ← List.take_take] at hx
  exact List.mem_of_mem_take hx
theorem MI.addA (h : MI O ky ix a b out ia ib) (sa : Srt O ky ix a.toList) {k : Nat} (hk : ia + k ≤ a.size) (hx : ∀ x ∈ (a.toList.drop ia).take k, ∀ y ∈ b.toList.drop ib, R O ky ix x y) (ho : o.toList = out.toList ++ (a.toList.drop ia).take k) : MI O ky ix a b o (ia + k) ib := by
  refine ⟨hk, h.hb, ?_, ?_, fun x hm y hy => ?_, fun x hm y hy => ?_⟩
  · rw [ho, List.take_add, List.append_assoc]
    refine (h.perm.append_right _).trans ?_
    rw [List.append_assoc]
    exact List.Perm.append_left _ List.perm_append_comm
  · unfold Srt
    rw [ho, List.pairwise_append]
    exact ⟨h.srt, take_srt (drop_srt sa _) _, fun x hx' y hy => h.ra x hx' y (List.mem_of_mem_take hy)⟩
  · rw [ho] at hm
    rcases List.mem_append.mp hm with hm | hm
    · exact h.ra x hm y (mem_drop_le (by trivial) hy)
    · rw [← List.drop_drop] at hy
      exact split_srt (drop_srt sa ia) k x hm y hy
  · rw [ho] at hm
    rcases List.mem_append.mp hm with hm | hm
    · exact h.rb x hm y hy
    · exact hx x hm y hy
theorem MI.swap (h : MI O ky ix a b out ia ib) : MI O ky ix b a out ib ia := ⟨h.hb, h.ha, h.perm.trans List.perm_append_comm, h.srt, h.rb, h.ra⟩
theorem MI.addB (h : MI O ky ix a b out ia ib) (sb : Srt O ky ix b.toList) {k : Nat} (hk : ib + k ≤ b.size) (hx : ∀ x ∈ (b.toList.drop ib).take k, ∀ y ∈ a.toList.drop ia, R O ky ix x y) (ho : o.toList = out.toList ++ (b.toList.drop ib).take k) : MI O ky ix a b o ia (ib + k) := (h.swap.addA sb hk hx ho).swap
theorem ext_all (x : Array Keyed) (i : Nat) : (x.extract i x.size).toList = x.toList.drop i := by simp [List.extract, List.take_of_length_le]
theorem ext_some (x : Array Keyed) (i k : Nat) : (x.extract i (i + k)).toList = (x.toList.drop i).take k := by simp [List.extract]
theorem MI.done (h : MI O ky ix a b out ia ib) (sa : Srt O ky ix a.toList) (sb : Srt O ky ix b.toList) (hor : ia = a.size ∨ ib = b.size) : Good O ky ix a b (out ++ a.extract ia a.size ++ b.extract ib b.size) := by
  unfold Good Srt
  rw [Array.toList_append, Array.toList_append, ext_all, ext_all]
  refine ⟨?_, ?_⟩
  · have e1 := List.take_append_drop ia a.toList
    have e2 := List.take_append_drop ib b.toList
    conv => rhs; rw [← e1, ← e2]
    rw [List.append_assoc]
    refine (h.perm.append_right _).trans ?_
    rw [List.append_assoc, List.append_assoc]
    refine List.Perm.append_left _ ?_
    rw [← List.append_assoc, ← List.append_assoc]
    exact List.perm_append_comm.append_right _
  · rw [List.pairwise_append, List.pairwise_append]
    refine ⟨⟨h.srt, drop_srt sa _, h.ra⟩, drop_srt sb _, fun x hx y hy => ?_⟩
    rcases List.mem_append.mp hx with hx | hx
    · exact h.rb x hx y hy
    · rcases hor with q | q
      · rw [q, List.drop_of_length_le (by simp)] at hx; cases hx
      · rw [q, List.drop_of_length_le (by simp)] at hy; cases hy
theorem MI.last (h : MI O ky ix a b out ia ib) (sa : Srt O ky ix a.toList) (sb : Srt O ky ix b.toList) (hl : ∀ y ∈ b.toList, ∀ x ∈ a.toList.drop ia, R O ky ix y x) : Good O ky ix a b (out ++ b.extract ib b.size ++ a.extract ia a.size) := by
  unfold Good Srt
  rw [Array.toList_append, Array.toList_append, ext_all, ext_all]
  refine ⟨?_, ?_⟩
  · have e1 := List.take_append_drop ia a.toList
    have e2 := List.take_append_drop ib b.toList
    conv => rhs; rw [← e1, ← e2]
    rw [List.append_assoc]
    refine (h.perm.append_right _).trans ?_
    rw [List.append_assoc, List.append_assoc]
    refine List.Perm.append_left _ ?_
    rw [← List.append_assoc]
    exact List.perm_append_comm
  · rw [List.pairwise_append, List.pairwise_append]
    refine ⟨⟨h.srt, drop_srt sb _, h.rb⟩, drop_srt sa _, fun x hx y hy => ?_⟩
    rcases List.mem_append.mp hx with hx | hx
    · exact h.ra x hx y hy
    · exact hl x (List.mem_of_mem_drop hx) y hy
structure MH (O : KeyOrd) (ky : Keyed → O.α) (ix : Keyed → Nat) (a b out : Array Keyed) (na nb : Nat) : Prop where
  ha : na ≤ a.size
  hb : nb ≤ b.size
  perm : out.toList.Perm (a.toList.drop na ++ b.toList.drop nb)
  srt : out.toList.Pairwise fun x y => R O ky ix y x
  ra : ∀ x ∈ out.toList, ∀ y ∈ a.toList.take na, R O ky ix y x
  rb : ∀ x ∈ out.toList, ∀ y ∈ b.toList.take nb, R O ky ix y x
theorem MH.swap {na nb : Nat} (h : MH O ky ix a b out na nb) : MH O ky ix b a out nb na := ⟨h.hb, h.ha, h.perm.trans List.perm_append_comm, h.srt, h.rb, h.ra⟩
theorem MH.addA {na nb k : Nat} (h : MH O ky ix a b out na nb) (sa : Srt O ky ix a.toList) (hk : k ≤ na) (hx : ∀ x ∈ (a.toList.take na).drop k, ∀ y ∈ b.toList.take nb, R O ky ix y x) (ho : o.toList = out.toList ++ ((a.toList.take na).drop k).reverse) : MH O ky ix a b o k nb := by
  have hd : a.toList.drop k = (a.toList.take na).drop k ++ a.toList.drop na := by
    conv => lhs; rw [← List.take_append_drop na a.toList]
    rw [List.drop_append_of_le_length (by have := h.ha; rw [List.length_take]; simp; trivial)]
  refine ⟨Nat.le_trans hk h.ha, h.hb, ?_, ?_, fun x hm y hy => ?_, fun x hm y hy => ?_⟩
  · rw [ho, hd]
    refine (h.perm.append_right _).trans ?_
    refine (List.perm_append_comm).trans ?_
    rw [← List.append_assoc]
    exact ((List.reverse_perm _).append_right _).append_right _
  · rw [ho, List.pairwise_append]
    refine ⟨h.srt, ?_, fun x hx' y hy => h.ra x hx' y (List.mem_of_mem_drop (List.mem_reverse.mp hy))⟩
    rw [List.pairwise_reverse]
    exact drop_srt (take_srt sa _) _
  · rw [ho] at hm
    rcases List.mem_append.mp hm with hm | hm
    · exact h.ra x hm y (mem_take_le hk hy)
    · have := split_srt (take_srt sa na) k y (by rw [List.take_take, Nat.min_eq_left hk]; exact hy) x (List.mem_reverse.mp hm)
      exact this
  · rw [ho] at hm
    rcases List.mem_append.mp hm with hm | hm
    · exact h.rb x hm y hy
    · exact hx x (List.mem_reverse.mp hm) y hy
theorem MH.addB {na nb k : Nat} (h : MH O ky ix a b out na nb) (sb : Srt O ky ix b.toList) (hk : k ≤ nb) (hx : ∀ x ∈ (b.toList.take nb).drop k, ∀ y ∈ a.toList.take na, R O ky ix y x) (ho : o.toList = out.toList ++ ((b.toList.take nb).drop k).reverse) : MH O ky ix a b o na k := (h.swap.addA sb hk hx ho).swap
theorem ext0 (x : Array Keyed) (k : Nat) : (x.extract 0 k).toList = x.toList.take k := by simp [List.extract]
theorem ext2 (x : Array Keyed) {i j : Nat} : (x.extract i j).toList = (x.toList.take j).drop i := by
  simp [List.extract]
  rw [List.drop_take]
theorem MH.done {na nb : Nat} (h : MH O ky ix a b out na nb) (sa : Srt O ky ix a.toList) (sb : Srt O ky ix b.toList) (hor : na = 0 ∨ nb = 0) : Good O ky ix a b (a.extract 0 na ++ b.extract 0 nb ++ out.reverse) := by
  unfold Good Srt
  rw [Array.toList_append, Array.toList_append, ext0, ext0, Array.toList_reverse]
  refine ⟨?_, ?_⟩
  · have e1 := List.take_append_drop na a.toList
    have e2 := List.take_append_drop nb b.toList
    conv => rhs; rw [← e1, ← e2]
    refine (List.Perm.append_left _ ((List.reverse_perm _).trans h.perm)).trans ?_
    rw [List.append_assoc, List.append_assoc]
    refine List.Perm.append_left _ ?_
    rw [← List.append_assoc, ← List.append_assoc]
    exact List.perm_append_comm.append_right _
  · rw [List.pairwise_append, List.pairwise_append, List.pairwise_reverse]
    refine ⟨⟨take_srt sa _, take_srt sb _, fun x hx y hy => ?_⟩, h.srt, fun x hx y hy => ?_⟩
    · rcases hor with q | q
      · rw [q, List.take_zero] at hx; cases hx
      · rw [q, List.take_zero] at hy; cases hy
    · rcases List.mem_append.mp hx with hx | hx
      · exact h.ra y (List.mem_reverse.mp hy) x hx
      · exact h.rb y (List.mem_reverse.mp hy) x hx
theorem MH.first {na nb : Nat} (h : MH O ky ix a b out na nb) (sa : Srt O ky ix a.toList) (sb : Srt O ky ix b.toList) (hl : ∀ x ∈ b.toList.take nb, ∀ y ∈ a.toList, R O ky ix x y) : Good O ky ix a b (b.extract 0 nb ++ a.extract 0 na ++ out.reverse) := by
  unfold Good Srt
  rw [Array.toList_append, Array.toList_append, ext0, ext0, Array.toList_reverse]
  refine ⟨?_, ?_⟩
  · have e1 := List.take_append_drop na a.toList
    have e2 := List.take_append_drop nb b.toList
    conv => rhs; rw [← e1, ← e2]
    refine (List.Perm.append_left _ ((List.reverse_perm _).trans h.perm)).trans ?_
    refine (List.perm_append_comm.append_right _).trans ?_
    rw [List.append_assoc, List.append_assoc]
    refine List.Perm.append_left _ ?_
    rw [← List.append_assoc, ← List.append_assoc]
    exact List.perm_append_comm.append_right _
  · rw [List.pairwise_append, List.pairwise_append, List.pairwise_reverse]
    refine ⟨⟨take_srt sb _, take_srt sa _, fun x hx y hy => hl x hx y (List.mem_of_mem_take hy)⟩, h.srt, fun x hx y hy => ?_⟩
    rcases List.mem_append.mp hx with hx | hx
    · exact h.rb y (List.mem_reverse.mp hy) x hx
    · exact h.ra y (List.mem_reverse.mp hy) x hx
end
end TT
set_option linter.all false
namespace TT
open PySem PyProof.Rows TS
structure SameSt (st st' : SortSt) : Prop where
  kind : kindOf st' = kindOf st
  arr : arrOf st' = arrOf st
  pend : pendingOf st' = pendingOf st
  fail : failedOf st' = failedOf st
theorem SameSt.refl (st : SortSt) : SameSt st st := ⟨rfl, rfl, rfl, rfl⟩
noncomputable def at_ (a : Array Keyed) (i : Nat) : Keyed := (a[i]?).getD (.none, .none)
theorem at_eq {a : Array Keyed} {i : Nat} (h : i < a.size) : a[i]? = some (at_ a i) := by unfold at_; rw [getElem?_pos a i h]; rfl
theorem at_list {a : Array Keyed} {i : Nat} (h : i < a.size) : a.toList[i]? = some (at_ a i) := by rw [← at_eq h]; simp
theorem at_mem {a : Array Keyed} {i : Nat} (h : i < a.size) : at_ a i ∈ a.toList := List.mem_of_getElem? (at_list h)
theorem at_cons {a : Array Keyed} {i : Nat} (h : i < a.size) : a.toList.drop i = at_ a i :: a.toList.drop (i + 1) := by
  have e := at_list h
  obtain ⟨hl, e2⟩ := List.getElem?_eq_some_iff.mp e
  rw [List.drop_eq_getElem_cons hl, e2]
theorem at_one {a : Array Keyed} {i : Nat} (h : i < a.size) : (a.toList.drop i).take 1 = [at_ a i] := by rw [at_cons h]; rfl
section
variable {O : KeyOrd} {ky : Keyed → O.α} {ix : Keyed → Nat}
theorem at_le {a : Array Keyed} (sa : Srt O ky ix a.toList) {i : Nat} (h : i < a.size) : ∀ y ∈ a.toList.drop i, R O ky ix (at_ a i) y := by
  intro y hy
  have s := drop_srt sa i
  rw [at_cons h] at hy s
  rcases List.mem_cons.mp hy with e | hy
  · rw [e]; exact R.refl _
  · exact (List.pairwise_cons.mp s).1 y hy
theorem at_ij {a : Array Keyed} (sa : Srt O ky ix a.toList) {i j : Nat} (hij : i ≤ j) (h : j < a.size) : R O ky ix (at_ a i) (at_ a j) := at_le sa (by trivial) _ (by
  have : at_ a j ∈ a.toList.drop j := by rw [at_cons h]; exact List.mem_cons_self
  exact mem_drop_le hij this)
theorem mem_at {a : Array Keyed} {i k : Nat} {x : Keyed} (hx : x ∈ (a.toList.drop i).take k) : ∃ j, j < k ∧ i + j < a.size ∧ x = at_ a (i + j) := by
  obtain ⟨j, hj, e⟩ := List.getElem_of_mem hx
  rw [List.length_take, List.length_drop] at hj
  have hl : i + j < a.size := by simp at hj; trivial
  refine ⟨j, by trivial, hl, ?_⟩
  have e2 : ((a.toList.drop i).take k)[j]? = some x := by rw [← e]; exact List.getElem?_eq_getElem _
  rw [List.getElem?_take, if_pos (by trivial), List.getElem?_drop, at_list hl] at e2
  exact (Option.some.inj e2).symm
end
section
variable {prog : Program} {w : World} {A : Around} {E : Value → Shared → Prop} {s : Shared}
variable {kd : SortKind} {O : KeyOrd} {ky : Keyed → O.α} {ix : Keyed → Nat} {S : Keyed → Prop}
theorem wpS_gal (C : Cmp prog w A s kd O ky S) {st : SortSt} {left : Bool} {key : Keyed} {arr : Array Keyed} {base n hint : Nat} {Q : Option Nat → SortSt → Prop} (hk : kindOf st = kd) (hs : S key) (hS : ∀ p ∈ arr.toList, S p) (sr : ∀ i j, i ≤ j → j < n → R O ky ix (at_ arr (base + i)) (at_ arr (base + j))) (hix : ∀ i, i < n → if left then ix key ≤ ix (at_ arr (base + i)) else ix (at_ arr (base + i)) ≤ ix key) (hn : base + n ≤ arr.size) (hh : hint < n)
    (h : ∀ k, k ≤ n → (∀ i, i < k → if left then O.klt (ky (at_ arr (base + i))) (ky key) else R O ky ix (at_ arr (base + i)) key) → (∀ i, k ≤ i → i < n → if left then R O ky ix key (at_ arr (base + i)) else O.klt (ky key) (ky (at_ arr (base + i)))) → Q (some k) st) :
    wpS (model prog w) A E s (gallop' left key arr base n hint) Q st := by
  refine wpS_gallop C hk hs (el := fun i => at_ arr (base + i)) (fun i hi => ⟨at_eq (by trivial), hS _ (at_mem (by trivial))⟩) (fun i j hij hj hb => ?_) hh (fun k hkn h1 h2 => h k hkn (fun i hi => ?_) (fun i hi hin => ?_))
  · have r := sr i j hij hj
    unfold bey at hb ⊢
    cases left with
    | true =>
      rw [if_pos rfl] at hb ⊢
      exact KeyOrd.klt_of_kle_of_klt r.1 hb
    | false =>
      rw [if_neg Bool.false_ne_true] at hb ⊢
      have hb' : O.blt (ky key) (ky (at_ arr (base + j))) = false := by simpa using hb
      have : O.kle (ky (at_ arr (base + i))) (ky key) := KeyOrd.kle_trans r.1 hb'
      unfold KeyOrd.kle at this
      rw [this]; rfl
  · have := h1 i hi
    unfold bey at this
    cases left with
    | true =>
      rw [if_pos rfl] at this ⊢
      exact this
    | false =>
      rw [if_neg Bool.false_ne_true] at this ⊢
      have hb' : O.blt (ky key) (ky (at_ arr (base + i))) = false := by simpa using this
      have hx := hix i (by trivial)
      rw [if_neg Bool.false_ne_true] at hx
      exact R.le hb' hx
  · have := h2 i hi hin
    unfold bey at this
    cases left with
    | true =>
      rw [if_pos rfl] at this ⊢
      have hx := hix i hin
      rw [if_pos rfl] at hx
      exact R.le this hx
    | false =>
      rw [if_neg Bool.false_ne_true] at this ⊢
      have hb' : O.blt (ky key) (ky (at_ arr (base + i))) = true := by simpa using this
      exact hb'
theorem wpS_mergeLo (C : Cmp prog w A s kd O ky S) {st : SortSt} {a b : Array Keyed} {Q : Array Keyed → SortSt → Prop} (hk : kindOf st = kd) (hSa : ∀ p ∈ a.toList, S p) (hSb : ∀ p ∈ b.toList, S p) (sa : Srt O ky ix a.toList) (sb : Srt O ky ix b.toList) (hix : ∀ x ∈ a.toList, ∀ y ∈ b.toList, ix x ≤ ix y) (na : 1 ≤ a.size) (nb : 1 ≤ b.size)
    (h0 : ∀ y ∈ a.toList, R O ky ix (at_ b 0) y) (hl : ∀ y ∈ b.toList, R O ky ix y (at_ a (a.size - 1))) (h : ∀ o st', Good O ky ix a b o → SameSt st st' → Q o st') : wpS (model prog w) A E s (mergeLo' a b) Q st := by
  have lst : ∀ {ia}, ia + 1 = a.size → ∀ y ∈ b.toList, ∀ x ∈ a.toList.drop ia, R O ky ix y x := fun {ia} e y hy x hx => by
    rw [at_cons (by trivial), List.drop_of_length_le (by simp; trivial)] at hx
    have : x = at_ a ia := by simpa using hx
    rw [this, show ia = a.size - 1 by trivial]
    exact hl y hy
  unfold mergeLo'
  refine wpS_bind (wpS_lift (wpAny_rule ⟨rfl, ?_⟩))
  dsimp only
  refine wpS_bind (wpS_elem (at_eq (by trivial)) ?_)
  have m0 : MI O ky ix a b #[at_ b 0] 0 1 := by
    have z : MI O ky ix a b #[] 0 0 := ⟨by trivial, by trivial, by simp, List.Pairwise.nil, fun x hx => by simp at hx, fun x hx => by simp at hx⟩
    have := z.addB sb (k := 1) (o := #[at_ b 0]) (by trivial) (fun x hx y hy => ?_) (by rw [at_one (by trivial)]; rfl)
    · exact this
    · rw [at_one (by trivial)] at hx
      have : x = at_ b 0 := by simpa using hx
      rw [this]; exact h0 y hy
  by_cases e1 : (1 == b.size) = true
  · rw [if_pos e1]
    exact wpS_pure (h _ _ (m0.done sa sb (.inr (by simpa using e1))) (SameSt.refl _))
  rw [if_neg e1]
  have e1' : ¬ 1 = b.size := by simpa using e1
  by_cases e2 : (0 + 1 == a.size) = true
  · rw [if_pos e2]
    exact wpS_pure (h _ _ (m0.last sa sb (lst (by simpa using e2))) (SameSt.refl _))
  rw [if_neg e2]
  have e2' : ¬ 0 + 1 = a.size := by simpa using e2
  refine wpS_bind (wpS_get ?_)
  refine wpS_bind (wpS_mono (wpS_forRange
    (I := fun x c st' => SameSt st st' ∧ c.1 = none ∧ MI O ky ix a b c.2.1 c.2.2.1 c.2.2.2.1 ∧ c.2.2.1 + 1 < a.size ∧ c.2.2.2.1 < b.size ∧ x + 1 ≤ c.2.2.1 + c.2.2.2.1)
    (Q := fun c st' => SameSt st st' ∧ ∃ r, c.1 = some r ∧ Good O ky ix a b r) ?step ?fin ⟨SameSt.refl _, rfl, m0, by dsimp only; trivial, by dsimp only; trivial, by dsimp only; trivial⟩) ?post)
  case fin =>
    rintro c st' ⟨_, _, m, c1, c2, c3⟩
    trivial
  case post =>
    rintro ⟨r, out, ia, ib, mg⟩ st' ⟨ss, r', hr, g⟩
    dsimp only at hr ⊢
    subst hr
    exact wpS_pure (h _ _ g ss)
  case step =>
    rintro x ⟨r, out, ia, ib, mg⟩ st1 _ hx ⟨ss, hr, m, c1, c2, c3⟩
    dsimp only at hr m c1 c2 c3 ⊢
    subst hr
    -- one by one
    refine wpS_bind (wpS_mono (wpS_forRange
      (I := fun y c st' => st' = st1 ∧ c.1 = none ∧ MI O ky ix a b c.2.1 c.2.2.1 c.2.2.2.1 ∧ c.2.2.1 + 1 < a.size ∧ c.2.2.2.1 < b.size ∧ ia + ib + y ≤ c.2.2.1 + c.2.2.2.1)
      (Q := fun c st' => st' = st1 ∧ ((∃ r, c.1 = some r ∧ Good O ky ix a b r) ∨ (c.1 = none ∧ MI O ky ix a b c.2.1 c.2.2.1 c.2.2.2.1 ∧ c.2.2.1 + 1 < a.size ∧ c.2.2.2.1 < b.size ∧ ia + ib + 1 ≤ c.2.2.1 + c.2.2.2.1))) ?step1 ?fin1 ⟨rfl, rfl, m, c1, c2, by dsimp only; trivial⟩) ?post1)
    case fin1 =>
      rintro c st' ⟨_, _, m, c1, c2, c3⟩
      trivial
    case step1 =>
      rintro y ⟨r, out, ia', ib', ac, bc⟩ st' _ hy ⟨rfl, hr, m, c1, c2, c3⟩
      dsimp only at hr m c1 c2 c3 ⊢
      subst hr
      have ka : kindOf st' = kd := ss.kind.trans hk
      refine wpS_bind (wpS_elem (at_eq c2) (wpS_bind (wpS_elem (at_eq (by trivial)) (wpS_bind (wpS_lt C ka (hSb _ (at_mem c2)) (hSa _ (at_mem (by trivial))) ?_)))))
      dsimp only
      cases hw : O.blt (ky (at_ b ib')) (ky (at_ a ia')) with
      | true =>
        rw [if_pos rfl]
        have m1 : MI O ky ix a b (out.push (at_ b ib')) ia' (ib' + 1) := m.addB sb (k := 1) (by trivial) (fun x hx y hy => by
          rw [at_one c2] at hx
          have : x = at_ b ib' := by simpa using hx
          rw [this]
          exact R.trans (R.lt hw) (at_le sa (by trivial) y hy)) (by rw [at_one c2]; simp)
        refine wpS_bind (wpS_elem (at_eq c2) ?_)
        split
        · rename_i q
          exact wpS_pure ⟨rfl, .inl ⟨_, rfl, m1.done sa sb (.inr (by simpa using q))⟩⟩
        · rename_i q
          have q' : ¬ ib' + 1 = b.size := by simpa using q
          split
          · exact wpS_pure ⟨rfl, .inr ⟨rfl, m1, c1, by dsimp only; trivial, by dsimp only; trivial⟩⟩
          · exact wpS_pure ⟨rfl, rfl, m1, c1, by dsimp only; trivial, by dsimp only; trivial⟩
      | false =>
        rw [if_neg Bool.false_ne_true]
        have m1 : MI O ky ix a b (out.push (at_ a ia')) (ia' + 1) ib' := m.addA sa (k := 1) (by trivial) (fun x hx y hy => by
          rw [at_one (by trivial)] at hx
          have : x = at_ a ia' := by simpa using hx
          rw [this]
          exact R.trans (R.le hw (hix _ (at_mem (by trivial)) _ (at_mem c2))) (at_le sb c2 y hy)) (by rw [at_one (by trivial)]; simp)
        refine wpS_bind (wpS_elem (at_eq (by trivial)) ?_)
        split
        · rename_i q
          exact wpS_pure ⟨rfl, .inl ⟨_, rfl, m1.last sa sb (lst (by simpa using q))⟩⟩
        · rename_i q
          have q' : ¬ ia' + 1 + 1 = a.size := by simpa using q
          split
          · exact wpS_pure ⟨rfl, .inr ⟨rfl, m1, by dsimp only; trivial, c2, by dsimp only; trivial⟩⟩
          · exact wpS_pure ⟨rfl, rfl, m1, by dsimp only; trivial, c2, by dsimp only; trivial⟩
    case post1 =>
      rintro ⟨r, out, ia1, ib1, ac, bc⟩ st' ⟨rfl, hc⟩
      dsimp only at hc ⊢
      rcases hc with ⟨r, rfl, g⟩ | ⟨rfl, m, c1', c2', c3'⟩
      · exact wpS_pure ⟨ss, r, rfl, g⟩
      dsimp only
      refine wpS_bind (wpS_lift (wpAny_rule ⟨rfl, ?_⟩))
      refine wpS_bind (wpS_mono (wpS_forRange
        (I := fun y c st' => SameSt st st' ∧ c.1 = none ∧ MI O ky ix a b c.2.1 c.2.2.1 c.2.2.2.1 ∧ c.2.2.1 + 1 < a.size ∧ c.2.2.2.1 < b.size ∧ ia + ib + 1 ≤ c.2.2.1 + c.2.2.2.1)
        (Q := fun c st' => SameSt st st' ∧ ((∃ r, c.1 = some r ∧ Good O ky ix a b r) ∨ (c.1 = none ∧ MI O ky ix a b c.2.1 c.2.2.1 c.2.2.2.1 ∧ c.2.2.1 + 1 < a.size ∧ c.2.2.2.1 < b.size ∧ ia + ib + 1 ≤ c.2.2.1 + c.2.2.2.1))) ?step2 ?fin2 ⟨ss, rfl, m, c1', c2', by dsimp only; trivial⟩) ?post2)
      case fin2 =>
        rintro c st' ⟨s', h1, h2, h3, h4, h5⟩
        exact ⟨s', .inr ⟨h1, h2, h3, h4, h5⟩⟩
      case post2 =>
        rintro ⟨r, out, ia2, ib2, mg2, ac2, bc2⟩ st2 ⟨s2, hc⟩
        dsimp only at hc ⊢
        rcases hc with ⟨r, rfl, g⟩ | ⟨rfl, m, d1, d2, d3⟩
        · exact wpS_pure ⟨s2, r, rfl, g⟩
        dsimp only
        refine wpS_bind (wpS_modify (wpS_pure ⟨⟨s2.kind, s2.arr, s2.pend, s2.fail⟩, rfl, m, d1, d2, by dsimp only; trivial⟩))
      case step2 =>
        rintro y ⟨r, out, ia', ib', mg', ac', bc'⟩ st2 _ hy ⟨s2, hr, m, c1, c2, c3⟩
        dsimp only at hr m c1 c2 c3 ⊢
        subst hr
        -- behind the gallop in a
        have T2 : ∀ {out : Array Keyed} {ia2 ib2 : Nat}, MI O ky ix a b out ia2 ib2 → ia2 + 1 < a.size → ib2 < b.size → ia + ib + 1 ≤ ia2 + ib2 → (∀ y ∈ b.toList.drop ib2, R O ky ix (at_ a ia2) y) → MI O ky ix a b (out.push (at_ a ia2)) (ia2 + 1) ib2 := fun {out ia2 ib2} m i1 i2 i3 hle => m.addA sa (k := 1) (by trivial) (fun x hx y hy => by
            rw [at_one (by trivial)] at hx
            have : x = at_ a ia2 := by simpa using hx
            rw [this]; exact hle y hy) (by rw [at_one (by trivial)]; simp)
        have T1 : ∀ {out : Array Keyed} {ia2 ib2 : Nat}, MI O ky ix a b out ia2 ib2 → ib2 < b.size → (∀ y ∈ a.toList.drop ia2, R O ky ix (at_ b ib2) y) → MI O ky ix a b (out.push (at_ b ib2)) ia2 (ib2 + 1) := fun {out ia2 ib2} m i2 hle => m.addB sb (k := 1) (by trivial) (fun x hx y hy => by
            rw [at_one (by trivial)] at hx
            have : x = at_ b ib2 := by simpa using hx
            rw [this]; exact hle y hy) (by rw [at_one (by trivial)]; simp)
        by_cases hmg : mg' > 1
        · rw [if_pos hmg]
          refine wpS_bind (wpS_modify ?_)
          refine wpS_bind (wpS_elem (at_eq c2) ?_)
          refine wpS_bind (wpS_gal C (s2.kind.trans hk) (hSb _ (at_mem c2)) hSa (fun i j hij hj => at_ij sa (by trivial) (by trivial)) (fun i hi => by simp only [Bool.false_eq_true, if_false]; exact hix _ (at_mem (by trivial)) _ (at_mem (by trivial))) (by trivial) (by trivial) fun k hkn k1 k2 => ?_)
          dsimp only
          simp only [Bool.false_eq_true, if_false] at k1 k2
          have hle : ∀ y ∈ a.toList.drop (ia' + k), R O ky ix (at_ b ib') y := fun y hy => by
            by_cases hlt : ia' + k < a.size
            · exact R.trans (R.lt (k2 k (Nat.le_refl _) (by trivial))) (at_le sa hlt y hy)
            · rw [List.drop_of_length_le (by simp; trivial)] at hy; cases hy
          have mA : MI O ky ix a b (out ++ a.extract ia' (ia' + k)) (ia' + k) ib' := m.addA sa (by trivial) (fun x hx y hy => by
            obtain ⟨j, j1, j2, rfl⟩ := mem_at hx
            exact R.trans (k1 j j1) (at_le sb c2 y hy)) (by rw [Array.toList_append, ext_some])
          by_cases hk0 : k > 0
          · rw [if_pos hk0]
            by_cases p1 : (ia' + k + 1 == a.size) = true
            · rw [if_pos p1]
              exact wpS_pure ⟨⟨s2.kind, s2.arr, s2.pend, s2.fail⟩, .inl ⟨_, rfl, mA.last sa sb (lst (by simpa using p1))⟩⟩
            rw [if_neg p1]
            by_cases p2 : (ia' + k == a.size) = true
            · rw [if_pos p2]
              exact wpS_pure ⟨⟨s2.kind, s2.arr, s2.pend, s2.fail⟩, .inl ⟨_, rfl, mA.done sa sb (.inl (by simpa using p2))⟩⟩
            rw [if_neg p2]
            have p1' : ¬ ia' + k + 1 = a.size := by simpa using p1
            have p2' : ¬ ia' + k = a.size := by simpa using p2
            refine wpS_bind (wpS_elem (at_eq c2) ?_)
            have m1 := T1 mA c2 hle
            by_cases q1 : (ib' + 1 == b.size) = true
            · rw [if_pos q1]
              exact wpS_pure ⟨⟨s2.kind, s2.arr, s2.pend, s2.fail⟩, .inl ⟨_, rfl, m1.done sa sb (.inr (by simpa using q1))⟩⟩
            rw [if_neg q1]
            have q1' : ¬ ib' + 1 = b.size := by simpa using q1
            refine wpS_bind (wpS_elem (at_eq (by trivial)) ?_)
            refine wpS_bind (wpS_gal C (s2.kind.trans hk) (hSa _ (at_mem (by trivial))) hSb (fun i j hij hj => at_ij sb (by trivial) (by trivial)) (fun i hi => by simp only [if_true]; exact hix _ (at_mem (by trivial)) _ (at_mem (by trivial))) (by trivial) (by trivial) fun k' hkn' k1' k2' => ?_)
            dsimp only
            simp only [if_true] at k1' k2'
            have hle2 : ∀ y ∈ b.toList.drop (ib' + 1 + k'), R O ky ix (at_ a (ia' + k)) y := fun y hy => by
              by_cases hlt : ib' + 1 + k' < b.size
              · exact R.trans (k2' k' (Nat.le_refl _) (by trivial)) (at_le sb hlt y hy)
              · rw [List.drop_of_length_le (by simp; trivial)] at hy; cases hy
            have mB := m1.addB sb (k := k') (o := (out ++ a.extract ia' (ia' + k)).push (at_ b ib') ++ b.extract (ib' + 1) (ib' + 1 + k')) (by trivial) (fun x hx y hy => by
              obtain ⟨j, j1, j2, rfl⟩ := mem_at hx
              exact R.trans (R.lt (k1' j j1)) (at_le sa (by trivial) y hy)) (by rw [Array.toList_append, ext_some])
            by_cases hk1 : k' > 0
            · rw [if_pos hk1]
              by_cases q2 : (ib' + 1 + k' == b.size) = true
              · rw [if_pos q2]
                exact wpS_pure ⟨⟨s2.kind, s2.arr, s2.pend, s2.fail⟩, .inl ⟨_, rfl, mB.done sa sb (.inr (by simpa using q2))⟩⟩
              rw [if_neg q2]
              have q2' : ¬ ib' + 1 + k' = b.size := by simpa using q2
              refine wpS_bind (wpS_elem (at_eq (by trivial)) ?_)
              have m2 := T2 mB (by trivial) (by trivial) (by trivial) hle2
              by_cases q3 : (ia' + k + 1 + 1 == a.size) = true
              · rw [if_pos q3]
                exact wpS_pure ⟨⟨s2.kind, s2.arr, s2.pend, s2.fail⟩, .inl ⟨_, rfl, m2.last sa sb (lst (by simpa using q3))⟩⟩
              rw [if_neg q3]
              have q3' : ¬ ia' + k + 1 + 1 = a.size := by simpa using q3
              by_cases q4 : (decide (k < 7) && decide (k' < 7)) = true
              · rw [if_pos q4]
                exact wpS_pure ⟨⟨s2.kind, s2.arr, s2.pend, s2.fail⟩, .inr ⟨rfl, m2, by dsimp only; trivial, by dsimp only; trivial, by dsimp only; trivial⟩⟩
              · rw [if_neg q4]
                exact wpS_pure ⟨⟨s2.kind, s2.arr, s2.pend, s2.fail⟩, rfl, m2, by dsimp only; trivial, by dsimp only; trivial, by dsimp only; trivial⟩
            · rw [if_neg hk1]
              have hle3 : ∀ y ∈ b.toList.drop (ib' + 1), R O ky ix (at_ a (ia' + k)) y := by
                have h' := hle2
                rw [show ib' + 1 + k' = ib' + 1 by trivial] at h'
                exact h'
              refine wpS_bind (wpS_elem (at_eq (by trivial)) ?_)
              have m2 := T2 m1 (by trivial) (by trivial) (by trivial) hle3
              by_cases q3 : (ia' + k + 1 + 1 == a.size) = true
              · rw [if_pos q3]
                exact wpS_pure ⟨⟨s2.kind, s2.arr, s2.pend, s2.fail⟩, .inl ⟨_, rfl, m2.last sa sb (lst (by simpa using q3))⟩⟩
              rw [if_neg q3]
              have q3' : ¬ ia' + k + 1 + 1 = a.size := by simpa using q3
              by_cases q4 : (decide (k < 7) && decide (k' < 7)) = true
              · rw [if_pos q4]
                exact wpS_pure ⟨⟨s2.kind, s2.arr, s2.pend, s2.fail⟩, .inr ⟨rfl, m2, by dsimp only; trivial, by dsimp only; trivial, by dsimp only; trivial⟩⟩
              · rw [if_neg q4]
                exact wpS_pure ⟨⟨s2.kind, s2.arr, s2.pend, s2.fail⟩, rfl, m2, by dsimp only; trivial, by dsimp only; trivial, by dsimp only; trivial⟩
          · rw [if_neg hk0]
            have hle0 : ∀ y ∈ a.toList.drop ia', R O ky ix (at_ b ib') y := by
              have h' := hle
              rw [show ia' + k = ia' by trivial] at h'
              exact h'
            refine wpS_bind (wpS_elem (at_eq c2) ?_)
            have m1 := T1 m c2 hle0
            by_cases q1 : (ib' + 1 == b.size) = true
            · rw [if_pos q1]
              exact wpS_pure ⟨⟨s2.kind, s2.arr, s2.pend, s2.fail⟩, .inl ⟨_, rfl, m1.done sa sb (.inr (by simpa using q1))⟩⟩
            rw [if_neg q1]
            have q1' : ¬ ib' + 1 = b.size := by simpa using q1
            refine wpS_bind (wpS_elem (at_eq (by trivial)) ?_)
            refine wpS_bind (wpS_gal C (s2.kind.trans hk) (hSa _ (at_mem (by trivial))) hSb (fun i j hij hj => at_ij sb (by trivial) (by trivial)) (fun i hi => by simp only [if_true]; exact hix _ (at_mem (by trivial)) _ (at_mem (by trivial))) (by trivial) (by trivial) fun k' hkn' k1' k2' => ?_)
            dsimp only
            simp only [if_true] at k1' k2'
            have hle2 : ∀ y ∈ b.toList.drop (ib' + 1 + k'), R O ky ix (at_ a (ia')) y := fun y hy => by
              by_cases hlt : ib' + 1 + k' < b.size
              · exact R.trans (k2' k' (Nat.le_refl _) (by trivial)) (at_le sb hlt y hy)
              · rw [List.drop_of_length_le (by simp; trivial)] at hy; cases hy
            have mB := m1.addB sb (k := k') (o := out.push (at_ b ib') ++ b.extract (ib' + 1) (ib' + 1 + k')) (by trivial) (fun x hx y hy => by
              obtain ⟨j, j1, j2, rfl⟩ := mem_at hx
              exact R.trans (R.lt (k1' j j1)) (at_le sa (by trivial) y hy)) (by rw [Array.toList_append, ext_some])
            by_cases hk1 : k' > 0
            · rw [if_pos hk1]
              by_cases q2 : (ib' + 1 + k' == b.size) = true
              · rw [if_pos q2]
                exact wpS_pure ⟨⟨s2.kind, s2.arr, s2.pend, s2.fail⟩, .inl ⟨_, rfl, mB.done sa sb (.inr (by simpa using q2))⟩⟩
              rw [if_neg q2]
              have q2' : ¬ ib' + 1 + k' = b.size := by simpa using q2
              refine wpS_bind (wpS_elem (at_eq (by trivial)) ?_)
              have m2 := T2 mB (by trivial) (by trivial) (by trivial) hle2
              by_cases q3 : (ia' + 1 + 1 == a.size) = true
              · rw [if_pos q3]
                exact wpS_pure ⟨⟨s2.kind, s2.arr, s2.pend, s2.fail⟩, .inl ⟨_, rfl, m2.last sa sb (lst (by simpa using q3))⟩⟩
              rw [if_neg q3]
              have q3' : ¬ ia' + 1 + 1 = a.size := by simpa using q3
              by_cases q4 : (decide (k < 7) && decide (k' < 7)) = true
              · rw [if_pos q4]
                exact wpS_pure ⟨⟨s2.kind, s2.arr, s2.pend, s2.fail⟩, .inr ⟨rfl, m2, by dsimp only; trivial, by dsimp only; trivial, by dsimp only; trivial⟩⟩
              · rw [if_neg q4]
                exact wpS_pure ⟨⟨s2.kind, s2.arr, s2.pend, s2.fail⟩, rfl, m2, by dsimp only; trivial, by dsimp only; trivial, by dsimp only; trivial⟩
            · rw [if_neg hk1]
              have hle3 : ∀ y ∈ b.toList.drop (ib' + 1), R O ky ix (at_ a (ia')) y := by
                have h' := hle2
                rw [show ib' + 1 + k' = ib' + 1 by trivial] at h'
                exact h'
              refine wpS_bind (wpS_elem (at_eq (by trivial)) ?_)
              have m2 := T2 m1 (by trivial) (by trivial) (by trivial) hle3
              by_cases q3 : (ia' + 1 + 1 == a.size) = true
              · rw [if_pos q3]
                exact wpS_pure ⟨⟨s2.kind, s2.arr, s2.pend, s2.fail⟩, .inl ⟨_, rfl, m2.last sa sb (lst (by simpa using q3))⟩⟩
              rw [if_neg q3]
              have q3' : ¬ ia' + 1 + 1 = a.size := by simpa using q3
              by_cases q4 : (decide (k < 7) && decide (k' < 7)) = true
              · rw [if_pos q4]
                exact wpS_pure ⟨⟨s2.kind, s2.arr, s2.pend, s2.fail⟩, .inr ⟨rfl, m2, by dsimp only; trivial, by dsimp only; trivial, by dsimp only; trivial⟩⟩
              · rw [if_neg q4]
                exact wpS_pure ⟨⟨s2.kind, s2.arr, s2.pend, s2.fail⟩, rfl, m2, by dsimp only; trivial, by dsimp only; trivial, by dsimp only; trivial⟩
        · rw [if_neg hmg]
          refine wpS_bind (wpS_modify ?_)
          refine wpS_bind (wpS_elem (at_eq c2) ?_)
          refine wpS_bind (wpS_gal C (s2.kind.trans hk) (hSb _ (at_mem c2)) hSa (fun i j hij hj => at_ij sa (by trivial) (by trivial)) (fun i hi => by simp only [Bool.false_eq_true, if_false]; exact hix _ (at_mem (by trivial)) _ (at_mem (by trivial))) (by trivial) (by trivial) fun k hkn k1 k2 => ?_)
          dsimp only
          simp only [Bool.false_eq_true, if_false] at k1 k2
          have hle : ∀ y ∈ a.toList.drop (ia' + k), R O ky ix (at_ b ib') y := fun y hy => by
            by_cases hlt : ia' + k < a.size
            · exact R.trans (R.lt (k2 k (Nat.le_refl _) (by trivial))) (at_le sa hlt y hy)
            · rw [List.drop_of_length_le (by simp; trivial)] at hy; cases hy
          have mA : MI O ky ix a b (out ++ a.extract ia' (ia' + k)) (ia' + k) ib' := m.addA sa (by trivial) (fun x hx y hy => by
            obtain ⟨j, j1, j2, rfl⟩ := mem_at hx
            exact R.trans (k1 j j1) (at_le sb c2 y hy)) (by rw [Array.toList_append, ext_some])
          by_cases hk0 : k > 0
          · rw [if_pos hk0]
            by_cases p1 : (ia' + k + 1 == a.size) = true
            · rw [if_pos p1]
              exact wpS_pure ⟨⟨s2.kind, s2.arr, s2.pend, s2.fail⟩, .inl ⟨_, rfl, mA.last sa sb (lst (by simpa using p1))⟩⟩
            rw [if_neg p1]
            by_cases p2 : (ia' + k == a.size) = true
            · rw [if_pos p2]
              exact wpS_pure ⟨⟨s2.kind, s2.arr, s2.pend, s2.fail⟩, .inl ⟨_, rfl, mA.done sa sb (.inl (by simpa using p2))⟩⟩
            rw [if_neg p2]
            have p1' : ¬ ia' + k + 1 = a.size := by simpa using p1
            have p2' : ¬ ia' + k = a.size := by simpa using p2
            refine wpS_bind (wpS_elem (at_eq c2) ?_)
            have m1 := T1 mA c2 hle
            by_cases q1 : (ib' + 1 == b.size) = true
            · rw [if_pos q1]
              exact wpS_pure ⟨⟨s2.kind, s2.arr, s2.pend, s2.fail⟩, .inl ⟨_, rfl, m1.done sa sb (.inr (by simpa using q1))⟩⟩
            rw [if_neg q1]
            have q1' : ¬ ib' + 1 = b.size := by simpa using q1
            refine wpS_bind (wpS_elem (at_eq (by trivial)) ?_)
            refine wpS_bind (wpS_gal C (s2.kind.trans hk) (hSa _ (at_mem (by trivial))) hSb (fun i j hij hj => at_ij sb (by trivial) (by trivial)) (fun i hi => by simp only [if_true]; exact hix _ (at_mem (by trivial)) _ (at_mem (by trivial))) (by trivial) (by trivial) fun k' hkn' k1' k2' => ?_)
            dsimp only
            simp only [if_true] at k1' k2'
            have hle2 : ∀ y ∈ b.toList.drop (ib' + 1 + k'), R O ky ix (at_ a (ia' + k)) y := fun y hy => by
              by_cases hlt : ib' + 1 + k' < b.size
              · exact R.trans (k2' k' (Nat.le_refl _) (by trivial)) (at_le sb hlt y hy)
              · rw [List.drop_of_length_le (by simp; trivial)] at hy; cases hy
            have mB := m1.addB sb (k := k') (o := (out ++ a.extract ia' (ia' + k)).push (at_ b ib') ++ b.extract (ib' + 1) (ib' + 1 + k')) (by trivial) (fun x hx y hy => by
              obtain ⟨j, j1, j2, rfl⟩ := mem_at hx
              exact R.trans (R.lt (k1' j j1)) (at_le sa (by trivial) y hy)) (by rw [Array.toList_append, ext_some])
            by_cases hk1 : k' > 0
            · rw [if_pos hk1]
              by_cases q2 : (ib' + 1 + k' == b.size) = true
              · rw [if_pos q2]
                exact wpS_pure ⟨⟨s2.kind, s2.arr, s2.pend, s2.fail⟩, .inl ⟨_, rfl, mB.done sa sb (.inr (by simpa using q2))⟩⟩
              rw [if_neg q2]
              have q2' : ¬ ib' + 1 + k' = b.size := by simpa using q2
              refine wpS_bind (wpS_elem (at_eq (by trivial)) ?_)
              have m2 := T2 mB (by trivial) (by trivial) (by trivial) hle2
              by_cases q3 : (ia' + k + 1 + 1 == a.size) = true
              · rw [if_pos q3]
                exact wpS_pure ⟨⟨s2.kind, s2.arr, s2.pend, s2.fail⟩, .inl ⟨_, rfl, m2.last sa sb (lst (by simpa using q3))⟩⟩
              rw [if_neg q3]
              have q3' : ¬ ia' + k + 1 + 1 = a.size := by simpa using q3
              by_cases q4 : (decide (k < 7) && decide (k' < 7)) = true
              · rw [if_pos q4]
                exact wpS_pure ⟨⟨s2.kind, s2.arr, s2.pend, s2.fail⟩, .inr ⟨rfl, m2, by dsimp only; trivial, by dsimp only; trivial, by dsimp only; trivial⟩⟩
              · rw [if_neg q4]
                exact wpS_pure ⟨⟨s2.kind, s2.arr, s2.pend, s2.fail⟩, rfl, m2, by dsimp only; trivial, by dsimp only; trivial, by dsimp only; trivial⟩
            · rw [if_neg hk1]
              have hle3 : ∀ y ∈ b.toList.drop (ib' + 1), R O ky ix (at_ a (ia' + k)) y := by
                have h' := hle2
                rw [show ib' + 1 + k' = ib' + 1 by trivial] at h'
                exact h'
              refine wpS_bind (wpS_elem (at_eq (by trivial)) ?_)
              have m2 := T2 m1 (by trivial) (by trivial) (by trivial) hle3
              by_cases q3 : (ia' + k + 1 + 1 == a.size) = true
              · rw [if_pos q3]
                exact wpS_pure ⟨⟨s2.kind, s2.arr, s2.pend, s2.fail⟩, .inl ⟨_, rfl, m2.last sa sb (lst (by simpa using q3))⟩⟩
              rw [if_neg q3]
              have q3' : ¬ ia' + k + 1 + 1 = a.size := by simpa using q3
              by_cases q4 : (decide (k < 7) && decide (k' < 7)) = true
              · rw [if_pos q4]
                exact wpS_pure ⟨⟨s2.kind, s2.arr, s2.pend, s2.fail⟩, .inr ⟨rfl, m2, by dsimp only; trivial, by dsimp only; trivial, by dsimp only; trivial⟩⟩
              · rw [if_neg q4]
                exact wpS_pure ⟨⟨s2.kind, s2.arr, s2.pend, s2.fail⟩, rfl, m2, by dsimp only; trivial, by dsimp only; trivial, by dsimp only; trivial⟩
          · rw [if_neg hk0]
            have hle0 : ∀ y ∈ a.toList.drop ia', R O ky ix (at_ b ib') y := by
              have h' := hle
              rw [show ia' + k = ia' by trivial] at h'
              exact h'
            refine wpS_bind (wpS_elem (at_eq c2) ?_)
            have m1 := T1 m c2 hle0
            by_cases q1 : (ib' + 1 == b.size) = true
            · rw [if_pos q1]
              exact wpS_pure ⟨⟨s2.kind, s2.arr, s2.pend, s2.fail⟩, .inl ⟨_, rfl, m1.done sa sb (.inr (by simpa using q1))⟩⟩
            rw [if_neg q1]
            have q1' : ¬ ib' + 1 = b.size := by simpa using q1
            refine wpS_bind (wpS_elem (at_eq (by trivial)) ?_)
            refine wpS_bind (wpS_gal C (s2.kind.trans hk) (hSa _ (at_mem (by trivial))) hSb (fun i j hij hj => at_ij sb (by trivial) (by trivial)) (fun i hi => by simp only [if_true]; exact hix _ (at_mem (by trivial)) _ (at_mem (by trivial))) (by trivial) (by trivial) fun k' hkn' k1' k2' => ?_)
            dsimp only
            simp only [if_true] at k1' k2'
            have hle2 : ∀ y ∈ b.toList.drop (ib' + 1 + k'), R O ky ix (at_ a (ia')) y := fun y hy => by
              by_cases hlt : ib' + 1 + k' < b.size
              · exact R.trans (k2' k' (Nat.le_refl _) (by trivial)) (at_le sb hlt y hy)
              · rw [List.drop_of_length_le (by simp; trivial)] at hy; cases hy
            have mB := m1.addB sb (k := k') (o := out.push (at_ b ib') ++ b.extract (ib' + 1) (ib' + 1 + k')) (by trivial) (fun x hx y hy => by
              obtain ⟨j, j1, j2, rfl⟩ := mem_at hx
              exact R.trans (R.lt (k1' j j1)) (at_le sa (by trivial) y hy)) (by rw [Array.toList_append, ext_some])
            by_cases hk1 : k' > 0
            · rw [if_pos hk1]
              by_cases q2 : (ib' + 1 + k' == b.size) = true
              · rw [if_pos q2]
                exact wpS_pure ⟨⟨s2.kind, s2.arr, s2.pend, s2.fail⟩, .inl ⟨_, rfl, mB.done sa sb (.inr (by simpa using q2))⟩⟩
              rw [if_neg q2]
              have q2' : ¬ ib' + 1 + k' = b.size := by simpa using q2
              refine wpS_bind (wpS_elem (at_eq (by trivial)) ?_)
              have m2 := T2 mB (by trivial) (by trivial) (by trivial) hle2
              by_cases q3 : (ia' + 1 + 1 == a.size) = true
              · rw [if_pos q3]
                exact wpS_pure ⟨⟨s2.kind, s2.arr, s2.pend, s2.fail⟩, .inl ⟨_, rfl, m2.last sa sb (lst (by simpa using q3))⟩⟩
              rw [if_neg q3]
              have q3' : ¬ ia' + 1 + 1 = a.size := by simpa using q3
              by_cases q4 : (decide (k < 7) && decide (k' < 7)) = true
              · rw [if_pos q4]
                exact wpS_pure ⟨⟨s2.kind, s2.arr, s2.pend, s2.fail⟩, .inr ⟨rfl, m2, by dsimp only; trivial, by dsimp only; trivial, by dsimp only; trivial⟩⟩
              · rw [if_neg q4]
                exact wpS_pure ⟨⟨s2.kind, s2.arr, s2.pend, s2.fail⟩, rfl, m2, by dsimp only; trivial, by dsimp only; trivial, by dsimp only; trivial⟩
            · rw [if_neg hk1]
              have hle3 : ∀ y ∈ b.toList.drop (ib' + 1), R O ky ix (at_ a (ia')) y := by
                have h' := hle2
                rw [show ib' + 1 + k' = ib' + 1 by trivial] at h'
                exact h'
              refine wpS_bind (wpS_elem (at_eq (by trivial)) ?_)
              have m2 := T2 m1 (by trivial) (by trivial) (by trivial) hle3
              by_cases q3 : (ia' + 1 + 1 == a.size) = true
              · rw [if_pos q3]
                exact wpS_pure ⟨⟨s2.kind, s2.arr, s2.pend, s2.fail⟩, .inl ⟨_, rfl, m2.last sa sb (lst (by simpa using q3))⟩⟩
              rw [if_neg q3]
              have q3' : ¬ ia' + 1 + 1 = a.size := by simpa using q3
              by_cases q4 : (decide (k < 7) && decide (k' < 7)) = true
              · rw [if_pos q4]
                exact wpS_pure ⟨⟨s2.kind, s2.arr, s2.pend, s2.fail⟩, .inr ⟨rfl, m2, by dsimp only; trivial, by dsimp only; trivial, by dsimp only; trivial⟩⟩
              · rw [if_neg q4]
                exact wpS_pure ⟨⟨s2.kind, s2.arr, s2.pend, s2.fail⟩, rfl, m2, by dsimp only; trivial, by dsimp only; trivial, by dsimp only; trivial⟩
end
end TT
set_option linter.all false
namespace TT
open PySem PyProof.Rows TS
section
variable {O : KeyOrd} {ky : Keyed → O.α} {ix : Keyed → Nat}
theorem at_snoc {a : Array Keyed} {i : Nat} (h : i < a.size) : a.toList.take (i + 1) = a.toList.take i ++ [at_ a i] := by rw [List.take_add_one, at_list h]; rfl
theorem at_ge {a : Array Keyed} (sa : Srt O ky ix a.toList) {i : Nat} (h : i < a.size) : ∀ y ∈ a.toList.take (i + 1), R O ky ix y (at_ a i) := by
  intro y hy
  have s := take_srt sa (i + 1)
  unfold Srt at s
  rw [at_snoc h] at hy s
  rcases List.mem_append.mp hy with hy | hy
  · exact (List.pairwise_append.mp s).2.2 y hy _ List.mem_cons_self
  · have : y = at_ a i := by simpa using hy
    rw [this]; exact R.refl _
theorem at_one' {a : Array Keyed} {i : Nat} (h : i < a.size) : (a.toList.take (i + 1)).drop i = [at_ a i] := by
  rw [at_snoc h, List.drop_append_of_le_length (by simp; trivial), List.drop_of_length_le (by simp; trivial)]; rfl
theorem mem_at' {a : Array Keyed} {i k : Nat} (hk : k ≤ a.size) {x : Keyed} (hx : x ∈ (a.toList.take k).drop i) : ∃ j, i ≤ j ∧ j < k ∧ x = at_ a j := by
  rw [List.drop_take] at hx
  obtain ⟨j, j1, j2, e⟩ := mem_at hx
  exact ⟨i + j, by trivial, by trivial, e⟩
theorem mem_take' {a : Array Keyed} {k : Nat} (hk : k ≤ a.size) {x : Keyed} (hx : x ∈ a.toList.take k) : ∃ j, j < k ∧ x = at_ a j := by
  obtain ⟨j, _, j2, e⟩ := mem_at' (i := 0) hk (by rw [List.drop_zero]; exact hx)
  exact ⟨j, j2, e⟩
theorem MH.pushA {a b out : Array Keyed} {na nb : Nat} (m : MH O ky ix a b out na nb) (sa : Srt O ky ix a.toList) (h1 : 1 ≤ na) (hx : ∀ y ∈ b.toList.take nb, R O ky ix y (at_ a (na - 1))) : MH O ky ix a b (out.push (at_ a (na - 1))) (na - 1) nb := by
  have ha := m.ha
  obtain ⟨j, rfl⟩ : ∃ j, na = j + 1 := ⟨na - 1, by trivial⟩
  rw [Nat.add_sub_cancel] at hx ⊢
  exact m.addA sa (by trivial) (fun x hx' y hy => by
    rw [at_one' (by trivial)] at hx'
    have : x = at_ a j := by simpa using hx'
    rw [this]; exact hx y hy) (by rw [at_one' (by trivial)]; simp)
theorem MH.pushB {a b out : Array Keyed} {na nb : Nat} (m : MH O ky ix a b out na nb) (sb : Srt O ky ix b.toList) (h1 : 1 ≤ nb) (hx : ∀ y ∈ a.toList.take na, R O ky ix y (at_ b (nb - 1))) : MH O ky ix a b (out.push (at_ b (nb - 1))) na (nb - 1) := (m.swap.pushA sb h1 hx).swap
end
section
variable {prog : Program} {w : World} {A : Around} {E : Value → Shared → Prop} {s : Shared}
variable {kd : SortKind} {O : KeyOrd} {ky : Keyed → O.α} {ix : Keyed → Nat} {S : Keyed → Prop}
theorem wpS_mergeHi (C : Cmp prog w A s kd O ky S) {st : SortSt} {a b : Array Keyed} {Q : Array Keyed → SortSt → Prop} (hk : kindOf st = kd) (hSa : ∀ p ∈ a.toList, S p) (hSb : ∀ p ∈ b.toList, S p) (sa : Srt O ky ix a.toList) (sb : Srt O ky ix b.toList) (hix : ∀ x ∈ a.toList, ∀ y ∈ b.toList, ix x ≤ ix y) (na1 : 1 ≤ a.size) (nb1 : 1 ≤ b.size)
    (h0 : ∀ y ∈ a.toList, R O ky ix (at_ b 0) y) (hl : ∀ y ∈ b.toList, R O ky ix y (at_ a (a.size - 1))) (h : ∀ o st', Good O ky ix a b o → SameSt st st' → Q o st') : wpS (model prog w) A E s (mergeHi' a b) Q st := by
  have fst : ∀ {nb}, nb = 1 → ∀ x ∈ b.toList.take nb, ∀ y ∈ a.toList, R O ky ix x y := fun {nb} e x hx y hy => by
    obtain ⟨j, j1, rfl⟩ := mem_take' (by trivial) hx
    rw [show j = 0 by trivial]
    exact h0 y hy
  unfold mergeHi'
  refine wpS_bind (wpS_lift (wpAny_rule ⟨rfl, ?_⟩))
  dsimp only
  refine wpS_bind (wpS_elem (at_eq (by trivial)) ?_)
  have m0 : MH O ky ix a b #[at_ a (a.size - 1)] (a.size - 1) b.size := by
    have z : MH O ky ix a b #[] a.size b.size := ⟨Nat.le_refl _, Nat.le_refl _, by simp, List.Pairwise.nil, fun x hx => by simp at hx, fun x hx => by simp at hx⟩
    exact z.pushA sa na1 (fun y hy => hl y (List.mem_of_mem_take hy))
  by_cases e1 : (a.size - 1 == 0) = true
  · rw [if_pos e1]
    exact wpS_pure (h _ _ (m0.done sa sb (.inl (by simpa using e1))) (SameSt.refl _))
  rw [if_neg e1]
  have e1' : ¬ a.size - 1 = 0 := by simpa using e1
  by_cases e2 : (b.size == 1) = true
  · rw [if_pos e2]
    exact wpS_pure (h _ _ (m0.first sa sb (fst (by simpa using e2))) (SameSt.refl _))
  rw [if_neg e2]
  have e2' : ¬ b.size = 1 := by simpa using e2
  refine wpS_bind (wpS_get ?_)
  refine wpS_bind (wpS_mono (wpS_forRange
    (I := fun x c st' => SameSt st st' ∧ c.1 = none ∧ MH O ky ix a b c.2.2.2.1 c.2.1 c.2.2.1 ∧ 1 ≤ c.2.1 ∧ 2 ≤ c.2.2.1 ∧ c.2.1 + c.2.2.1 + x + 1 ≤ a.size + b.size)
    (Q := fun c st' => SameSt st st' ∧ ∃ r, c.1 = some r ∧ Good O ky ix a b r) ?step ?fin ⟨SameSt.refl _, rfl, m0, by dsimp only; trivial, by dsimp only; trivial, by dsimp only; trivial⟩) ?post)
  case fin =>
    rintro c st' ⟨_, _, m, c1, c2, c3⟩
    trivial
  case post =>
    rintro ⟨r, na, nb, out, mg⟩ st' ⟨ss, r', hr, g⟩
    dsimp only at hr ⊢
    subst hr
    exact wpS_pure (h _ _ g ss)
  case step =>
    rintro x ⟨r, na, nb, out, mg⟩ st1 _ hx ⟨ss, hr, m, c1, c2, c3⟩
    dsimp only at hr m c1 c2 c3 ⊢
    subst hr
    have ha0 := m.ha
    have hb0 := m.hb
    refine wpS_bind (wpS_mono (wpS_forRange
      (I := fun y c st' => st' = st1 ∧ c.1 = none ∧ MH O ky ix a b c.2.2.2.1 c.2.1 c.2.2.1 ∧ 1 ≤ c.2.1 ∧ 2 ≤ c.2.2.1 ∧ c.2.1 + c.2.2.1 + y ≤ na + nb)
      (Q := fun c st' => st' = st1 ∧ ((∃ r, c.1 = some r ∧ Good O ky ix a b r) ∨ (c.1 = none ∧ MH O ky ix a b c.2.2.2.1 c.2.1 c.2.2.1 ∧ 1 ≤ c.2.1 ∧ 2 ≤ c.2.2.1 ∧ c.2.1 + c.2.2.1 + 1 ≤ na + nb))) ?step1 ?fin1 ⟨rfl, rfl, m, c1, c2, by dsimp only; trivial⟩) ?post1)
    case fin1 =>
      rintro c st' ⟨_, _, m, c1, c2, c3⟩
      trivial
    case step1 =>
      rintro y ⟨r, na', nb', out, ac, bc⟩ st' _ hy ⟨rfl, hr, m, c1, c2, c3⟩
      dsimp only at hr m c1 c2 c3 ⊢
      subst hr
      have ha' := m.ha
      have hb' := m.hb
      have ka : kindOf st' = kd := ss.kind.trans hk
      refine wpS_bind (wpS_elem (at_eq (by trivial)) (wpS_bind (wpS_elem (at_eq (by trivial)) (wpS_bind (wpS_lt C ka (hSb _ (at_mem (by trivial))) (hSa _ (at_mem (by trivial))) ?_)))))
      dsimp only
      cases hw : O.blt (ky (at_ b (nb' - 1))) (ky (at_ a (na' - 1))) with
      | true =>
        rw [if_pos rfl]
        have m1 := m.pushA sa c1 (fun y hy => by
          have := at_ge sb (i := nb' - 1) (by trivial) y (by rw [show nb' - 1 + 1 = nb' by trivial]; exact hy)
          exact R.trans this (R.lt hw))
        refine wpS_bind (wpS_elem (at_eq (by trivial)) ?_)
        split
        · rename_i q
          exact wpS_pure ⟨rfl, .inl ⟨_, rfl, m1.done sa sb (.inl (by simpa using q))⟩⟩
        · rename_i q
          have q' : ¬ na' - 1 = 0 := by simpa using q
          split
          · exact wpS_pure ⟨rfl, .inr ⟨rfl, m1, by dsimp only; trivial, c2, by dsimp only; trivial⟩⟩
          · exact wpS_pure ⟨rfl, rfl, m1, by dsimp only; trivial, c2, by dsimp only; trivial⟩
      | false =>
        rw [if_neg Bool.false_ne_true]
        have m1 := m.pushB sb (by trivial) (fun y hy => by
          have := at_ge sa (i := na' - 1) (by trivial) y (by rw [show na' - 1 + 1 = na' by trivial]; exact hy)
          exact R.trans this (R.le hw (hix _ (at_mem (by trivial)) _ (at_mem (by trivial)))))
        refine wpS_bind (wpS_elem (at_eq (by trivial)) ?_)
        split
        · rename_i q
          exact wpS_pure ⟨rfl, .inl ⟨_, rfl, m1.first sa sb (fst (by simpa using q))⟩⟩
        · rename_i q
          have q' : ¬ nb' - 1 = 1 := by simpa using q
          split
          · exact wpS_pure ⟨rfl, .inr ⟨rfl, m1, c1, by dsimp only; trivial, by dsimp only; trivial⟩⟩
          · exact wpS_pure ⟨rfl, rfl, m1, c1, by dsimp only; trivial, by dsimp only; trivial⟩
    case post1 =>
      rintro ⟨r, na2, nb2, out, ac, bc⟩ st' ⟨rfl, hc⟩
      dsimp only at hc ⊢
      rcases hc with ⟨r, rfl, g⟩ | ⟨rfl, m, c1', c2', c3'⟩
      · exact wpS_pure ⟨ss, r, rfl, g⟩
      dsimp only
      refine wpS_bind (wpS_lift (wpAny_rule ⟨rfl, ?_⟩))
      refine wpS_bind (wpS_mono (wpS_forRange
        (I := fun y c st' => SameSt st st' ∧ c.1 = none ∧ MH O ky ix a b c.2.2.2.1 c.2.1 c.2.2.1 ∧ 1 ≤ c.2.1 ∧ 2 ≤ c.2.2.1 ∧ c.2.1 + c.2.2.1 + 1 ≤ na + nb)
        (Q := fun c st' => SameSt st st' ∧ ((∃ r, c.1 = some r ∧ Good O ky ix a b r) ∨ (c.1 = none ∧ MH O ky ix a b c.2.2.2.1 c.2.1 c.2.2.1 ∧ 1 ≤ c.2.1 ∧ 2 ≤ c.2.2.1 ∧ c.2.1 + c.2.2.1 + 1 ≤ na + nb))) ?step2 ?fin2 ⟨ss, rfl, m, c1', c2', by dsimp only; trivial⟩) ?post2)
      case fin2 =>
        rintro c st' ⟨s', h1, h2, h3, h4, h5⟩
        exact ⟨s', .inr ⟨h1, h2, h3, h4, h5⟩⟩
      case post2 =>
        rintro ⟨r, na3, nb3, out, mg2, ac2, bc2⟩ st2 ⟨s2, hc⟩
        dsimp only at hc ⊢
        rcases hc with ⟨r, rfl, g⟩ | ⟨rfl, m, d1, d2, d3⟩
        · exact wpS_pure ⟨s2, r, rfl, g⟩
        dsimp only
        refine wpS_bind (wpS_modify (wpS_pure ⟨⟨s2.kind, s2.arr, s2.pend, s2.fail⟩, rfl, m, d1, d2, by dsimp only; trivial⟩))
      case step2 =>
        rintro y ⟨r, na', nb', out, mg', ac', bc'⟩ st2 _ hy ⟨s2, hr, m, c1, c2, c3⟩
        dsimp only at hr m c1 c2 c3 ⊢
        subst hr
        have ha' := m.ha
        have hb' := m.hb
        by_cases hmg : mg' > 1
        · rw [if_pos hmg]
          refine wpS_bind (wpS_modify ?_)
          refine wpS_bind (wpS_elem (at_eq (by trivial)) ?_)
          refine wpS_bind (wpS_gal C (s2.kind.trans hk) (hSb _ (at_mem (by trivial))) hSa (fun i j hij hj => at_ij sa (by trivial) (by trivial)) (fun i hi => by simp only [Bool.false_eq_true, if_false]; exact hix _ (at_mem (by trivial)) _ (at_mem (by trivial))) (by trivial) (by trivial) fun k hkn k1 k2 => ?_)
          dsimp only
          simp only [Bool.false_eq_true, if_false, Nat.zero_add] at k1 k2
          have hle : ∀ y ∈ a.toList.take k, R O ky ix y (at_ b (nb' - 1)) := fun y hy => by
            obtain ⟨j, j1, rfl⟩ := mem_take' (by trivial) hy
            exact k1 j j1
          have mA : MH O ky ix a b (out ++ (a.extract k na').reverse) k nb' := m.addA sa hkn (fun x hx y hy => by
            obtain ⟨j, j1, j2, rfl⟩ := mem_at' (by trivial) hx
            exact R.trans (at_ge sb (i := nb' - 1) (by trivial) y (by rw [show nb' - 1 + 1 = nb' by trivial]; exact hy)) (R.lt (k2 j j1 j2))) (by rw [Array.toList_append, Array.toList_reverse, ext2])
          by_cases hk0 : na' - k > 0
          · rw [if_pos hk0]
            by_cases p1 : (k == 0) = true
            · rw [if_pos p1]
              exact wpS_pure ⟨⟨s2.kind, s2.arr, s2.pend, s2.fail⟩, .inl ⟨_, rfl, mA.done sa sb (.inl (by simpa using p1))⟩⟩
            rw [if_neg p1]
            have p1' : ¬ k = 0 := by simpa using p1
            refine wpS_bind (wpS_elem (at_eq (by trivial)) ?_)
            have m1 := MH.pushB mA sb (by trivial) hle
            by_cases q1 : (nb' - 1 == 1) = true
            · rw [if_pos q1]
              exact wpS_pure ⟨⟨s2.kind, s2.arr, s2.pend, s2.fail⟩, .inl ⟨_, rfl, m1.first sa sb (fst (by simpa using q1))⟩⟩
            rw [if_neg q1]
            have q1' : ¬ nb' - 1 = 1 := by simpa using q1
            refine wpS_bind (wpS_elem (at_eq (by trivial)) ?_)
            refine wpS_bind (wpS_gal C (s2.kind.trans hk) (hSa _ (at_mem (by trivial))) hSb (fun i j hij hj => at_ij sb (by trivial) (by trivial)) (fun i hi => by simp only [if_true]; exact hix _ (at_mem (by trivial)) _ (at_mem (by trivial))) (by trivial) (by trivial) fun k' hkn' k1' k2' => ?_)
            dsimp only
            simp only [if_true, Nat.zero_add] at k1' k2'
            have hle2 : ∀ y ∈ b.toList.take k', R O ky ix y (at_ a (k - 1)) := fun y hy => by
              obtain ⟨j, j1, rfl⟩ := mem_take' (by trivial) hy
              exact R.lt (k1' j j1)
            have mB := m1.addB sb (k := k') (o := (out ++ (a.extract k na').reverse).push (at_ b (nb' - 1)) ++ (b.extract k' (nb' - 1)).reverse) hkn' (fun x hx y hy => by
              obtain ⟨j, j1, j2, rfl⟩ := mem_at' (by trivial) hx
              exact R.trans (at_ge sa (i := k - 1) (by trivial) y (by rw [show k - 1 + 1 = k by trivial]; exact hy)) (k2' j j1 j2)) (by rw [Array.toList_append, Array.toList_reverse, ext2])
            by_cases hk1 : nb' - 1 - k' > 0
            · rw [if_pos hk1]
              by_cases q2 : (k' == 1) = true
              · rw [if_pos q2]
                exact wpS_pure ⟨⟨s2.kind, s2.arr, s2.pend, s2.fail⟩, .inl ⟨_, rfl, mB.first sa sb (fst (by simpa using q2))⟩⟩
              rw [if_neg q2]
              by_cases q5 : (k' == 0) = true
              · rw [if_pos q5]
                exact wpS_pure ⟨⟨s2.kind, s2.arr, s2.pend, s2.fail⟩, .inl ⟨_, rfl, mB.done sa sb (.inr (by simpa using q5))⟩⟩
              rw [if_neg q5]
              have q2' : ¬ k' = 1 := by simpa using q2
              have q5' : ¬ k' = 0 := by simpa using q5
              refine wpS_bind (wpS_elem (at_eq (by trivial)) ?_)
              have m2 := MH.pushA mB sa (by trivial) hle2
              by_cases q3 : (k - 1 == 0) = true
              · rw [if_pos q3]
                exact wpS_pure ⟨⟨s2.kind, s2.arr, s2.pend, s2.fail⟩, .inl ⟨_, rfl, m2.done sa sb (.inl (by simpa using q3))⟩⟩
              rw [if_neg q3]
              have q3' : ¬ k - 1 = 0 := by simpa using q3
              by_cases q4 : (decide (na' - k < 7) && decide (nb' - 1 - k' < 7)) = true
              · rw [if_pos q4]
                exact wpS_pure ⟨⟨s2.kind, s2.arr, s2.pend, s2.fail⟩, .inr ⟨rfl, m2, by dsimp only; trivial, by dsimp only; trivial, by dsimp only; trivial⟩⟩
              · rw [if_neg q4]
                exact wpS_pure ⟨⟨s2.kind, s2.arr, s2.pend, s2.fail⟩, rfl, m2, by dsimp only; trivial, by dsimp only; trivial, by dsimp only; trivial⟩
            · rw [if_neg hk1]
              have hle3 : ∀ y ∈ b.toList.take (nb' - 1), R O ky ix y (at_ a (k - 1)) := by
                have h' := hle2
                rw [show k' = nb' - 1 by trivial] at h'
                exact h'
              refine wpS_bind (wpS_elem (at_eq (by trivial)) ?_)
              have m2 := MH.pushA m1 sa (by trivial) hle3
              by_cases q3 : (k - 1 == 0) = true
              · rw [if_pos q3]
                exact wpS_pure ⟨⟨s2.kind, s2.arr, s2.pend, s2.fail⟩, .inl ⟨_, rfl, m2.done sa sb (.inl (by simpa using q3))⟩⟩
              rw [if_neg q3]
              have q3' : ¬ k - 1 = 0 := by simpa using q3
              by_cases q4 : (decide (na' - k < 7) && decide (nb' - 1 - k' < 7)) = true
              · rw [if_pos q4]
                exact wpS_pure ⟨⟨s2.kind, s2.arr, s2.pend, s2.fail⟩, .inr ⟨rfl, m2, by dsimp only; trivial, by dsimp only; trivial, by dsimp only; trivial⟩⟩
              · rw [if_neg q4]
                exact wpS_pure ⟨⟨s2.kind, s2.arr, s2.pend, s2.fail⟩, rfl, m2, by dsimp only; trivial, by dsimp only; trivial, by dsimp only; trivial⟩
          · rw [if_neg hk0]
            have hle0 : ∀ y ∈ a.toList.take na', R O ky ix y (at_ b (nb' - 1)) := by
              have h' := hle
              rw [show k = na' by trivial] at h'
              exact h'
            refine wpS_bind (wpS_elem (at_eq (by trivial)) ?_)
            have m1 := MH.pushB m sb (by trivial) hle0
            by_cases q1 : (nb' - 1 == 1) = true
            · rw [if_pos q1]
              exact wpS_pure ⟨⟨s2.kind, s2.arr, s2.pend, s2.fail⟩, .inl ⟨_, rfl, m1.first sa sb (fst (by simpa using q1))⟩⟩
            rw [if_neg q1]
            have q1' : ¬ nb' - 1 = 1 := by simpa using q1
            refine wpS_bind (wpS_elem (at_eq (by trivial)) ?_)
            refine wpS_bind (wpS_gal C (s2.kind.trans hk) (hSa _ (at_mem (by trivial))) hSb (fun i j hij hj => at_ij sb (by trivial) (by trivial)) (fun i hi => by simp only [if_true]; exact hix _ (at_mem (by trivial)) _ (at_mem (by trivial))) (by trivial) (by trivial) fun k' hkn' k1' k2' => ?_)
            dsimp only
            simp only [if_true, Nat.zero_add] at k1' k2'
            have hle2 : ∀ y ∈ b.toList.take k', R O ky ix y (at_ a (na' - 1)) := fun y hy => by
              obtain ⟨j, j1, rfl⟩ := mem_take' (by trivial) hy
              exact R.lt (k1' j j1)
            have mB := m1.addB sb (k := k') (o := out.push (at_ b (nb' - 1)) ++ (b.extract k' (nb' - 1)).reverse) hkn' (fun x hx y hy => by
              obtain ⟨j, j1, j2, rfl⟩ := mem_at' (by trivial) hx
              exact R.trans (at_ge sa (i := na' - 1) (by trivial) y (by rw [show na' - 1 + 1 = na' by trivial]; exact hy)) (k2' j j1 j2)) (by rw [Array.toList_append, Array.toList_reverse, ext2])
            by_cases hk1 : nb' - 1 - k' > 0
            · rw [if_pos hk1]
              by_cases q2 : (k' == 1) = true
              · rw [if_pos q2]
                exact wpS_pure ⟨⟨s2.kind, s2.arr, s2.pend, s2.fail⟩, .inl ⟨_, rfl, mB.first sa sb (fst (by simpa using q2))⟩⟩
              rw [if_neg q2]
              by_cases q5 : (k' == 0) = true
              · rw [if_pos q5]
                exact wpS_pure ⟨⟨s2.kind, s2.arr, s2.pend, s2.fail⟩, .inl ⟨_, rfl, mB.done sa sb (.inr (by simpa using q5))⟩⟩
              rw [if_neg q5]
              have q2' : ¬ k' = 1 := by simpa using q2
              have q5' : ¬ k' = 0 := by simpa using q5
              refine wpS_bind (wpS_elem (at_eq (by trivial)) ?_)
              have m2 := MH.pushA mB sa (by trivial) hle2
              by_cases q3 : (na' - 1 == 0) = true
              · rw [if_pos q3]
                exact wpS_pure ⟨⟨s2.kind, s2.arr, s2.pend, s2.fail⟩, .inl ⟨_, rfl, m2.done sa sb (.inl (by simpa using q3))⟩⟩
              rw [if_neg q3]
              have q3' : ¬ na' - 1 = 0 := by simpa using q3
              by_cases q4 : (decide (na' - k < 7) && decide (nb' - 1 - k' < 7)) = true
              · rw [if_pos q4]
                exact wpS_pure ⟨⟨s2.kind, s2.arr, s2.pend, s2.fail⟩, .inr ⟨rfl, m2, by dsimp only; trivial, by dsimp only; trivial, by dsimp only; trivial⟩⟩
              · rw [if_neg q4]
                exact wpS_pure ⟨⟨s2.kind, s2.arr, s2.pend, s2.fail⟩, rfl, m2, by dsimp only; trivial, by dsimp only; trivial, by dsimp only; trivial⟩
            · rw [if_neg hk1]
              have hle3 : ∀ y ∈ b.toList.take (nb' - 1), R O ky ix y (at_ a (na' - 1)) := by
                have h' := hle2
                rw [show k' = nb' - 1 by trivial] at h'
                exact h'
              refine wpS_bind (wpS_elem (at_eq (by trivial)) ?_)
              have m2 := MH.pushA m1 sa (by trivial) hle3
              by_cases q3 : (na' - 1 == 0) = true
              · rw [if_pos q3]
                exact wpS_pure ⟨⟨s2.kind, s2.arr, s2.pend, s2.fail⟩, .inl ⟨_, rfl, m2.done sa sb (.inl (by simpa using q3))⟩⟩
              rw [if_neg q3]
              have q3' : ¬ na' - 1 = 0 := by simpa using q3
              by_cases q4 : (decide (na' - k < 7) && decide (nb' - 1 - k' < 7)) = true
              · rw [if_pos q4]
                exact wpS_pure ⟨⟨s2.kind, s2.arr, s2.pend, s2.fail⟩, .inr ⟨rfl, m2, by dsimp only; trivial, by dsimp only; trivial, by dsimp only; trivial⟩⟩
              · rw [if_neg q4]
                exact wpS_pure ⟨⟨s2.kind, s2.arr, s2.pend, s2.fail⟩, rfl, m2, by dsimp only; trivial, by dsimp only; trivial, by dsimp only; trivial⟩
        · rw [if_neg hmg]
          refine wpS_bind (wpS_modify ?_)
          refine wpS_bind (wpS_elem (at_eq (by trivial)) ?_)
          refine wpS_bind (wpS_gal C (s2.kind.trans hk) (hSb _ (at_mem (by trivial))) hSa (fun i j hij hj => at_ij sa (by trivial) (by trivial)) (fun i hi => by simp only [Bool.false_eq_true, if_false]; exact hix _ (at_mem (by trivial)) _ (at_mem (by trivial))) (by trivial) (by trivial) fun k hkn k1 k2 => ?_)
          dsimp only
          simp only [Bool.false_eq_true, if_false, Nat.zero_add] at k1 k2
          have hle : ∀ y ∈ a.toList.take k, R O ky ix y (at_ b (nb' - 1)) := fun y hy => by
            obtain ⟨j, j1, rfl⟩ := mem_take' (by trivial) hy
            exact k1 j j1
          have mA : MH O ky ix a b (out ++ (a.extract k na').reverse) k nb' := m.addA sa hkn (fun x hx y hy => by
            obtain ⟨j, j1, j2, rfl⟩ := mem_at' (by trivial) hx
            exact R.trans (at_ge sb (i := nb' - 1) (by trivial) y (by rw [show nb' - 1 + 1 = nb' by trivial]; exact hy)) (R.lt (k2 j j1 j2))) (by rw [Array.toList_append, Array.toList_reverse, ext2])
          by_cases hk0 : na' - k > 0
          · rw [if_pos hk0]
            by_cases p1 : (k == 0) = true
            · rw [if_pos p1]
              exact wpS_pure ⟨⟨s2.kind, s2.arr, s2.pend, s2.fail⟩, .inl ⟨_, rfl, mA.done sa sb (.inl (by simpa using p1))⟩⟩
            rw [if_neg p1]
            have p1' : ¬ k = 0 := by simpa using p1
            refine wpS_bind (wpS_elem (at_eq (by trivial)) ?_)
            have m1 := MH.pushB mA sb (by trivial) hle
            by_cases q1 : (nb' - 1 == 1) = true
            · rw [if_pos q1]
              exact wpS_pure ⟨⟨s2.kind, s2.arr, s2.pend, s2.fail⟩, .inl ⟨_, rfl, m1.first sa sb (fst (by simpa using q1))⟩⟩
            rw [if_neg q1]
            have q1' : ¬ nb' - 1 = 1 := by simpa using q1
            refine wpS_bind (wpS_elem (at_eq (by trivial)) ?_)
            refine wpS_bind (wpS_gal C (s2.kind.trans hk) (hSa _ (at_mem (by trivial))) hSb (fun i j hij hj => at_ij sb (by trivial) (by trivial)) (fun i hi => by simp only [if_true]; exact hix _ (at_mem (by trivial)) _ (at_mem (by trivial))) (by trivial) (by trivial) fun k' hkn' k1' k2' => ?_)
            dsimp only
            simp only [if_true, Nat.zero_add] at k1' k2'
            have hle2 : ∀ y ∈ b.toList.take k', R O ky ix y (at_ a (k - 1)) := fun y hy => by
              obtain ⟨j, j1, rfl⟩ := mem_take' (by trivial) hy
              exact R.lt (k1' j j1)
            have mB := m1.addB sb (k := k') (o := (out ++ (a.extract k na').reverse).push (at_ b (nb' - 1)) ++ (b.extract k' (nb' - 1)).reverse) hkn' (fun x hx y hy => by
              obtain ⟨j, j1, j2, rfl⟩ := mem_at' (by trivial) hx
              exact R.trans (at_ge sa (i := k - 1) (by trivial) y (by rw [show k - 1 + 1 = k by trivial]; exact hy)) (k2' j j1 j2)) (by rw [Array.toList_append, Array.toList_reverse, ext2])
            by_cases hk1 : nb' - 1 - k' > 0
            · rw [if_pos hk1]
              by_cases q2 : (k' == 1) = true
              · rw [if_pos q2]
                exact wpS_pure ⟨⟨s2.kind, s2.arr, s2.pend, s2.fail⟩, .inl ⟨_, rfl, mB.first sa sb (fst (by simpa using q2))⟩⟩
              rw [if_neg q2]
              by_cases q5 : (k' == 0) = true
              · rw [if_pos q5]
                exact wpS_pure ⟨⟨s2.kind, s2.arr, s2.pend, s2.fail⟩, .inl ⟨_, rfl, mB.done sa sb (.inr (by simpa using q5))⟩⟩
              rw [if_neg q5]
              have q2' : ¬ k' = 1 := by simpa using q2
              have q5' : ¬ k' = 0 := by simpa using q5
              refine wpS_bind (wpS_elem (at_eq (by trivial)) ?_)
              have m2 := MH.pushA mB sa (by trivial) hle2
              by_cases q3 : (k - 1 == 0) = true
              · rw [if_pos q3]
                exact wpS_pure ⟨⟨s2.kind, s2.arr, s2.pend, s2.fail⟩, .inl ⟨_, rfl, m2.done sa sb (.inl (by simpa using q3))⟩⟩
              rw [if_neg q3]
              have q3' : ¬ k - 1 = 0 := by simpa using q3
              by_cases q4 : (decide (na' - k < 7) && decide (nb' - 1 - k' < 7)) = true
              · rw [if_pos q4]
                exact wpS_pure ⟨⟨s2.kind, s2.arr, s2.pend, s2.fail⟩, .inr ⟨rfl, m2, by dsimp only; trivial, by dsimp only; trivial, by dsimp only; trivial⟩⟩
              · rw [if_neg q4]
                exact wpS_pure ⟨⟨s2.kind, s2.arr, s2.pend, s2.fail⟩, rfl, m2, by dsimp only; trivial, by dsimp only; trivial, by dsimp only; trivial⟩
            · rw [if_neg hk1]
              have hle3 : ∀ y ∈ b.toList.take (nb' - 1), R O ky ix y (at_ a (k - 1)) := by
                have h' := hle2
                rw [show k' = nb' - 1 by trivial] at h'
                exact h'
              refine wpS_bind (wpS_elem (at_eq (by trivial)) ?_)
              have m2 := MH.pushA m1 sa (by trivial) hle3
              by_cases q3 : (k - 1 == 0) = true
              · rw [if_pos q3]
                exact wpS_pure ⟨⟨s2.kind, s2.arr, s2.pend, s2.fail⟩, .inl ⟨_, rfl, m2.done sa sb (.inl (by simpa using q3))⟩⟩
              rw [if_neg q3]
              have q3' : ¬ k - 1 = 0 := by simpa using q3
              by_cases q4 : (decide (na' - k < 7) && decide (nb' - 1 - k' < 7)) = true
              · rw [if_pos q4]
                exact wpS_pure ⟨⟨s2.kind, s2.arr, s2.pend, s2.fail⟩, .inr ⟨rfl, m2, by dsimp only; trivial, by dsimp only; trivial, by dsimp only; trivial⟩⟩
              · rw [if_neg q4]
                exact wpS_pure ⟨⟨s2.kind, s2.arr, s2.pend, s2.fail⟩, rfl, m2, by dsimp only; trivial, by dsimp only; trivial, by dsimp only; trivial⟩
          · rw [if_neg hk0]
            have hle0 : ∀ y ∈ a.toList.take na', R O ky ix y (at_ b (nb' - 1)) := by
              have h' := hle
              rw [show k = na' by trivial] at h'
              exact h'
            refine wpS_bind (wpS_elem (at_eq (by trivial)) ?_)
            have m1 := MH.pushB m sb (by trivial) hle0
            by_cases q1 : (nb' - 1 == 1) = true
            · rw [if_pos q1]
              exact wpS_pure ⟨⟨s2.kind, s2.arr, s2.pend, s2.fail⟩, .inl ⟨_, rfl, m1.first sa sb (fst (by simpa using q1))⟩⟩
            rw [if_neg q1]
            have q1' : ¬ nb' - 1 = 1 := by simpa using q1
            refine wpS_bind (wpS_elem (at_eq (by trivial)) ?_)
            refine wpS_bind (wpS_gal C (s2.kind.trans hk) (hSa _ (at_mem (by trivial))) hSb (fun i j hij hj => at_ij sb (by trivial) (by trivial)) (fun i hi => by simp only [if_true]; exact hix _ (at_mem (by trivial)) _ (at_mem (by trivial))) (by trivial) (by trivial) fun k' hkn' k1' k2' => ?_)
            dsimp only
            simp only [if_true, Nat.zero_add] at k1' k2'
            have hle2 : ∀ y ∈ b.toList.take k', R O ky ix y (at_ a (na' - 1)) := fun y hy => by
              obtain ⟨j, j1, rfl⟩ := mem_take' (by trivial) hy
              exact R.lt (k1' j j1)
            have mB := m1.addB sb (k := k') (o := out.push (at_ b (nb' - 1)) ++ (b.extract k' (nb' - 1)).reverse) hkn' (fun x hx y hy => by
              obtain ⟨j, j1, j2, rfl⟩ := mem_at' (by trivial) hx
              exact R.trans (at_ge sa (i := na' - 1) (by trivial) y (by rw [show na' - 1 + 1 = na' by trivial]; exact hy)) (k2' j j1 j2)) (by rw [Array.toList_append, Array.toList_reverse, ext2])
            by_cases hk1 : nb' - 1 - k' > 0
            · rw [if_pos hk1]
              by_cases q2 : (k' == 1) = true
              · rw [if_pos q2]
                exact wpS_pure ⟨⟨s2.kind, s2.arr, s2.pend, s2.fail⟩, .inl ⟨_, rfl, mB.first sa sb (fst (by simpa using q2))⟩⟩
              rw [if_neg q2]
              by_cases q5 : (k' == 0) = true
              · rw [if_pos q5]
                exact wpS_pure ⟨⟨s2.kind, s2.arr, s2.pend, s2.fail⟩, .inl ⟨_, rfl, mB.done sa sb (.inr (by simpa using q5))⟩⟩
              rw [if_neg q5]
              have q2' : ¬ k' = 1 := by simpa using q2
              have q5' : ¬ k' = 0 := by simpa using q5
              refine wpS_bind (wpS_elem (at_eq (by trivial)) ?_)
              have m2 := MH.pushA mB sa (by trivial) hle2
              by_cases q3 : (na' - 1 == 0) = true
              · rw [if_pos q3]
                exact wpS_pure ⟨⟨s2.kind, s2.arr, s2.pend, s2.fail⟩, .inl ⟨_, rfl, m2.done sa sb (.inl (by simpa using q3))⟩⟩
              rw [if_neg q3]
              have q3' : ¬ na' - 1 = 0 := by simpa using q3
              by_cases q4 : (decide (na' - k < 7) && decide (nb' - 1 - k' < 7)) = true
              · rw [if_pos q4]
                exact wpS_pure ⟨⟨s2.kind, s2.arr, s2.pend, s2.fail⟩, .inr ⟨rfl, m2, by dsimp only; trivial, by dsimp only; trivial, by dsimp only; trivial⟩⟩
              · rw [if_neg q4]
                exact wpS_pure ⟨⟨s2.kind, s2.arr, s2.pend, s2.fail⟩, rfl, m2, by dsimp only; trivial, by dsimp only; trivial, by dsimp only; trivial⟩
            · rw [if_neg hk1]
              have hle3 : ∀ y ∈ b.toList.take (nb' - 1), R O ky ix y (at_ a (na' - 1)) := by
                have h' := hle2
                rw [show k' = nb' - 1 by trivial] at h'
                exact h'
              refine wpS_bind (wpS_elem (at_eq (by trivial)) ?_)
              have m2 := MH.pushA m1 sa (by trivial) hle3
              by_cases q3 : (na' - 1 == 0) = true
              · rw [if_pos q3]
                exact wpS_pure ⟨⟨s2.kind, s2.arr, s2.pend, s2.fail⟩, .inl ⟨_, rfl, m2.done sa sb (.inl (by simpa using q3))⟩⟩
              rw [if_neg q3]
              have q3' : ¬ na' - 1 = 0 := by simpa using q3
              by_cases q4 : (decide (na' - k < 7) && decide (nb' - 1 - k' < 7)) = true
              · rw [if_pos q4]
                exact wpS_pure ⟨⟨s2.kind, s2.arr, s2.pend, s2.fail⟩, .inr ⟨rfl, m2, by dsimp only; trivial, by dsimp only; trivial, by dsimp only; trivial⟩⟩
              · rw [if_neg q4]
                exact wpS_pure ⟨⟨s2.kind, s2.arr, s2.pend, s2.fail⟩, rfl, m2, by dsimp only; trivial, by dsimp only; trivial, by dsimp only; trivial⟩
end
end TT
set_option linter.all false
namespace TT
open PySem PyProof.Rows TS
structure Chg (lo : Nat) (st st' : SortSt) : Prop where
  kind : kindOf st' = kindOf st
  pend : pendingOf st' = pendingOf st
  fail : failedOf st' = failedOf st
  perm : (arrOf st').Perm (arrOf st)
  low : ∀ i, i < lo → (arrOf st')[i]? = (arrOf st)[i]?
theorem Chg.refl (lo : Nat) (st : SortSt) : Chg lo st st := ⟨rfl, rfl, rfl, Array.Perm.refl _, fun _ _ => rfl⟩
theorem Chg.trans {lo : Nat} {a b c : SortSt} (h : Chg lo a b) (h' : Chg lo b c) : Chg lo a c := ⟨h'.kind.trans h.kind, h'.pend.trans h.pend, h'.fail.trans h.fail, h'.perm.trans h.perm, fun i hi => (h'.low i hi).trans (h.low i hi)⟩
theorem Chg.size {lo : Nat} {a b : SortSt} (h : Chg lo a b) : (arrOf b).size = (arrOf a).size := h.perm.size_eq
theorem Chg.all {lo : Nat} {a b : SortSt} {S : Keyed → Prop} (h : Chg lo a b) (hS : ∀ p ∈ (arrOf a).toList, S p) : ∀ p ∈ (arrOf b).toList, S p := fun p hp => hS p ((Array.perm_iff_toList_perm.mp h.perm).mem_iff.mp hp)
theorem chg_mirror {lo i j : Nat} {st : SortSt} (h : lo ≤ i) (hj : j ≤ (arrOf st).size) : Chg lo st (setArr st (mirror (arrOf st) i j ((j - i) / 2))) := ⟨rfl, rfl, rfl, mirror_perm _ _ _ _, fun k hk => by
  show (mirror (arrOf st) i j ((j - i) / 2))[k]? = _
  rw [getElem?_mirror_all hj, if_neg (by trivial)]⟩
theorem chg_bubble {lo src d : Nat} {st : SortSt} (hs : src < (arrOf st).size) (hd : d ≤ src) (h : lo ≤ src - d) : Chg lo st (setArr st (bubble (arrOf st) src d)) := ⟨rfl, rfl, rfl, bubble_perm _ _ _, fun k hk => by
  show (bubble (arrOf st) src d)[k]? = _
  rw [getElem?_bubble hs d hd, if_neg (by trivial), if_neg (by trivial)]⟩
theorem at_congr {a b : Array Keyed} {i j : Nat} (h : a[i]? = b[j]?) : at_ a i = at_ b j := by unfold at_; rw [h]
theorem at_mirror {xs : Array Keyed} {i j : Nat} (hj : j ≤ xs.size) (k : Nat) : at_ (mirror xs i j ((j - i) / 2)) k = if i ≤ k ∧ k < j then at_ xs (i + j - 1 - k) else at_ xs k := by
  have e := getElem?_mirror_all (i := i) hj k
  split at e
  · rename_i c; rw [if_pos c]; exact at_congr e
  · rename_i c; rw [if_neg c]; exact at_congr e
theorem at_bubble {xs : Array Keyed} {src d : Nat} (hs : src < xs.size) (hd : d ≤ src) (k : Nat) : at_ (bubble xs src d) k = if k = src - d then at_ xs src else if src - d < k ∧ k ≤ src then at_ xs (k - 1) else at_ xs k := by
  have e := getElem?_bubble hs d hd k
  split at e
  · rename_i c; rw [if_pos c]; exact at_congr e
  · rename_i c
    rw [if_neg c]
    split at e
    · rename_i c2; rw [if_pos c2]; exact at_congr e
    · rename_i c2; rw [if_neg c2]; exact at_congr e
section
variable {prog : Program} {w : World} {A : Around} {E : Value → Shared → Prop} {s : Shared}
variable {kd : SortKind} {O : KeyOrd} {ky : Keyed → O.α} {ix : Keyed → Nat} {S : Keyed → Prop}
noncomputable abbrev kf (ky : Keyed → O.α) (st : SortSt) (lo i : Nat) : O.α := ky (at_ (arrOf st) (lo + i))
noncomputable def Up (O : KeyOrd) (ky : Keyed → O.α) (ix : Keyed → Nat) (st : SortSt) (lo n : Nat) : Prop := ∀ i j, i ≤ j → j < n → R O ky ix (at_ (arrOf st) (lo + i)) (at_ (arrOf st) (lo + j))
noncomputable def Dn (O : KeyOrd) (ky : Keyed → O.α) (ix : Keyed → Nat) (st : SortSt) (lo n : Nat) : Prop := ∀ i j, i ≤ j → j < n → R O ky ix (at_ (arrOf st) (lo + j)) (at_ (arrOf st) (lo + i))
structure Lap (ix : Keyed → Nat) (st : SortSt) (lo n m : Nat) : Prop where
  cross : ∀ i j, i < n → n ≤ j → j < m → ix (at_ (arrOf st) (lo + i)) ≤ ix (at_ (arrOf st) (lo + j))
  rise : ∀ i j, n ≤ i → i ≤ j → j < m → ix (at_ (arrOf st) (lo + i)) ≤ ix (at_ (arrOf st) (lo + j))
theorem Lap.on {st : SortSt} {lo n m k : Nat} (h : Lap ix st lo n m) (hk : n ≤ k) : Lap ix st lo k m := ⟨fun i j h1 h2 h3 => by
  by_cases c : i < n
  · exact h.cross i j c (by trivial) h3
  · exact h.rise i j (by trivial) (by trivial) h3, fun i j h1 h2 h3 => h.rise i j (by trivial) h2 h3⟩
theorem Lap.any {st : SortSt} {lo n m i j : Nat} (h : Lap ix st lo n m) (h1 : i ≤ j) (h2 : n ≤ j) (h3 : j < m) : ix (at_ (arrOf st) (lo + i)) ≤ ix (at_ (arrOf st) (lo + j)) := by
  by_cases c : i < n
  · exact h.cross i j c h2 h3
  · exact h.rise i j (by trivial) h1 h3
theorem Lap.of {st st' : SortSt} {lo n m : Nat} (h : Lap ix st lo n m) (h1 : ∀ i, i < n → ∃ k, k < n ∧ at_ (arrOf st') (lo + i) = at_ (arrOf st) (lo + k)) (h2 : ∀ i, n ≤ i → at_ (arrOf st') (lo + i) = at_ (arrOf st) (lo + i)) : Lap ix st' lo n m := ⟨fun i j a b c => by
  obtain ⟨k, k1, e⟩ := h1 i a
  rw [e, h2 j b]
  exact h.cross k j k1 b c, fun i j a b c => by
  rw [h2 i a, h2 j (by trivial)]
  exact h.rise i j a b c⟩
theorem Lap.mirror {st : SortSt} {lo n m i j : Nat} (h : Lap ix st lo n m) (hj : lo + j ≤ (arrOf st).size) (hn : j ≤ n) : Lap ix (setArr st (mirror (arrOf st) (lo + i) (lo + j) ((lo + j - (lo + i)) / 2))) lo n m := by
  refine h.of (fun k hk => ?_) (fun k hk => ?_)
  · show ∃ k', k' < n ∧ at_ (PyProof.Rows.mirror (arrOf st) (lo + i) (lo + j) ((lo + j - (lo + i)) / 2)) (lo + k) = _
    rw [at_mirror hj]
    by_cases c : lo + i ≤ lo + k ∧ lo + k < lo + j
    · rw [if_pos c]
      exact ⟨i + j - 1 - k, by trivial, by congr 1; trivial⟩
    · rw [if_neg c]; exact ⟨k, hk, rfl⟩
  · show at_ (PyProof.Rows.mirror (arrOf st) (lo + i) (lo + j) ((lo + j - (lo + i)) / 2)) (lo + k) = _
    rw [at_mirror hj, if_neg (by trivial)]
theorem wpS_ltAt' (C : Cmp prog w A s kd O ky S) {st : SortSt} {i j : Nat} {Q : Option Bool → SortSt → Prop} (hk : kindOf st = kd) (hS : ∀ p ∈ (arrOf st).toList, S p) (hi : i < (arrOf st).size) (hj : j < (arrOf st).size)
    (h : Q (some (O.blt (ky (at_ (arrOf st) i)) (ky (at_ (arrOf st) j)))) st) : wpS (model prog w) A E s (ltAt' i j) Q st := by
  rw [ltAt'_eq]
  refine wpS_bind (wpS_get ?_)
  exact wpS_bind (wpS_elem (at_eq hi) (wpS_bind (wpS_elem (at_eq hj) (wpS_lt C hk (hS _ (at_mem hi)) (hS _ (at_mem hj)) h))))
theorem asc_loop {st : SortSt} {lo a nrem : Nat} {Q : Option (Option Nat) × Nat → SortSt → Prop} {f : Nat → Option (Option Nat) × Nat → StateT SortSt Sem (ForInStep (Option (Option Nat) × Nat))} (h1 : 1 ≤ a) (h2 : a ≤ nrem) (hu : Up O ky ix st lo a) (hl : Lap ix st lo a nrem)
    (hf : ∀ (x n : Nat), 1 ≤ n → n < nrem → ∀ {R : ForInStep (Option (Option Nat) × Nat) → SortSt → Prop}, (O.klt (kf ky st lo n) (kf ky st lo (n - 1)) → R (.done (none, n)) st) → (O.kle (kf ky st lo (n - 1)) (kf ky st lo n) → R (.yield (none, n + 1)) st) → wpS (model prog w) A E s (f x (none, n)) R st)
    (h : ∀ n, a ≤ n → n ≤ nrem → Up O ky ix st lo n → (n = nrem ∨ O.klt (kf ky st lo n) (kf ky st lo (n - 1))) → Q (none, n) st) : wpS (model prog w) A E s (forIn [a:nrem] (none, a) f) Q st := by
  refine wpS_forRange (I := fun x c st' => st' = st ∧ c = (none, x) ∧ Up O ky ix st lo x) ?step ?fin ⟨rfl, rfl, hu⟩
  case fin =>
    rintro c st' ⟨rfl, rfl, hs'⟩
    rw [show max a nrem = nrem by trivial] at hs' ⊢
    exact h nrem h2 (Nat.le_refl _) hs' (.inl rfl)
  case step =>
    rintro x c st' hax hxn ⟨rfl, rfl, hs'⟩
    refine hf x x (by trivial) hxn (fun q => h x hax (by trivial) hs' (.inr q)) (fun q => ⟨rfl, rfl, fun i j hij hj => ?_⟩)
    by_cases e : j = x
    · by_cases e2 : i = x
      · rw [e, e2]; exact R.refl _
      · rw [e]; exact R.trans (hs' i (x - 1) (by trivial) (by trivial)) (R.le q (hl.any (by trivial) hax hxn))
    · exact hs' i j hij (by trivial)
theorem kf_mirror {st : SortSt} {lo i j k : Nat} (hj : lo + j ≤ (arrOf st).size) : kf ky (setArr st (mirror (arrOf st) (lo + i) (lo + j) ((lo + j - (lo + i)) / 2))) lo k = if i ≤ k ∧ k < j then kf ky st lo (i + j - 1 - k) else kf ky st lo k := by
  show ky (at_ (mirror (arrOf st) (lo + i) (lo + j) ((lo + j - (lo + i)) / 2)) (lo + k)) = _
  rw [at_mirror hj]
  by_cases c : i ≤ k ∧ k < j
  · rw [if_pos c, if_pos (by trivial)]
    show ky (at_ _ _) = ky (at_ _ _)
    congr 2; trivial
  · rw [if_neg c, if_neg (by trivial)]
theorem kf_mirror_eq {st : SortSt} {lo i j : Nat} (hj : lo + j ≤ (arrOf st).size) (he : ∀ k, i ≤ k → k < j → kf ky st lo k = kf ky st lo (j - 1)) (k : Nat) : kf ky (setArr st (mirror (arrOf st) (lo + i) (lo + j) ((lo + j - (lo + i)) / 2))) lo k = kf ky st lo k := by
  rw [kf_mirror hj]
  split
  · rw [he _ (by trivial) (by trivial), he k (by trivial) (by trivial)]
  · rfl
theorem wpS_rev {st : SortSt} {i j : Nat} {Q : Unit → SortSt → Prop} (h : Q () (setArr st (mirror (arrOf st) i j ((j - i) / 2)))) : wpS (model prog w) A E s (reverseSlice' i j) Q st := by
  rw [reverseSlice'_eq]
  exact wpS_modify h
structure Des (O : KeyOrd) (ky : Keyed → O.α) (ix : Keyed → Nat) (st : SortSt) (lo x neq m : Nat) : Prop where
  le : neq + 1 ≤ x
  dn : Dn O ky ix st lo (x - (neq + 1))
  lt : ∀ i j, i < x - (neq + 1) → x - (neq + 1) ≤ j → j < x → O.klt (kf ky st lo j) (kf ky st lo i)
  eq : ∀ i, x - (neq + 1) ≤ i → i < x → kf ky st lo i = kf ky st lo (x - 1)
  lap : Lap ix st lo (x - (neq + 1)) m
theorem Des.one {st : SortSt} {lo x m : Nat} (hd : Dn O ky ix st lo x) (hx : 1 ≤ x) (hlt : O.klt (kf ky st lo x) (kf ky st lo (x - 1))) (hl : Lap ix st lo x m) : Des O ky ix st lo (x + 1) 0 m := by
  refine ⟨by trivial, by rw [show x + 1 - (0 + 1) = x by trivial]; exact hd, fun i j h1 h2 h3 => ?_, fun i h1 h2 => by congr 1; trivial, by rw [show x + 1 - (0 + 1) = x by trivial]; exact hl⟩
  obtain rfl : j = x := by trivial
  exact KeyOrd.klt_of_klt_of_kle hlt (hd i (j - 1) (by trivial) (by trivial)).1
theorem Des.done {st : SortSt} {lo x m : Nat} (h : Des O ky ix st lo x 0 m) : Dn O ky ix st lo x ∧ Lap ix st lo x m := by
  have h1 := h.le
  refine ⟨fun i j hij hj => ?_, h.lap.on (by trivial)⟩
  by_cases c : j < x - (0 + 1)
  · exact h.dn i j hij c
  · by_cases c2 : i = j
    · rw [c2]; exact R.refl _
    · exact R.lt (h.lt i j (by trivial) (by trivial) hj)
theorem Des.turn {st : SortSt} {lo x neq m : Nat} (h : Des O ky ix st lo x neq m) (hx : lo + x ≤ (arrOf st).size) (hm : x ≤ m) :
    Dn O ky ix (setArr st (mirror (arrOf st) (lo + (x - (neq + 1))) (lo + x) ((lo + x - (lo + (x - (neq + 1)))) / 2))) lo x ∧ Lap ix (setArr st (mirror (arrOf st) (lo + (x - (neq + 1))) (lo + x) ((lo + x - (lo + (x - (neq + 1)))) / 2))) lo x m := by
  have h1 := h.le
  refine ⟨fun i j hij hj => ?_, (h.lap.on (by trivial)).mirror hx (Nat.le_refl _)⟩
  show R O ky ix (at_ (mirror (arrOf st) (lo + (x - (neq + 1))) (lo + x) ((lo + x - (lo + (x - (neq + 1)))) / 2)) (lo + j)) (at_ (mirror (arrOf st) (lo + (x - (neq + 1))) (lo + x) ((lo + x - (lo + (x - (neq + 1)))) / 2)) (lo + i))
  rw [at_mirror hx, at_mirror hx]
  by_cases cj : j < x - (neq + 1)
  · rw [if_neg (by trivial), if_neg (by trivial)]
    exact h.dn i j hij cj
  · rw [if_pos (by trivial)]
    rw [show lo + (x - (neq + 1)) + (lo + x) - 1 - (lo + j) = lo + (x - (neq + 1) + x - 1 - j) by trivial]
    by_cases ci : i < x - (neq + 1)
    · rw [if_neg (by trivial)]
      exact R.lt (h.lt i (x - (neq + 1) + x - 1 - j) ci (by trivial) (by trivial))
    · rw [if_pos (by trivial)]
      rw [show lo + (x - (neq + 1)) + (lo + x) - 1 - (lo + i) = lo + (x - (neq + 1) + x - 1 - i) by trivial]
      have e1 := h.eq (x - (neq + 1) + x - 1 - j) (by trivial) (by trivial)
      have e2 := h.eq (x - (neq + 1) + x - 1 - i) (by trivial) (by trivial)
      refine R.le ?_ (h.lap.rise _ _ (by trivial) (by trivial) (by trivial))
      rw [show ky (at_ (arrOf st) (lo + (x - (neq + 1) + x - 1 - j))) = ky (at_ (arrOf st) (lo + (x - (neq + 1) + x - 1 - i))) from e1.trans e2.symm]
      exact KeyOrd.kle_refl _
theorem Des.more {st : SortSt} {lo x neq m : Nat} (h : Des O ky ix st lo x neq m) (he : kf ky st lo x = kf ky st lo (x - 1)) : Des O ky ix st lo (x + 1) (neq + 1) m := by
  have h1 := h.le
  have eb : x + 1 - (neq + 1 + 1) = x - (neq + 1) := by trivial
  refine ⟨by trivial, by rw [eb]; exact h.dn, fun i j a b c => ?_, fun i a b => ?_, by rw [eb]; exact h.lap⟩
  · rw [eb] at a b
    by_cases e : j = x
    · rw [e, he]; exact h.lt i (x - 1) a (by trivial) (by trivial)
    · exact h.lt i j a b (by trivial)
  · rw [eb] at a
    rw [show x + 1 - 1 = x by trivial]
    by_cases e : i = x
    · rw [e]
    · rw [he]; exact h.eq i a (by trivial)
theorem Dn.up {st : SortSt} {lo m : Nat} (h : Dn O ky ix st lo m) (hs : lo + m ≤ (arrOf st).size) : Up O ky ix (setArr st (mirror (arrOf st) (lo + 0) (lo + m) ((lo + m - (lo + 0)) / 2))) lo m := fun i j hij hj => by
  show R O ky ix (at_ (mirror (arrOf st) (lo + 0) (lo + m) ((lo + m - (lo + 0)) / 2)) (lo + i)) (at_ (mirror (arrOf st) (lo + 0) (lo + m) ((lo + m - (lo + 0)) / 2)) (lo + j))
  rw [at_mirror hs, at_mirror hs, if_pos (by trivial), if_pos (by trivial), show lo + 0 + (lo + m) - 1 - (lo + i) = lo + (m - 1 - i) by trivial, show lo + 0 + (lo + m) - 1 - (lo + j) = lo + (m - 1 - j) by trivial]
  exact h _ _ (by trivial) (by trivial)
theorem wpS_run (C : Cmp prog w A s kd O ky S) {st0 : SortSt} {lo nrem : Nat} {Q : Option Nat → SortSt → Prop} (hk0 : kindOf st0 = kd) (hS0 : ∀ p ∈ (arrOf st0).toList, S p) (hn : lo + nrem ≤ (arrOf st0).size) (h1 : 1 ≤ nrem) (lap0 : Lap ix st0 lo 0 nrem)
    (h : ∀ n st', Chg lo st0 st' → 1 ≤ n → n ≤ nrem → Up O ky ix st' lo n → Lap ix st' lo n nrem → Q (some n) st') : wpS (model prog w) A E s (countRun' lo nrem) Q st0 := by
  have ask : ∀ {st : SortSt}, Chg lo st0 st → ∀ (i j : Nat) {Q : Option Bool → SortSt → Prop}, i < lo + nrem → j < lo + nrem → Q (some (O.blt (ky (at_ (arrOf st) i)) (ky (at_ (arrOf st) j)))) st → wpS (model prog w) A E s (ltAt' i j) Q st := fun {st} ch i j Q hi hj hq =>
    wpS_ltAt' C (ch.kind.trans hk0) (ch.all hS0) (by rw [ch.size]; trivial) (by rw [ch.size]; trivial) hq
  unfold countRun'
  refine wpS_bind (asc_loop (O := O) (ky := ky) (ix := ix) (lo := lo) (Nat.le_refl 1) h1 (fun i j hij hj => by rw [show i = j by trivial]; exact R.refl _) (lap0.on (by trivial)) ?hf ?hq)
  case hf =>
    intro x n n1 n2 R r1 r2
    refine wpS_bind (ask (Chg.refl _ _) _ _ (by trivial) (by trivial) ?_)
    dsimp only
    rw [show lo + n - 1 = lo + (n - 1) by trivial]
    cases e : O.blt (ky (at_ (arrOf st0) (lo + n))) (ky (at_ (arrOf st0) (lo + (n - 1)))) with
    | true => exact wpS_pure (r1 e)
    | false => exact wpS_pure (r2 e)
  case hq =>
  intro n n1 n2 hup hor
  dsimp only
  by_cases e1 : (n == nrem) = true
  · rw [if_pos e1]
    exact wpS_pure (h n _ (Chg.refl _ _) n1 n2 hup (lap0.on (by trivial)))
  rw [if_neg e1]
  have e1' : ¬ n = nrem := by simpa using e1
  have hlt := hor.resolve_left e1'
  by_cases hgt : n > 1
  · rw [if_pos hgt]
    refine wpS_bind (ask (Chg.refl _ _) _ _ (by trivial) (by trivial) ?_)
    dsimp only
    rw [show lo + n - 1 = lo + (n - 1) by trivial]
    cases e : O.blt (ky (at_ (arrOf st0) lo)) (ky (at_ (arrOf st0) (lo + (n - 1)))) with
    | true =>
      rw [if_pos rfl]
      exact wpS_pure (h n _ (Chg.refl _ _) n1 n2 hup (lap0.on (by trivial)))
    | false =>
      rw [if_neg Bool.false_ne_true]
      have hsz0 : lo + n ≤ (arrOf st0).size := by trivial
      have e' : O.kle (kf ky st0 lo (n - 1)) (kf ky st0 lo 0) := e
      have hall : ∀ k, 0 ≤ k → k < n → kf ky st0 lo k = kf ky st0 lo (n - 1) := fun k _ hk => by
        have a1 := (hup 0 k (by trivial) hk).1
        have a2 := (hup k (n - 1) (by trivial) (by trivial)).1
        exact KeyOrd.kle_antisymm a2 (KeyOrd.kle_trans e' a1)
      refine wpS_bind (wpS_rev ?_)
      have ch1 := chg_mirror (lo := lo) (i := lo + 0) (j := lo + n) (st := st0) (by trivial) hsz0
      have dd : Des O ky ix st0 lo n (n - 1) nrem := by
        have en : n - (n - 1 + 1) = 0 := by trivial
        refine ⟨by trivial, by rw [en]; exact fun i j a b => by trivial, by rw [en]; exact fun i j a => by trivial, fun i a b => hall i (by trivial) b, by rw [en]; exact lap0⟩
      have d1 := dd.turn hsz0 n2
      rw [show n - (n - 1 + 1) = 0 by trivial] at d1
      have hlt1 : O.klt (kf ky (setArr st0 (mirror (arrOf st0) (lo + 0) (lo + n) ((lo + n - (lo + 0)) / 2))) lo n) (kf ky (setArr st0 (mirror (arrOf st0) (lo + 0) (lo + n) ((lo + n - (lo + 0)) / 2))) lo (n - 1)) := by
        rw [kf_mirror_eq hsz0 hall, kf_mirror_eq hsz0 hall]; exact hlt
      rw [show mirror (arrOf st0) lo (lo + n) ((lo + n - lo) / 2) = mirror (arrOf st0) (lo + 0) (lo + n) ((lo + n - (lo + 0)) / 2) from rfl]
      generalize setArr st0 (mirror (arrOf st0) (lo + 0) (lo + n) ((lo + n - (lo + 0)) / 2)) = st1 at ch1 d1 hlt1 ⊢
      have des1 := Des.one d1.1 n1 hlt1 d1.2
      refine wpS_bind (wpS_lift (wpAny_rule ⟨rfl, ?_⟩))
      refine wpS_bind (wpS_mono (wpS_forRange
        (I := fun x c st' => ∃ neq, c = (none, x, neq) ∧ Chg lo st0 st' ∧ Des O ky ix st' lo x neq nrem)
        (Q := fun c st' => ∃ m neq, c = (none, m, neq) ∧ n + 1 ≤ m ∧ m ≤ nrem ∧ Chg lo st0 st' ∧ Des O ky ix st' lo m neq nrem) ?step ?fin ⟨0, rfl, ch1, des1⟩) ?post)
      case fin =>
        rintro c st' ⟨neq, rfl, ch, d⟩
        rw [show max (n + 1) nrem = nrem by trivial] at d ⊢
        exact ⟨nrem, neq, rfl, by trivial, Nat.le_refl _, ch, d⟩
      case step =>
        rintro x c st' hx1 hx2 ⟨neq, rfl, ch, d⟩
        dsimp only
        have q1 := d.le
        have hsz : lo + x ≤ (arrOf st').size := by rw [ch.size]; trivial
        refine wpS_bind (ask ch _ _ (by trivial) (by trivial) ?_)
        dsimp only
        rw [show lo + x - 1 = lo + (x - 1) by trivial]
        cases e : O.blt (ky (at_ (arrOf st') (lo + x))) (ky (at_ (arrOf st') (lo + (x - 1)))) with
        | true =>
          rw [if_pos rfl]
          by_cases hne : neq > 0
          · rw [if_pos hne]
            rw [show lo + x - (neq + 1) = lo + (x - (neq + 1)) by trivial]
            have t := d.turn hsz (by trivial)
            have lt2 : O.klt (kf ky (setArr st' (mirror (arrOf st') (lo + (x - (neq + 1))) (lo + x) ((lo + x - (lo + (x - (neq + 1)))) / 2))) lo x) (kf ky (setArr st' (mirror (arrOf st') (lo + (x - (neq + 1))) (lo + x) ((lo + x - (lo + (x - (neq + 1)))) / 2))) lo (x - 1)) := by
              rw [kf_mirror_eq hsz d.eq, kf_mirror_eq hsz d.eq]; exact e
            refine wpS_bind (wpS_rev (wpS_pure ⟨0, rfl, ch.trans (chg_mirror (by trivial) hsz), Des.one t.1 (by trivial) lt2 t.2⟩))
          · rw [if_neg hne]
            obtain rfl : neq = 0 := by trivial
            exact wpS_pure ⟨0, rfl, ch, Des.one d.done.1 (by trivial) e d.done.2⟩
        | false =>
          rw [if_neg Bool.false_ne_true]
          refine wpS_bind (ask ch _ _ (by trivial) (by trivial) ?_)
          dsimp only
          cases e2 : O.blt (ky (at_ (arrOf st') (lo + (x - 1)))) (ky (at_ (arrOf st') (lo + x))) with
          | true =>
            rw [if_pos rfl]
            exact wpS_pure ⟨x, neq, rfl, by trivial, by trivial, ch, d⟩
          | false =>
            rw [if_neg Bool.false_ne_true]
            have heq : kf ky st' lo x = kf ky st' lo (x - 1) := KeyOrd.kle_antisymm e2 e
            exact wpS_pure ⟨neq + 1, rfl, ch, d.more heq⟩
      case post =>
        rintro c st' ⟨m, neq, rfl, m1, m2, ch, d⟩
        dsimp only
        have q1 := d.le
        have hsz : lo + m ≤ (arrOf st').size := by rw [ch.size]; trivial
        by_cases hne : neq > 0
        · rw [if_pos hne]
          rw [show lo + m - (neq + 1) = lo + (m - (neq + 1)) by trivial]
          refine wpS_bind (wpS_rev ?_)
          have ch2 := ch.trans (chg_mirror (lo := lo) (i := lo + (m - (neq + 1))) (j := lo + m) (st := st') (by trivial) hsz)
          have d2 := d.turn hsz m2
          generalize setArr st' (mirror (arrOf st') (lo + (m - (neq + 1))) (lo + m) ((lo + m - (lo + (m - (neq + 1)))) / 2)) = st4 at ch2 d2 ⊢
          refine wpS_bind (wpS_rev ?_)
          have hsz3 : lo + m ≤ (arrOf st4).size := by rw [(ch2).size]; trivial
          have ch3 := (ch2).trans (chg_mirror (lo := lo) (i := lo + 0) (j := lo + m) (st := st4) (by trivial) hsz3)
          have up3 := d2.1.up hsz3
          have lap3 := d2.2.mirror (i := 0) hsz3 (Nat.le_refl _)
          refine wpS_bind (asc_loop (O := O) (ky := ky) (ix := ix) (lo := lo) (by trivial) (by trivial) up3 lap3 ?_ (fun n3 a1 a2 a3 _ => wpS_pure (h n3 _ ch3 (by trivial) a2 a3 (lap3.on a1))))
          intro x n' b1 b2 R r1 r2
          refine wpS_bind (ask ch3 _ _ (by trivial) (by trivial) ?_)
          dsimp only
          rw [show lo + n' - 1 = lo + (n' - 1) by trivial]
          cases e : O.blt (ky (at_ (mirror (arrOf st4) (lo + 0) (lo + m) ((lo + m - (lo + 0)) / 2)) (lo + n'))) (ky (at_ (mirror (arrOf st4) (lo + 0) (lo + m) ((lo + m - (lo + 0)) / 2)) (lo + (n' - 1)))) with
          | true => exact wpS_pure (r1 e)
          | false => exact wpS_pure (r2 e)
        · rw [if_neg hne]
          obtain rfl : neq = 0 := by trivial
          have ch2 := ch
          have d2 := d.done
          generalize st' = st4 at ch2 d2 ⊢
          refine wpS_bind (wpS_rev ?_)
          have hsz3 : lo + m ≤ (arrOf st4).size := by rw [(ch2).size]; trivial
          have ch3 := (ch2).trans (chg_mirror (lo := lo) (i := lo + 0) (j := lo + m) (st := st4) (by trivial) hsz3)
          have up3 := d2.1.up hsz3
          have lap3 := d2.2.mirror (i := 0) hsz3 (Nat.le_refl _)
          refine wpS_bind (asc_loop (O := O) (ky := ky) (ix := ix) (lo := lo) (by trivial) (by trivial) up3 lap3 ?_ (fun n3 a1 a2 a3 _ => wpS_pure (h n3 _ ch3 (by trivial) a2 a3 (lap3.on a1))))
          intro x n' b1 b2 R r1 r2
          refine wpS_bind (ask ch3 _ _ (by trivial) (by trivial) ?_)
          dsimp only
          rw [show lo + n' - 1 = lo + (n' - 1) by trivial]
          cases e : O.blt (ky (at_ (mirror (arrOf st4) (lo + 0) (lo + m) ((lo + m - (lo + 0)) / 2)) (lo + n'))) (ky (at_ (mirror (arrOf st4) (lo + 0) (lo + m) ((lo + m - (lo + 0)) / 2)) (lo + (n' - 1)))) with
          | true => exact wpS_pure (r1 e)
          | false => exact wpS_pure (r2 e)
  · rw [if_neg hgt]
    have ch1 := Chg.refl lo st0
    have des1 : Des O ky ix st0 lo (n + 1) 0 nrem := Des.one (fun i j a b => by rw [show i = j by trivial]; exact R.refl _) n1 hlt (lap0.on (by trivial))
    refine wpS_bind (wpS_lift (wpAny_rule ⟨rfl, ?_⟩))
    refine wpS_bind (wpS_mono (wpS_forRange
      (I := fun x c st' => ∃ neq, c = (none, x, neq) ∧ Chg lo st0 st' ∧ Des O ky ix st' lo x neq nrem)
      (Q := fun c st' => ∃ m neq, c = (none, m, neq) ∧ n + 1 ≤ m ∧ m ≤ nrem ∧ Chg lo st0 st' ∧ Des O ky ix st' lo m neq nrem) ?step ?fin ⟨0, rfl, ch1, des1⟩) ?post)
    case fin =>
      rintro c st' ⟨neq, rfl, ch, d⟩
      rw [show max (n + 1) nrem = nrem by trivial] at d ⊢
      exact ⟨nrem, neq, rfl, by trivial, Nat.le_refl _, ch, d⟩
    case step =>
      rintro x c st' hx1 hx2 ⟨neq, rfl, ch, d⟩
      dsimp only
      have q1 := d.le
      have hsz : lo + x ≤ (arrOf st').size := by rw [ch.size]; trivial
      refine wpS_bind (ask ch _ _ (by trivial) (by trivial) ?_)
      dsimp only
      rw [show lo + x - 1 = lo + (x - 1) by trivial]
      cases e : O.blt (ky (at_ (arrOf st') (lo + x))) (ky (at_ (arrOf st') (lo + (x - 1)))) with
      | true =>
        rw [if_pos rfl]
        by_cases hne : neq > 0
        · rw [if_pos hne]
          rw [show lo + x - (neq + 1) = lo + (x - (neq + 1)) by trivial]
          have t := d.turn hsz (by trivial)
          have lt2 : O.klt (kf ky (setArr st' (mirror (arrOf st') (lo + (x - (neq + 1))) (lo + x) ((lo + x - (lo + (x - (neq + 1)))) / 2))) lo x) (kf ky (setArr st' (mirror (arrOf st') (lo + (x - (neq + 1))) (lo + x) ((lo + x - (lo + (x - (neq + 1)))) / 2))) lo (x - 1)) := by
            rw [kf_mirror_eq hsz d.eq, kf_mirror_eq hsz d.eq]; exact e
          refine wpS_bind (wpS_rev (wpS_pure ⟨0, rfl, ch.trans (chg_mirror (by trivial) hsz), Des.one t.1 (by trivial) lt2 t.2⟩))
        · rw [if_neg hne]
          obtain rfl : neq = 0 := by trivial
          exact wpS_pure ⟨0, rfl, ch, Des.one d.done.1 (by trivial) e d.done.2⟩
      | false =>
        rw [if_neg Bool.false_ne_true]
        refine wpS_bind (ask ch _ _ (by trivial) (by trivial) ?_)
        dsimp only
        cases e2 : O.blt (ky (at_ (arrOf st') (lo + (x - 1)))) (ky (at_ (arrOf st') (lo + x))) with
        | true =>
          rw [if_pos rfl]
          exact wpS_pure ⟨x, neq, rfl, by trivial, by trivial, ch, d⟩
        | false =>
          rw [if_neg Bool.false_ne_true]
          have heq : kf ky st' lo x = kf ky st' lo (x - 1) := KeyOrd.kle_antisymm e2 e
          exact wpS_pure ⟨neq + 1, rfl, ch, d.more heq⟩
    case post =>
      rintro c st' ⟨m, neq, rfl, m1, m2, ch, d⟩
      dsimp only
      have q1 := d.le
      have hsz : lo + m ≤ (arrOf st').size := by rw [ch.size]; trivial
      by_cases hne : neq > 0
      · rw [if_pos hne]
        rw [show lo + m - (neq + 1) = lo + (m - (neq + 1)) by trivial]
        refine wpS_bind (wpS_rev ?_)
        have ch2 := ch.trans (chg_mirror (lo := lo) (i := lo + (m - (neq + 1))) (j := lo + m) (st := st') (by trivial) hsz)
        have d2 := d.turn hsz m2
        generalize setArr st' (mirror (arrOf st') (lo + (m - (neq + 1))) (lo + m) ((lo + m - (lo + (m - (neq + 1)))) / 2)) = st4 at ch2 d2 ⊢
        refine wpS_bind (wpS_rev ?_)
        have hsz3 : lo + m ≤ (arrOf st4).size := by rw [(ch2).size]; trivial
        have ch3 := (ch2).trans (chg_mirror (lo := lo) (i := lo + 0) (j := lo + m) (st := st4) (by trivial) hsz3)
        have up3 := d2.1.up hsz3
        have lap3 := d2.2.mirror (i := 0) hsz3 (Nat.le_refl _)
        refine wpS_bind (asc_loop (O := O) (ky := ky) (ix := ix) (lo := lo) (by trivial) (by trivial) up3 lap3 ?_ (fun n3 a1 a2 a3 _ => wpS_pure (h n3 _ ch3 (by trivial) a2 a3 (lap3.on a1))))
        intro x n' b1 b2 R r1 r2
        refine wpS_bind (ask ch3 _ _ (by trivial) (by trivial) ?_)
        dsimp only
        rw [show lo + n' - 1 = lo + (n' - 1) by trivial]
        cases e : O.blt (ky (at_ (mirror (arrOf st4) (lo + 0) (lo + m) ((lo + m - (lo + 0)) / 2)) (lo + n'))) (ky (at_ (mirror (arrOf st4) (lo + 0) (lo + m) ((lo + m - (lo + 0)) / 2)) (lo + (n' - 1)))) with
        | true => exact wpS_pure (r1 e)
        | false => exact wpS_pure (r2 e)
      · rw [if_neg hne]
        obtain rfl : neq = 0 := by trivial
        have ch2 := ch
        have d2 := d.done
        generalize st' = st4 at ch2 d2 ⊢
        refine wpS_bind (wpS_rev ?_)
        have hsz3 : lo + m ≤ (arrOf st4).size := by rw [(ch2).size]; trivial
        have ch3 := (ch2).trans (chg_mirror (lo := lo) (i := lo + 0) (j := lo + m) (st := st4) (by trivial) hsz3)
        have up3 := d2.1.up hsz3
        have lap3 := d2.2.mirror (i := 0) hsz3 (Nat.le_refl _)
        refine wpS_bind (asc_loop (O := O) (ky := ky) (ix := ix) (lo := lo) (by trivial) (by trivial) up3 lap3 ?_ (fun n3 a1 a2 a3 _ => wpS_pure (h n3 _ ch3 (by trivial) a2 a3 (lap3.on a1))))
        intro x n' b1 b2 R r1 r2
        refine wpS_bind (ask ch3 _ _ (by trivial) (by trivial) ?_)
        dsimp only
        rw [show lo + n' - 1 = lo + (n' - 1) by trivial]
        cases e : O.blt (ky (at_ (mirror (arrOf st4) (lo + 0) (lo + m) ((lo + m - (lo + 0)) / 2)) (lo + n'))) (ky (at_ (mirror (arrOf st4) (lo + 0) (lo + m) ((lo + m - (lo + 0)) / 2)) (lo + (n' - 1)))) with
        | true => exact wpS_pure (r1 e)
        | false => exact wpS_pure (r2 e)
theorem wpS_bin (C : Cmp prog w A s kd O ky S) {st0 : SortSt} {lo n ok : Nat} {Q : Bool → SortSt → Prop} (hk0 : kindOf st0 = kd) (hS0 : ∀ p ∈ (arrOf st0).toList, S p) (hn : lo + n ≤ (arrOf st0).size) (hok : ok ≤ n) (hu : Up O ky ix st0 lo ok) {nrem : Nat} (hnr : n ≤ nrem) (lap0 : Lap ix st0 lo ok nrem)
    (h : ∀ st', Chg lo st0 st' → Up O ky ix st' lo n → Lap ix st' lo n nrem → Q true st') : wpS (model prog w) A E s (binarySort' lo n ok) Q st0 := by
  unfold binarySort'
  refine wpS_bind (wpS_mono (wpS_forRange (I := fun k c st' => c = (none, ()) ∧ Chg lo st0 st' ∧ Up O ky ix st' lo (min k n) ∧ Lap ix st' lo (min k n) nrem) (Q := fun c st' => c = (none, ()) ∧ Chg lo st0 st' ∧ Up O ky ix st' lo n ∧ Lap ix st' lo n nrem) ?step ?fin ?init) ?post)
  case post =>
    rintro c st' ⟨rfl, ch, u, lp⟩
    exact wpS_pure (h st' ch u lp)
  case init =>
    refine ⟨rfl, Chg.refl _ _, fun i j hij hj => ?_, lap0.on (by trivial)⟩
    by_cases z : i = j
    · rw [z]; exact R.refl _
    · exact hu i j hij (by trivial)
  case fin =>
    rintro c st' ⟨hc, ch, u, lp⟩
    rw [show min (max (max ok 1) n) n = n by trivial] at u lp
    exact ⟨hc, ch, u, lp⟩
  case step =>
    rintro k c st' hk1 hk2 ⟨rfl, ch, u, lp⟩
    rw [show min k n = k by trivial] at u lp
    have hsz := ch.size
    dsimp only
    refine wpS_bind (wpS_mono (wpS_forRange (I := fun x c st2 => st2 = st' ∧ ∃ l r, c = (none, l, r) ∧ l ≤ r ∧ r ≤ k ∧ r - l ≤ k - x ∧ (∀ i, i < l → R O ky ix (at_ (arrOf st') (lo + i)) (at_ (arrOf st') (lo + k))) ∧ (∀ i, r ≤ i → i < k → O.klt (kf ky st' lo k) (kf ky st' lo i)))
      (Q := fun c st2 => st2 = st' ∧ ∃ l r, c = (none, l, r) ∧ l ≤ k ∧ (∀ i, i < l → R O ky ix (at_ (arrOf st') (lo + i)) (at_ (arrOf st') (lo + k))) ∧ (∀ i, l ≤ i → i < k → O.klt (kf ky st' lo k) (kf ky st' lo i))) ?s2 ?f2 ⟨rfl, 0, k, rfl, by trivial, by trivial, by trivial, fun i hi => by trivial, fun i i1 i2 => by trivial⟩) ?p2)
    case f2 =>
      rintro c st2 ⟨rfl, l, r, rfl, a1, a2, a3, a4, a5⟩
      obtain rfl : l = r := by trivial
      exact ⟨rfl, l, l, rfl, a2, a4, a5⟩
    case s2 =>
      rintro x c st2 _ hx ⟨rfl, l, r, rfl, a1, a2, a3, a4, a5⟩
      dsimp only
      by_cases hge : l ≥ r
      · rw [if_pos hge]
        obtain rfl : l = r := by trivial
        exact wpS_pure ⟨rfl, l, l, rfl, a2, a4, a5⟩
      · rw [if_neg hge]
        refine wpS_bind (wpS_ltAt' C (ch.kind.trans hk0) (ch.all hS0) (by trivial) (by trivial) ?_)
        dsimp only
        cases e : O.blt (ky (at_ (arrOf st2) (lo + k))) (ky (at_ (arrOf st2) (lo + (l + r) / 2))) with
        | true =>
          rw [if_pos rfl]
          exact wpS_pure ⟨rfl, l, (l + r) / 2, rfl, by trivial, by trivial, by trivial, a4, fun i i1 i2 => KeyOrd.klt_of_klt_of_kle e (u _ i i1 i2).1⟩
        | false =>
          rw [if_neg Bool.false_ne_true]
          exact wpS_pure ⟨rfl, (l + r) / 2 + 1, r, rfl, by trivial, by trivial, by trivial, fun i i1 => R.trans (u i ((l + r) / 2) (by trivial) (by trivial)) (R.le e (lp.any (by trivial) (Nat.le_refl _) (by trivial))), a5⟩
    case p2 =>
      rintro c st2 ⟨rfl, l, r, rfl, a1, a4, a5⟩
      dsimp only
      have hks : lo + k < (arrOf st2).size := by trivial
      show wpS _ _ _ _ (moveDown' (lo + k) (lo + l) >>= fun _ => pure (ForInStep.yield (none, ()))) _ _
      rw [moveDown'_eq]
      refine wpS_bind (wpS_modify (wpS_pure ⟨rfl, ch.trans (chg_bubble hks (by trivial) (by trivial)), ?_, ?_⟩))
      · rw [show min (k + 1) n = k + 1 by trivial]
        intro i j hij hj
        show R O ky ix (at_ (bubble (arrOf st2) (lo + k) (lo + k - (lo + l))) (lo + i)) (at_ (bubble (arrOf st2) (lo + k) (lo + k - (lo + l))) (lo + j))
        rw [at_bubble hks (by trivial), at_bubble hks (by trivial), show lo + k - (lo + k - (lo + l)) = lo + l by trivial]
        by_cases i1 : i = l
        · rw [if_pos (by trivial)]
          by_cases j1 : j = l
          · rw [if_pos (by trivial)]; exact R.refl _
          · rw [if_neg (by trivial), if_pos (by trivial), show lo + j - 1 = lo + (j - 1) by trivial]
            exact R.lt (a5 (j - 1) (by trivial) (by trivial))
        · rw [if_neg (by trivial)]
          by_cases i2 : l < i
          · rw [if_pos (by trivial), if_neg (by trivial), if_pos (by trivial), show lo + i - 1 = lo + (i - 1) by trivial, show lo + j - 1 = lo + (j - 1) by trivial]
            exact u _ _ (by trivial) (by trivial)
          · rw [if_neg (by trivial)]
            by_cases j1 : j = l
            · rw [if_pos (by trivial)]; exact a4 i (by trivial)
            · rw [if_neg (by trivial)]
              by_cases j2 : l < j
              · rw [if_pos (by trivial), show lo + j - 1 = lo + (j - 1) by trivial]; exact u _ _ (by trivial) (by trivial)
              · rw [if_neg (by trivial)]; exact u _ _ hij (by trivial)
      · rw [show min (k + 1) n = k + 1 by trivial]
        refine (lp.on (Nat.le_succ k)).of (fun i hi => ?_) (fun i hi => ?_)
        · show ∃ k', k' < k + 1 ∧ at_ (bubble (arrOf st2) (lo + k) (lo + k - (lo + l))) (lo + i) = _
          rw [at_bubble hks (by trivial), show lo + k - (lo + k - (lo + l)) = lo + l by trivial]
          by_cases i1 : lo + i = lo + l
          · rw [if_pos i1]; exact ⟨k, by trivial, rfl⟩
          · rw [if_neg i1]
            by_cases i2 : lo + l < lo + i ∧ lo + i ≤ lo + k
            · rw [if_pos i2, show lo + i - 1 = lo + (i - 1) by trivial]; exact ⟨i - 1, by trivial, rfl⟩
            · rw [if_neg i2]; exact ⟨i, hi, rfl⟩
        · show at_ (bubble (arrOf st2) (lo + k) (lo + k - (lo + l))) (lo + i) = _
          rw [at_bubble hks (by trivial), if_neg (by trivial), if_neg (by trivial)]
end
end TT
set_option linter.all false
namespace TT
open PySem PyProof.Rows TS
noncomputable def offs : Nat → List (List Keyed) → List (Nat × Nat)
  | _, [] => []
  | o, g :: r => (o, g.length) :: offs (o + g.length) r
theorem offs_append : ∀ (p q : List (List Keyed)) (o : Nat), offs o (p ++ q) = offs o p ++ offs (o + p.flatten.length) q
  | [], q, o => by simp [offs]
  | g :: r, q, o => by
    show (o, g.length) :: offs (o + g.length) (r ++ q) = (o, g.length) :: offs (o + g.length) r ++ _
    rw [offs_append r q, List.cons_append, List.flatten_cons, List.length_append, Nat.add_assoc]
theorem offs_length : ∀ (p : List (List Keyed)) (o : Nat), (offs o p).length = p.length
  | [], _ => rfl
  | g :: r, o => by show (offs (o + g.length) r).length + 1 = _; rw [offs_length r]; rfl
noncomputable def two (p : Nat × Nat × Nat) : Nat × Nat := (p.1, p.2.1)
noncomputable def Ord (ix : Keyed → Nat) (l : List (List Keyed)) : Prop := l.Pairwise fun g h => ∀ x ∈ g, ∀ y ∈ h, ix x ≤ ix y
theorem Ord.two {ix : Keyed → Nat} {pre post : List (List Keyed)} {F G : List Keyed} (h : Ord ix (pre ++ F :: G :: post)) : ∀ x ∈ F, ∀ y ∈ G, ix x ≤ ix y :=
  (List.pairwise_cons.mp (List.pairwise_append.mp h).2.1).1 G List.mem_cons_self
theorem Ord.join {ix : Keyed → Nat} {pre post : List (List Keyed)} {F G M : List Keyed} (h : Ord ix (pre ++ F :: G :: post)) (hm : ∀ x ∈ M, x ∈ F ∨ x ∈ G) : Ord ix (pre ++ M :: post) := by
  unfold Ord at h ⊢
  rw [List.pairwise_append, List.pairwise_cons, List.pairwise_cons] at h
  rw [List.pairwise_append, List.pairwise_cons]
  obtain ⟨h1, ⟨h2, h3, h4⟩, h5⟩ := h
  refine ⟨h1, ⟨fun g hg x hx y hy => ?_, h4⟩, fun g hg k hk x hx y hy => ?_⟩
  · rcases hm x hx with z | z
    · exact h2 g (List.mem_cons_of_mem _ hg) x z y hy
    · exact h3 g hg x z y hy
  · rcases List.mem_cons.mp hk with e | hk
    · subst e
      rcases hm y hy with z | z
      · exact h5 g hg F List.mem_cons_self x hx y z
      · exact h5 g hg G (List.mem_cons_of_mem _ List.mem_cons_self) x hx y z
    · exact h5 g hg k (List.mem_cons_of_mem _ (List.mem_cons_of_mem _ hk)) x hx y hy
theorem Ord.last {ix : Keyed → Nat} {l : List (List Keyed)} {r r' : List Keyed} (h : Ord ix (l ++ [r])) (hm : ∀ x ∈ r', x ∈ r) : Ord ix (l ++ [r']) := by
  unfold Ord at h ⊢
  rw [List.pairwise_append] at h ⊢
  refine ⟨h.1, List.pairwise_singleton _ _, fun g hg k hk x hx y hy => ?_⟩
  rw [List.mem_singleton.mp hk] at hy
  exact h.2.2 g hg r List.mem_cons_self x hx y (hm y hy)
theorem Ord.cut {ix : Keyed → Nat} {l : List (List Keyed)} {a b : List Keyed} (h : Ord ix (l ++ [a ++ b])) (hm : ∀ x ∈ a, ∀ y ∈ b, ix x ≤ ix y) : Ord ix ((l ++ [a]) ++ [b]) := by
  unfold Ord at h ⊢
  rw [List.pairwise_append] at h
  rw [List.append_assoc, List.pairwise_append]
  refine ⟨h.1, List.pairwise_pair.mpr hm, fun g hg k hk x hx y hy => ?_⟩
  have hk' : k = a ∨ k = b := by simpa using hk
  rcases hk' with rfl | rfl
  · exact h.2.2 g hg _ List.mem_cons_self x hx y (List.mem_append_left _ hy)
  · exact h.2.2 g hg _ List.mem_cons_self x hx y (List.mem_append_right _ hy)
structure Stk (O : KeyOrd) (ky : Keyed → O.α) (ix : Keyed → Nat) (kd : SortKind) (a0 : Array Keyed) (st : SortSt) (segs : List (List Keyed)) (rest : List Keyed) : Prop where
  kind : kindOf st = kd
  fail : failedOf st = none
  arr : (arrOf st).toList = segs.flatten ++ rest
  perm : (arrOf st).Perm a0
  pend : (pendingOf st).toList.map two = offs 0 segs
  each : ∀ g ∈ segs, g ≠ [] ∧ Srt O ky ix g
  ord : Ord ix (segs ++ [rest])
theorem at_seg {arr : Array Keyed} {P G T : List Keyed} (h : arr.toList = P ++ (G ++ T)) {i : Nat} {x : Keyed} (hx : G[i]? = some x) : at_ arr (P.length + i) = x := by
  have e : arr.toList[P.length + i]? = some x := by
    rw [h, List.getElem?_append_right (by trivial), show P.length + i - P.length = i by trivial, List.getElem?_append_left (List.getElem?_eq_some_iff.mp hx).1]
    exact hx
  unfold at_
  rw [← Array.getElem?_toList, e]; rfl
section
variable {O : KeyOrd} {ky : Keyed → O.α} {ix : Keyed → Nat}
theorem srt_ij {G : List Keyed} (h : Srt O ky ix G) {i j : Nat} {x y : Keyed} (hij : i ≤ j) (hx : G[i]? = some x) (hy : G[j]? = some y) : R O ky ix x y := by
  obtain ⟨h1, e1⟩ := List.getElem?_eq_some_iff.mp hx
  obtain ⟨h2, e2⟩ := List.getElem?_eq_some_iff.mp hy
  by_cases e : i = j
  · subst e
    rw [hx] at hy
    cases hy
    exact R.refl _
  · have := List.pairwise_iff_getElem.mp h i j h1 h2 (by trivial)
    rw [e1, e2] at this
    exact this
theorem seg_srt {arr : Array Keyed} {P G T : List Keyed} (h : arr.toList = P ++ (G ++ T)) (hs : Srt O ky ix G) : ∀ i j, i ≤ j → j < G.length → R O ky ix (at_ arr (P.length + i)) (at_ arr (P.length + j)) := fun i j hij hj => by
  have e1 : G[i]? = some G[i] := List.getElem?_eq_getElem _
  have e2 : G[j]? = some G[j] := List.getElem?_eq_getElem _
  rw [at_seg h e1, at_seg h e2]
  exact srt_ij hs hij e1 e2
end
theorem write_back (sa : Nat) : ∀ (m : List Keyed) (n : Nat) (arr : Array Keyed), sa + n + m.length ≤ arr.size →
    ((m.zipIdx n).foldl (fun a (x : Keyed × Nat) => match x with | (p, j) => a.setIfInBounds (sa + j) p) arr).toList = arr.toList.take (sa + n) ++ (m ++ arr.toList.drop (sa + n + m.length))
  | [], n, arr, _ => by simp
  | p :: r, n, arr, h => by
    rw [List.length_cons] at h
    rw [List.zipIdx_cons, List.foldl_cons]
    have ih := write_back sa r (n + 1) (arr.setIfInBounds (sa + n) p) (by simp; trivial)
    rw [ih]
    have hlt : sa + n < arr.toList.length := by simp; trivial
    have el : (arr.setIfInBounds (sa + n) p).toList = arr.toList.set (sa + n) p := by simp
    rw [el, show sa + (n + 1) = sa + n + 1 by trivial, List.take_add_one, List.length_cons]
    rw [List.take_set_of_le (by trivial), List.getElem?_set_self hlt, List.drop_set_of_lt (by trivial)]
    simp [Nat.add_assoc, Nat.add_comm, Nat.add_left_comm]
section
variable {prog : Program} {w : World} {A : Around} {E : Value → Shared → Prop} {s : Shared}
variable {kd : SortKind} {O : KeyOrd} {ky : Keyed → O.α} {ix : Keyed → Nat} {S : Keyed → Prop} {a0 : Array Keyed}
theorem pend_split {st : SortSt} {pre post : List (List Keyed)} {F G : List Keyed} (h : (pendingOf st).toList.map two = offs 0 (pre ++ F :: G :: post)) : ∃ p1 w1 w2 p2, (pendingOf st).toList = p1 ++ (pre.flatten.length, F.length, w1) :: (pre.flatten.length + F.length, G.length, w2) :: p2 ∧ p1.length = pre.length ∧ p1.map two = offs 0 pre ∧ p2.map two = offs (pre.flatten.length + F.length + G.length) post := by
  rw [offs_append] at h
  obtain ⟨p1, p2, e, e1, e2⟩ := List.map_eq_append_iff.mp h
  have h2 : p2.map two = (0 + pre.flatten.length, F.length) :: (0 + pre.flatten.length + F.length, G.length) :: offs (0 + pre.flatten.length + F.length + G.length) post := e2
  rw [Nat.zero_add] at h2
  obtain ⟨q1, p3, rfl, f1, f2⟩ := List.map_eq_cons_iff.mp h2
  obtain ⟨q2, p4, rfl, g1, g2⟩ := List.map_eq_cons_iff.mp f2
  obtain ⟨x1, x2, x3⟩ := q1
  obtain ⟨y1, y2, y3⟩ := q2
  obtain ⟨rfl, rfl⟩ := Prod.mk.inj (show (x1, x2) = _ from f1)
  obtain ⟨rfl, rfl⟩ := Prod.mk.inj (show (y1, y2) = _ from g1)
  refine ⟨p1, x3, y3, p4, e, ?_, e1, g2⟩
  have := congrArg List.length e1
  rw [List.length_map, offs_length] at this
  exact this
theorem wpS_mergeAt (C : Cmp prog w A s kd O ky S) {st : SortSt} {pre post : List (List Keyed)} {F G : List Keyed} {rest : List Keyed} {i : Nat} {Q : Bool → SortSt → Prop} (hS : ∀ p ∈ a0.toList, S p) (h : Stk O ky ix kd a0 st (pre ++ F :: G :: post) rest) (hi : i = pre.length)
    (k : ∀ st' M, Stk O ky ix kd a0 st' (pre ++ M :: post) rest → M.length = F.length + G.length → Q true st') : wpS (model prog w) A E s (TS.mergeAt' i) Q st := by
  obtain ⟨p1, w1, w2, p2, ep, l1, q1, q2⟩ := pend_split h.pend
  have hSa : ∀ p ∈ (arrOf st).toList, S p := fun p hp => hS p ((Array.perm_iff_toList_perm.mp h.perm).mem_iff.mp hp)
  have hF := h.each F (List.mem_append_right _ List.mem_cons_self)
  have hG := h.each G (List.mem_append_right _ (List.mem_cons_of_mem _ List.mem_cons_self))
  have lF : 1 ≤ F.length := List.length_pos_iff.mpr hF.1
  have lG : 1 ≤ G.length := List.length_pos_iff.mpr hG.1
  have arrF : (arrOf st).toList = pre.flatten ++ (F ++ (G ++ (post.flatten ++ rest))) := by
    rw [h.arr]; simp
  have arrG : (arrOf st).toList = (pre.flatten ++ F) ++ (G ++ (post.flatten ++ rest)) := by
    rw [arrF]; simp
  have lenG : (pre.flatten ++ F).length = pre.flatten.length + F.length := List.length_append
  have hsz : pre.flatten.length + F.length + G.length ≤ (arrOf st).size := by
    have := congrArg List.length arrF
    rw [List.length_append, List.length_append, List.length_append, Array.length_toList] at this
    trivial
  have srF := seg_srt arrF hF.2
  have srG := seg_srt arrG hG.2
  rw [lenG] at srG
  have g1 : (pendingOf st)[i]? = some (pre.flatten.length, F.length, w1) := by
    rw [← Array.getElem?_toList, ep, hi, ← l1]; simp
  have g2 : (pendingOf st)[i + 1]? = some (pre.flatten.length + F.length, G.length, w2) := by
    rw [← Array.getElem?_toList, ep, hi, ← l1, List.getElem?_append_right (by trivial)]; simp
  unfold TS.mergeAt'
  refine wpS_bind (wpS_get ?_)
  rw [show (pendingOf st)[i]? = _ from g1, show (pendingOf st)[i + 1]? = _ from g2]
  dsimp only
  -- what is told whatever is merged
  have fin : ∀ (st' : SortSt) (M : List Keyed), kindOf st' = kindOf st → failedOf st' = failedOf st → (arrOf st').toList = pre.flatten ++ (M ++ (post.flatten ++ rest)) → M.Perm (F ++ G) → Srt O ky ix M →
      pendingOf st' = ((pendingOf st).setIfInBounds i (pre.flatten.length, F.length + G.length, w1)).eraseIdxIfInBounds (i + 1) → Q true st' := by
    intro st' M k1 k2 k3 k4 k5 k6
    refine k st' M ⟨k1.trans h.kind, k2.trans h.fail, ?_, ?_, ?_, fun g hg => ?_, ?_⟩ (by rw [k4.length_eq, List.length_append])
    · rw [k3]; simp
    · refine Array.Perm.trans (Array.perm_iff_toList_perm.mpr ?_) h.perm
      rw [k3, arrF]
      refine List.Perm.append_left _ ?_
      rw [← List.append_assoc F]
      exact k4.append_right _
    · rw [k6]
      have e : (((pendingOf st).setIfInBounds i (pre.flatten.length, F.length + G.length, w1)).eraseIdxIfInBounds (i + 1)).toList = p1 ++ (pre.flatten.length, F.length + G.length, w1) :: p2 := by
        simp [ep]
        rw [hi, ← l1, List.set_append_right _ _ (Nat.le_refl _), Nat.sub_self, List.set_cons_zero, List.eraseIdx_append_of_length_le (by trivial), show p1.length + 1 - p1.length = 1 by trivial]
        rfl
      rw [e, List.map_append, q1, List.map_cons, q2, offs_append, Nat.zero_add]
      show _ = offs 0 pre ++ (pre.flatten.length, M.length) :: offs (pre.flatten.length + M.length) post
      rw [k4.length_eq, List.length_append, ← Nat.add_assoc]
      rfl
    · rcases List.mem_append.mp hg with hg | hg
      · exact h.each g (List.mem_append_left _ hg)
      · rcases List.mem_cons.mp hg with hg | hg
        · subst hg
          refine ⟨fun z => ?_, k5⟩
          have := k4.length_eq
          rw [z, List.length_append] at this
          simp at this
          trivial
        · exact h.each g (List.mem_append_right _ (List.mem_cons_of_mem _ (List.mem_cons_of_mem _ hg)))
    · have o := h.ord
      rw [List.append_assoc, List.cons_append, List.cons_append] at o
      rw [List.append_assoc, List.cons_append]
      exact o.join fun x hx => List.mem_append.mp (k4.mem_iff.mp hx)
  have fG : ∀ {i : Nat}, i < G.length → ∃ x, G[i]? = some x ∧ at_ (arrOf st) (pre.flatten.length + F.length + i) = x := fun {i} hi => by
    refine ⟨G[i], List.getElem?_eq_getElem _, ?_⟩
    have := at_seg arrG (i := i) (List.getElem?_eq_getElem hi)
    rw [lenG] at this
    exact this
  have fF : ∀ {i : Nat}, i < F.length → ∃ x, F[i]? = some x ∧ at_ (arrOf st) (pre.flatten.length + i) = x := fun {i} hi => ⟨F[i], List.getElem?_eq_getElem _, at_seg arrF (List.getElem?_eq_getElem hi)⟩
  have memF : ∀ {x : Keyed} {i j : Nat}, x ∈ (F.take j).drop i → ∃ n, i ≤ n ∧ n < j ∧ n < F.length ∧ at_ (arrOf st) (pre.flatten.length + n) = x := fun {x i j} hx => by
    obtain ⟨n, hn, e⟩ := List.getElem_of_mem hx
    rw [List.length_drop, List.length_take] at hn
    refine ⟨i + n, by trivial, by trivial, by trivial, at_seg arrF ?_⟩
    have e2 : ((F.take j).drop i)[n]? = some x := by rw [← e]; exact List.getElem?_eq_getElem _
    rw [List.getElem?_drop, List.getElem?_take, if_pos (by trivial)] at e2
    exact e2
  have memG : ∀ {x : Keyed} {i j : Nat}, x ∈ (G.take j).drop i → ∃ n, i ≤ n ∧ n < j ∧ n < G.length ∧ at_ (arrOf st) (pre.flatten.length + F.length + n) = x := fun {x i j} hx => by
    obtain ⟨n, hn, e⟩ := List.getElem_of_mem hx
    rw [List.length_drop, List.length_take] at hn
    have e2 : ((G.take j).drop i)[n]? = some x := by rw [← e]; exact List.getElem?_eq_getElem _
    rw [List.getElem?_drop, List.getElem?_take, if_pos (by trivial)] at e2
    have := at_seg arrG e2
    rw [lenG] at this
    exact ⟨i + n, by trivial, by trivial, by trivial, this⟩
  have allF : F = (F.take F.length).drop 0 := by simp
  have allG : G = (G.take G.length).drop 0 := by simp
  have hix : ∀ x ∈ F, ∀ y ∈ G, ix x ≤ ix y := by
    have o := h.ord
    rw [List.append_assoc, List.cons_append, List.cons_append] at o
    exact o.two
  have hixA : ∀ m n, m < F.length → n < G.length → ix (at_ (arrOf st) (pre.flatten.length + m)) ≤ ix (at_ (arrOf st) (pre.flatten.length + F.length + n)) := fun m n hm hn => by
    obtain ⟨x, x1, x2⟩ := fF hm
    obtain ⟨y, y1, y2⟩ := fG hn
    rw [x2, y2]
    exact hix x (List.mem_of_getElem? x1) y (List.mem_of_getElem? y1)
  refine wpS_bind (wpS_modify (f := fun _ => _) ?_)
  refine wpS_bind (wpS_elem (at_eq (show pre.flatten.length + F.length < (arrOf st).size by trivial)) ?_)
  refine wpS_bind (wpS_gal C h.kind (hSa _ (at_mem (show pre.flatten.length + F.length < (arrOf st).size by trivial))) hSa srF (fun i hi => by simp only [Bool.false_eq_true, if_false]; exact hixA i 0 hi lG) (show pre.flatten.length + F.length ≤ (arrOf st).size by trivial) (by trivial) fun kk hkk r1 r2 => ?_)
  dsimp only
  simp only [Bool.false_eq_true, if_false] at r1 r2
  have G0 : ∀ y ∈ G, R O ky ix (at_ (arrOf st) (pre.flatten.length + F.length)) y := fun y hy => by
    rw [allG] at hy
    obtain ⟨n, _, _, n3, rfl⟩ := memG hy
    exact srG 0 n (by trivial) n3
  by_cases z1 : (F.length - kk == 0) = true
  · rw [if_pos z1]
    have z1' : F.length - kk = 0 := by simpa using z1
    refine wpS_pure (fin _ (F ++ G) rfl rfl ?_ (List.Perm.refl _) ?_ rfl)
    · show (arrOf st).toList = _
      rw [arrF]; simp
    · unfold Srt
      rw [List.pairwise_append]
      refine ⟨hF.2, hG.2, fun x hx y hy => ?_⟩
      rw [allF] at hx
      obtain ⟨n, _, _, n3, rfl⟩ := memF hx
      exact R.trans (r1 n (by trivial)) (G0 y hy)
  rw [if_neg z1]
  have z1' : ¬ F.length - kk = 0 := by simpa using z1
  have elast : pre.flatten.length + kk + (F.length - kk) - 1 = pre.flatten.length + (F.length - 1) := by trivial
  rw [elast]
  refine wpS_bind (wpS_elem (at_eq (show pre.flatten.length + (F.length - 1) < (arrOf st).size by trivial)) ?_)
  refine wpS_bind (wpS_gal C h.kind (hSa _ (at_mem (show pre.flatten.length + (F.length - 1) < (arrOf st).size by trivial))) hSa srG (fun i hi => by simp only [if_true]; exact hixA (F.length - 1) i (by trivial) hi) (show pre.flatten.length + F.length + G.length ≤ (arrOf st).size by trivial) (by trivial) fun nn hnn t1 t2 => ?_)
  dsimp only
  simp only [if_true] at t1 t2
  have FL : ∀ x ∈ F, R O ky ix x (at_ (arrOf st) (pre.flatten.length + (F.length - 1))) := fun x hx => by
    rw [allF] at hx
    obtain ⟨n, _, _, n3, rfl⟩ := memF hx
    exact srF n (F.length - 1) (by trivial) (by trivial)
  by_cases z2 : (nn == 0) = true
  · rw [if_pos z2]
    have z2' : nn = 0 := by simpa using z2
    refine wpS_pure (fin _ (F ++ G) rfl rfl ?_ (List.Perm.refl _) ?_ rfl)
    · show (arrOf st).toList = _
      rw [arrF]; simp
    · unfold Srt
      rw [List.pairwise_append]
      refine ⟨hF.2, hG.2, fun x hx y hy => ?_⟩
      rw [allG] at hy
      obtain ⟨n, _, _, n3, rfl⟩ := memG hy
      exact R.trans (FL x hx) (t2 n (by trivial) n3)
  rw [if_neg z2]
  have z2' : ¬ nn = 0 := by simpa using z2
  have hx : ((arrOf st).extract (pre.flatten.length + kk) (pre.flatten.length + F.length)).toList = F.drop kk := by
    rw [ext2, arrG, ← lenG, List.take_append_of_le_length (Nat.le_refl _), List.take_length, ← List.drop_drop]
    simp
  have hy : ((arrOf st).extract (pre.flatten.length + F.length) (pre.flatten.length + F.length + nn)).toList = G.take nn := by
    rw [ext_some, arrG, ← lenG, List.drop_append_of_le_length (Nat.le_refl _), List.drop_length, List.nil_append, List.take_append_of_le_length hnn]
  have szx : ((arrOf st).extract (pre.flatten.length + kk) (pre.flatten.length + F.length)).size = F.length - kk := by
    rw [← Array.length_toList, hx, List.length_drop]
  have szy : ((arrOf st).extract (pre.flatten.length + F.length) (pre.flatten.length + F.length + nn)).size = nn := by
    rw [← Array.length_toList, hy, List.length_take]; trivial
  generalize (arrOf st).extract (pre.flatten.length + kk) (pre.flatten.length + F.length) = x at hx szx ⊢
  generalize (arrOf st).extract (pre.flatten.length + F.length) (pre.flatten.length + F.length + nn) = y at hy szy ⊢
  have inF : ∀ p ∈ F, S p := fun p hp => hSa p (by rw [arrF]; exact List.mem_append_right _ (List.mem_append_left _ hp))
  have inG : ∀ p ∈ G, S p := fun p hp => hSa p (by rw [arrF]; exact List.mem_append_right _ (List.mem_append_right _ (List.mem_append_left _ hp)))
  have hSx : ∀ p ∈ x.toList, S p := fun p hp => inF p (by rw [hx] at hp; exact List.mem_of_mem_drop hp)
  have hSy : ∀ p ∈ y.toList, S p := fun p hp => inG p (by rw [hy] at hp; exact List.mem_of_mem_take hp)
  have sx : Srt O ky ix x.toList := by rw [hx]; exact drop_srt hF.2 _
  have sy : Srt O ky ix y.toList := by rw [hy]; exact take_srt hG.2 _
  have hixy : ∀ p ∈ x.toList, ∀ q ∈ y.toList, ix p ≤ ix q := fun p hp q hq => by
    rw [hx] at hp
    rw [hy] at hq
    exact hix p (List.mem_of_mem_drop hp) q (List.mem_of_mem_take hq)
  have y0 : at_ y 0 = at_ (arrOf st) (pre.flatten.length + F.length) := by
    obtain ⟨g, hg1, hg2⟩ := fG (i := 0) lG
    have e : y.toList[0]? = some g := by rw [hy, List.getElem?_take, if_pos (by trivial)]; exact hg1
    rw [show pre.flatten.length + F.length = pre.flatten.length + F.length + 0 from rfl, hg2]
    unfold at_
    rw [← Array.getElem?_toList, e]; rfl
  have xl : at_ x (x.size - 1) = at_ (arrOf st) (pre.flatten.length + (F.length - 1)) := by
    obtain ⟨g, hg1, hg2⟩ := fF (i := F.length - 1) (by trivial)
    have e : x.toList[x.size - 1]? = some g := by rw [hx, szx, List.getElem?_drop, show kk + (F.length - kk - 1) = F.length - 1 by trivial]; exact hg1
    rw [hg2]
    unfold at_
    rw [← Array.getElem?_toList, e]; rfl
  have h0 : ∀ p ∈ x.toList, R O ky ix (at_ y 0) p := fun p hp => by
    rw [hx, show F.drop kk = (F.take F.length).drop kk by rw [List.take_length]] at hp
    obtain ⟨n, n1, _, n3, rfl⟩ := memF hp
    rw [y0]
    exact R.lt (r2 n n1 n3)
  have hl : ∀ p ∈ y.toList, R O ky ix p (at_ x (x.size - 1)) := fun p hp => by
    rw [hy, show G.take nn = (G.take nn).drop 0 by rw [List.drop_zero]] at hp
    obtain ⟨n, _, n2, n3, rfl⟩ := memG hp
    rw [xl]
    exact R.lt (t1 n n2)
  have last : ∀ (o : Array Keyed) (st' : SortSt), Good O ky ix x y o → SameSt (SortSt.mk' (kindOf st) (arrOf st) (((pendingOf st).setIfInBounds i (pre.flatten.length, F.length + G.length, w1)).eraseIdxIfInBounds (i + 1)) (gallopOf st) (failedOf st)) st' →
      (failedOf st').isNone = true ∧ Q true (SortSt.mk' (kindOf st') (o.toList.zipIdx.foldl (fun a (x : Keyed × Nat) => match x with | (p, j) => a.setIfInBounds (pre.flatten.length + kk + j) p) (arrOf st')) (pendingOf st') (gallopOf st') (failedOf st')) := by
    intro o st' go ss
    obtain ⟨pm, so⟩ := go
    rw [hx, hy] at pm
    have lo : o.toList.length = F.length - kk + nn := by rw [pm.length_eq, List.length_append, List.length_drop, List.length_take]; trivial
    refine ⟨by rw [show failedOf st' = failedOf st from ss.fail, h.fail]; rfl, ?_⟩
    refine fin _ (F.take kk ++ (o.toList ++ G.drop nn)) ss.kind ss.fail ?_ ?_ ?_ ss.pend
    · show (o.toList.zipIdx.foldl _ (arrOf st')).toList = _
      rw [show arrOf st' = arrOf st from ss.arr]
      have wb := write_back (pre.flatten.length + kk) o.toList 0 (arrOf st) (by trivial)
      rw [Nat.add_zero] at wb
      refine wb.trans ?_
      have d1 : (arrOf st).toList.take (pre.flatten.length + kk) = pre.flatten ++ F.take kk := by
        rw [arrF, List.take_length_add_append, List.take_append_of_le_length (by trivial)]
      have d2 : (arrOf st).toList.drop (pre.flatten.length + kk + o.toList.length) = G.drop nn ++ (post.flatten ++ rest) := by
        rw [arrG, lo, show pre.flatten.length + kk + (F.length - kk + nn) = (pre.flatten ++ F).length + nn by rw [lenG]; trivial, List.drop_length_add_append, List.drop_append_of_le_length hnn]
      rw [d1, d2]; simp
    · have e1 := List.take_append_drop kk F
      have e2 := List.take_append_drop nn G
      conv => rhs; rw [← e1, ← e2]
      rw [List.append_assoc]
      refine List.Perm.append_left _ ?_
      rw [← List.append_assoc]
      exact pm.append_right _
    · have mo : ∀ p ∈ o.toList, p ∈ F.drop kk ∨ p ∈ G.take nn := fun p hp => List.mem_append.mp (pm.mem_iff.mp hp)
      unfold Srt
      rw [List.pairwise_append, List.pairwise_append]
      refine ⟨take_srt hF.2 _, ⟨so, drop_srt hG.2 _, fun p hp q hq => ?_⟩, fun p hp q hq => ?_⟩
      · rcases mo p hp with hp | hp
        · rw [show G.drop nn = (G.take G.length).drop nn by rw [List.take_length]] at hq
          obtain ⟨n, n1, _, n3, rfl⟩ := memG hq
          exact R.trans (FL p (List.mem_of_mem_drop hp)) (t2 n n1 n3)
        · exact split_srt hG.2 nn p hp q hq
      · have ub : R O ky ix p (at_ (arrOf st) (pre.flatten.length + F.length)) := by
          rw [show F.take kk = (F.take kk).drop 0 by rw [List.drop_zero]] at hp
          obtain ⟨n, _, n2, n3, rfl⟩ := memF hp
          exact r1 n n2
        rcases List.mem_append.mp hq with hq | hq
        · rcases mo q hq with hq | hq
          · exact split_srt hF.2 kk p hp q hq
          · exact R.trans ub (G0 q (List.mem_of_mem_take hq))
        · exact R.trans ub (G0 q (List.mem_of_mem_drop hq))
  by_cases hle : F.length - kk ≤ nn
  · rw [if_pos hle]
    refine wpS_bind (wpS_mergeLo C h.kind hSx hSy sx sy hixy (by trivial) (by trivial) h0 hl fun o st' go ss => ?_)
    obtain ⟨l1, l2⟩ := last o st' go ss
    refine wpS_bind (wpS_modify (wpS_bind (wpS_get (wpS_pure ?_))))
    rw [show (failedOf st').isNone = true from l1]
    exact l2
  · rw [if_neg hle]
    refine wpS_bind (wpS_mergeHi C h.kind hSx hSy sx sy hixy (by trivial) (by trivial) h0 hl fun o st' go ss => ?_)
    obtain ⟨l1, l2⟩ := last o st' go ss
    refine wpS_bind (wpS_modify (wpS_bind (wpS_get (wpS_pure ?_))))
    rw [show (failedOf st').isNone = true from l1]
    exact l2
end
end TT
set_option linter.all false
namespace TT
open PySem PyProof.Rows TS
section
variable {prog : Program} {w : World} {A : Around} {E : Value → Shared → Prop} {s : Shared}
variable {kd : SortKind} {O : KeyOrd} {ky : Keyed → O.α} {ix : Keyed → Nat} {S : Keyed → Prop} {a0 : Array Keyed}
theorem Stk.chg {st st' : SortSt} {segs : List (List Keyed)} {rest : List Keyed} {lo : Nat} (h : Stk O ky ix kd a0 st segs rest) (c : Chg lo st st') (hl : segs.flatten.length = lo) : Stk O ky ix kd a0 st' segs ((arrOf st').toList.drop lo) := by
  have e : (arrOf st').toList.take lo = segs.flatten := by
    have e0 : (arrOf st).toList.take lo = segs.flatten := by rw [h.arr, ← hl, List.take_append_of_le_length (Nat.le_refl _), List.take_length]
    rw [← e0]
    apply List.ext_getElem?
    intro i
    rw [List.getElem?_take, List.getElem?_take]
    by_cases hi : i < lo
    · rw [if_pos hi, if_pos hi, Array.getElem?_toList, Array.getElem?_toList]; exact c.low i hi
    · rw [if_neg hi, if_neg hi]
  have ea : (arrOf st').toList = segs.flatten ++ (arrOf st').toList.drop lo := by rw [← e, List.take_append_drop]
  refine ⟨c.kind.trans h.kind, c.fail.trans h.fail, ea, c.perm.trans h.perm, by rw [c.pend]; exact h.pend, h.each, h.ord.last fun x hx => ?_⟩
  have p := Array.perm_iff_toList_perm.mp c.perm
  rw [ea, h.arr] at p
  exact ((List.perm_append_left_iff _).mp p).mem_iff.mp hx
theorem up_srt {st : SortSt} {lo n : Nat} (hn : lo + n ≤ (arrOf st).size) (h : Up O ky ix st lo n) : Srt O ky ix (((arrOf st).toList.drop lo).take n) := by
  unfold Srt
  rw [List.pairwise_iff_getElem]
  intro i j hi hj hij
  rw [List.length_take, List.length_drop] at hi hj
  have hat : ∀ k (hk : k < (((arrOf st).toList.drop lo).take n).length), (((arrOf st).toList.drop lo).take n)[k] = at_ (arrOf st) (lo + k) := fun k hk => by
    have hk' := hk
    rw [List.length_take, List.length_drop] at hk'
    have e : (((arrOf st).toList.drop lo).take n)[k]? = some (((arrOf st).toList.drop lo).take n)[k] := List.getElem?_eq_getElem _
    rw [List.getElem?_take, if_pos (by trivial), List.getElem?_drop, at_list (by trivial)] at e
    exact (Option.some.inj e).symm
  rw [hat, hat]
  exact h i j (by trivial) (by trivial)
theorem Stk.push {st : SortSt} {segs : List (List Keyed)} {rest : List Keyed} {lo n : Nat} (h : Stk O ky ix kd a0 st segs rest) (hl : segs.flatten.length = lo) (h1 : 1 ≤ n) (hn : n ≤ rest.length) (hs : Srt O ky ix (rest.take n)) (hc : ∀ x ∈ rest.take n, ∀ y ∈ rest.drop n, ix x ≤ ix y) {st' : SortSt} (k1 : kindOf st' = kindOf st) (k2 : failedOf st' = failedOf st) (k3 : arrOf st' = arrOf st) (k4 : (pendingOf st').toList.map two = (pendingOf st).toList.map two ++ [(lo, n)]) :
    Stk O ky ix kd a0 st' (segs ++ [rest.take n]) (rest.drop n) := by
  have hln : (rest.take n).length = n := by rw [List.length_take]; trivial
  refine ⟨k1.trans h.kind, k2.trans h.fail, ?_, by rw [k3]; exact h.perm, ?_, fun g hg => ?_, Ord.cut (by rw [List.take_append_drop]; exact h.ord) hc⟩
  · rw [k3, h.arr]; simp
  · rw [k4, h.pend, offs_append, Nat.zero_add, hl]
    show _ = _ ++ [(lo, (rest.take n).length)]
    rw [hln]
  · rcases List.mem_append.mp hg with hg | hg
    · exact h.each g hg
    · have : g = rest.take n := by simpa using hg
      subst this
      refine ⟨fun z => ?_, hs⟩
      rw [z] at hln
      simp at hln
      trivial
theorem lap_list {st : SortSt} {lo n m : Nat} (h : Lap ix st lo n m) (hm : lo + m = (arrOf st).size) (hn : n ≤ m) : (∀ x ∈ ((arrOf st).toList.drop lo).take n, ∀ y ∈ ((arrOf st).toList.drop lo).drop n, ix x ≤ ix y) ∧ (((arrOf st).toList.drop lo).drop n).Pairwise (fun x y => ix x ≤ ix y) := by
  refine ⟨fun x hx y hy => ?_, ?_⟩
  · obtain ⟨i, i1, i2, rfl⟩ := mem_at hx
    obtain ⟨j, j1, e⟩ := List.getElem_of_mem hy
    rw [List.length_drop, List.length_drop, Array.length_toList] at j1
    have e2 : (((arrOf st).toList.drop lo).drop n)[j]? = some y := by rw [← e]; exact List.getElem?_eq_getElem _
    rw [List.getElem?_drop, List.getElem?_drop, at_list (by trivial)] at e2
    rw [← Option.some.inj e2]
    exact h.cross i (n + j) i1 (by trivial) (by trivial)
  · rw [List.pairwise_iff_getElem]
    intro i j hi hj hij
    have hat : ∀ k (hk : k < (((arrOf st).toList.drop lo).drop n).length), (((arrOf st).toList.drop lo).drop n)[k] = at_ (arrOf st) (lo + (n + k)) := fun k hk => by
      have hk' := hk
      rw [List.length_drop, List.length_drop, Array.length_toList] at hk'
      have e2 : (((arrOf st).toList.drop lo).drop n)[k]? = some (((arrOf st).toList.drop lo).drop n)[k] := List.getElem?_eq_getElem _
      rw [List.getElem?_drop, List.getElem?_drop, at_list (by trivial)] at e2
      exact (Option.some.inj e2).symm
    rw [hat, hat]
    rw [List.length_drop, List.length_drop, Array.length_toList] at hi hj
    exact h.rise _ _ (by trivial) (by trivial) (by trivial)
theorem lap_of_list {st : SortSt} {P T : List Keyed} {m : Nat} (h : (arrOf st).toList = P ++ T) (hm : m ≤ T.length) (hp : T.Pairwise (fun x y => ix x ≤ ix y)) : Lap ix st P.length 0 m := by
  refine ⟨fun i j h1 => by trivial, fun i j h1 h2 h3 => ?_⟩
  by_cases e : i = j
  · rw [e]; exact Nat.le_refl _
  · have hat : ∀ k (hk : k < T.length), at_ (arrOf st) (P.length + k) = T[k] := fun k hk => by
      have := at_seg (P := P) (G := T) (T := []) (i := k) (by rw [h, List.append_nil]) (List.getElem?_eq_getElem hk)
      exact this
    rw [hat i (by trivial), hat j (by trivial)]
    exact List.pairwise_iff_getElem.mp hp i j (by trivial) (by trivial) (by trivial)
theorem pend_size {st : SortSt} {segs : List (List Keyed)} {rest : List Keyed} (h : Stk O ky ix kd a0 st segs rest) : (pendingOf st).size = segs.length := by
  have := congrArg List.length h.pend
  rw [List.length_map, offs_length, Array.length_toList] at this
  exact this
theorem two_modify (p : Array (Nat × Nat × Nat)) (i v : Nat) : (p.modify i fun x => (x.1, x.2.1, v)).toList.map two = p.toList.map two := by
  apply List.ext_getElem?
  intro j
  rw [List.getElem?_map, List.getElem?_map, Array.getElem?_toList, Array.getElem?_toList, Array.getElem?_modify]
  split
  · cases p[j]? with
    | none => rfl
    | some x => rfl
  · rfl
theorem snoc2 {α : Type} {l : List α} (h : 2 ≤ l.length) {i : Nat} (hi : i + 2 = l.length ∨ i + 3 = l.length) : ∃ pre F G post, l = pre ++ F :: G :: post ∧ pre.length = i := by
  have h1 : i < l.length := by trivial
  have h2 : i + 1 < l.length := by trivial
  refine ⟨l.take i, l[i], l[i + 1], l.drop (i + 2), ?_, by rw [List.length_take]; trivial⟩
  conv => lhs; rw [← List.take_append_drop i l, List.drop_eq_getElem_cons h1, List.drop_eq_getElem_cons h2]
theorem pick {m i : Nat} {o : Option Nat} {f : Nat → Bool} (h2 : 2 ≤ m) (hb : (if Option.any f (if m - 2 > 0 then o else none) = true then m - 2 - 1 else m - 2) = i) : i + 2 = m ∨ i + 3 = m := by
  by_cases c : Option.any f (if m - 2 > 0 then o else none) = true
  · rw [if_pos c] at hb
    by_cases z : m - 2 > 0
    · right; trivial
    · rw [if_neg z] at c; simp at c
  · rw [if_neg c] at hb; left; trivial
theorem flat_join {pre post : List (List Keyed)} {F G M : List Keyed} (h : M.length = F.length + G.length) : (pre ++ M :: post).flatten.length = (pre ++ F :: G :: post).flatten.length := by
  simp [h, Nat.add_assoc]
theorem wpS_sort (C : Cmp prog w A s kd O ky S) {st0 : SortSt} {Q : Unit → SortSt → Prop} (hS : ∀ p ∈ (arrOf st0).toList, S p) (hk : kindOf st0 = kd) (hf : failedOf st0 = none) (hp : pendingOf st0 = #[]) (hrise : (arrOf st0).toList.Pairwise (fun x y => ix x ≤ ix y))
    (h : ∀ st', (arrOf st').Perm (arrOf st0) → failedOf st' = none → Srt O ky ix (arrOf st').toList → Q () st') : wpS (model prog w) A E s sortRuns' Q st0 := by
  unfold sortRuns'
  refine wpS_bind (wpS_get ?_)
  dsimp only
  generalize hsz : (arrOf st0).size = size
  generalize (sortPriv% PySem.Builtin.minRun) size size 0 = minrun
  have base : Stk O ky ix kd (arrOf st0) st0 [] (arrOf st0).toList := ⟨hk, hf, rfl, Array.Perm.refl _, by rw [hp]; rfl, (fun _ z => by cases z), List.pairwise_singleton _ _⟩
  have szof : ∀ {st : SortSt} {segs : List (List Keyed)} {rest : List Keyed}, Stk O ky ix kd (arrOf st0) st segs rest → (arrOf st).size = size ∧ segs.flatten.length + rest.length = size := fun {st segs rest} k => by
    have e := k.perm.size_eq
    have e2 := congrArg List.length k.arr
    rw [List.length_append, Array.length_toList] at e2
    exact ⟨by trivial, by trivial⟩
  have allS : ∀ {st : SortSt} {segs : List (List Keyed)} {rest : List Keyed}, Stk O ky ix kd (arrOf st0) st segs rest → ∀ p ∈ (arrOf st).toList, S p := fun {st segs rest} k p hp => hS p ((Array.perm_iff_toList_perm.mp k.perm).mem_iff.mp hp)
  refine wpS_bind (wpS_mono (wpS_forRange
    (I := fun x c st' => c.1 = none ∧ x ≤ c.2 ∧ ∃ segs rest, Stk O ky ix kd (arrOf st0) st' segs rest ∧ segs.flatten.length = c.2 ∧ rest.Pairwise (fun x y => ix x ≤ ix y))
    (Q := fun c st' => c.1 = none ∧ ∃ segs, Stk O ky ix kd (arrOf st0) st' segs []) ?step ?fin ⟨rfl, Nat.le_refl _, [], _, base, rfl, hrise⟩) ?post)
  case fin =>
    rintro c st' ⟨c1, c2, segs, rest, k, kl, _⟩
    obtain ⟨_, e⟩ := szof k
    have : rest = [] := List.eq_nil_of_length_eq_zero (by trivial)
    subst this
    exact ⟨c1, segs, k⟩
  case post =>
    rintro ⟨r, lo⟩ st1 ⟨c1, segs, k⟩
    dsimp only at c1 ⊢
    subst c1
    dsimp only
    obtain ⟨_, esz⟩ := szof k
    have ls : segs.length ≤ size := by
      have : ∀ l : List (List Keyed), (∀ g ∈ l, g ≠ [] ∧ Srt O ky ix g) → l.length ≤ l.flatten.length := by
        intro l
        induction l with
        | nil => intro _; exact Nat.le_refl _
        | cons g r ih =>
          intro hg
          have a := ih fun x hx => hg x (List.mem_cons_of_mem _ hx)
          have b := List.length_pos_iff.mpr (hg g List.mem_cons_self).1
          rw [List.length_cons, List.flatten_cons, List.length_append]
          trivial
      have := this segs k.each
      simp at esz
      simp at this
      trivial
    refine wpS_bind (wpS_mono (wpS_forRange
      (I := fun x c st' => c = (none, ()) ∧ ∃ segs, Stk O ky ix kd (arrOf st0) st' segs [] ∧ (segs.length ≤ 1 ∨ segs.length + x ≤ size))
      (Q := fun c st' => c = (none, ()) ∧ ∃ segs, Stk O ky ix kd (arrOf st0) st' segs [] ∧ segs.length ≤ 1) ?st2 ?fn2 ⟨rfl, segs, k, .inr (by trivial)⟩) ?ps2)
    case fn2 =>
      rintro c st' ⟨c1, segs, k, hor⟩
      exact ⟨c1, segs, k, by rcases hor with q | q <;> trivial⟩
    case ps2 =>
      rintro c st' ⟨rfl, segs, k, hle⟩
      refine wpS_pure (h st' k.perm k.fail ?_)
      rw [k.arr, List.append_nil]
      match segs, hle, k.each with
      | [], _, _ => exact List.Pairwise.nil
      | [g], _, he =>
        rw [List.flatten_cons, List.flatten_nil, List.append_nil]
        exact (he g List.mem_cons_self).2
    case st2 =>
      rintro x c st' _ hx ⟨rfl, segs, k, hor⟩
      have ps := pend_size k
      refine wpS_bind (wpS_get ?_)
      by_cases hle : (pendingOf st').size ≤ 1
      · rw [if_pos hle]
        exact wpS_pure ⟨rfl, segs, k, by trivial⟩
      · rw [if_neg hle]
        generalize hb : (if Option.any _ _ = true then (pendingOf st').size - 2 - 1 else (pendingOf st').size - 2) = i
        have hi := pick (show 2 ≤ (pendingOf st').size by trivial) hb
        rw [ps] at hi
        obtain ⟨pre, F, G, post, rfl, hpl⟩ := snoc2 (by trivial) hi
        refine wpS_bind (wpS_mergeAt C hS k hpl.symm fun st2 M k2 ml => ?_)
        rw [if_neg (by decide)]
        refine wpS_pure ⟨rfl, pre ++ M :: post, k2, .inr ?_⟩
        simp only [List.length_append, List.length_cons] at hor hle ps ⊢
        trivial
  case step =>
    rintro x ⟨r, lo⟩ st1 _ hx ⟨c1, c2, segs, rest, k, kl, asc⟩
    dsimp only at c1 c2 kl ⊢
    subst c1
    obtain ⟨ea, er⟩ := szof k
    by_cases hge : lo ≥ size
    · rw [if_pos hge]
      have : rest = [] := List.eq_nil_of_length_eq_zero (by trivial)
      subst this
      exact wpS_pure ⟨rfl, segs, k⟩
    rw [if_neg hge]
    have lap0 : Lap ix st1 lo 0 (size - lo) := by
      rw [← kl]
      exact lap_of_list k.arr (by trivial) asc
    refine wpS_bind (wpS_run C (ix := ix) k.kind (allS k) (by trivial) (by trivial) lap0 fun n st2 ch n1 n2 up lap => ?_)
    have k2 := k.chg ch kl
    dsimp only
    by_cases hmr : n < minrun
    · rw [if_pos hmr]
      refine wpS_bind (wpS_lift (wpAny_rule ⟨rfl, ?_⟩))
      obtain ⟨ea2, _⟩ := szof k2
      refine wpS_bind (wpS_bin C k2.kind (allS k2) (by trivial) (by trivial) up (nrem := size - lo) (by trivial) lap fun stB chB upB lapB => ?_)
      rw [if_neg (by decide)]
      have kB := k2.chg chB kl
      generalize hfo : min (size - lo) minrun = force at upB lapB ⊢
      have es := szof kB
      have hrl : ((arrOf stB).toList.drop lo).length = size - lo := by rw [List.length_drop, Array.length_toList]; trivial
      have hsr : Srt O ky ix (((arrOf stB).toList.drop lo).take (force)) := up_srt (by trivial) upB
      obtain ⟨hcr, hasc⟩ := lap_list lapB (by trivial) (by trivial)
      generalize (arrOf stB).toList.drop lo = rest2 at kB es hrl hsr hcr hasc
      refine wpS_bind (wpS_get ?_)
      cases hb : (pendingOf stB).back? with
      | none =>
        dsimp only
        refine wpS_bind (wpS_modify (wpS_pure ⟨rfl, by dsimp only; trivial, _, _, Stk.push kB kl (by trivial) (by trivial) hsr hcr rfl rfl rfl (by
          show (((pendingOf stB).push (lo, force, 0)).toList.map two) = _
          rw [Array.toList_push, List.map_append]; rfl), ?_, hasc⟩))
        dsimp only
        rw [List.flatten_append, List.length_append, kl]
        simp
        trivial
      | some q =>
        obtain ⟨s1, n1', w1'⟩ := q
        dsimp only
        refine wpS_bind (wpS_mono (wpS_forRange
          (I := fun x c st' => c = (none, ()) ∧ ∃ segs, Stk O ky ix kd (arrOf st0) st' segs rest2 ∧ segs.flatten.length = lo)
          (Q := fun c st' => c = (none, ()) ∧ ∃ segs, Stk O ky ix kd (arrOf st0) st' segs rest2 ∧ segs.flatten.length = lo) ?sA (fun _ _ z => z) ⟨rfl, segs, kB, kl⟩) ?pA)
        case sA =>
          rintro x' c st3 _ hx' ⟨rfl, segs3, k3, kl3⟩
          have ps := pend_size k3
          refine wpS_bind (wpS_get ?_)
          cases ho : (if (pendingOf st3).size > 1 then (pendingOf st3)[(pendingOf st3).size - 2]? else none) with
          | none => exact wpS_pure ⟨rfl, segs3, k3, kl3⟩
          | some q3 =>
            obtain ⟨u1, u2, older⟩ := q3
            dsimp only
            have hp1 : (pendingOf st3).size > 1 := by
              by_cases z : (pendingOf st3).size > 1
              · exact z
              · rw [if_neg z] at ho; cases ho
            split
            · exact wpS_pure ⟨rfl, segs3, k3, kl3⟩
            · obtain ⟨pre, F, G, post, rfl, hpl⟩ := snoc2 (l := segs3) (i := (pendingOf st3).size - 2) (by trivial) (.inl (by trivial))
              refine wpS_bind (wpS_mergeAt C hS k3 hpl.symm fun st4 M k4 ml => ?_)
              rw [if_neg (by decide)]
              exact wpS_pure ⟨rfl, pre ++ M :: post, k4, by rw [flat_join ml]; exact kl3⟩
        case pA =>
          rintro c st3 ⟨rfl, segs3, k3, kl3⟩
          dsimp only
          refine wpS_bind (wpS_modify ?_)
          refine wpS_bind (wpS_modify (wpS_pure ⟨rfl, by dsimp only; trivial, _, _, Stk.push k3 kl3 (by trivial) (by trivial) hsr hcr rfl rfl rfl (by
            show (((Array.modify (pendingOf st3) ((pendingOf st3).size - 1) _).push (lo, force, 0)).toList.map two) = _
            rw [Array.toList_push, List.map_append, two_modify]; rfl), ?_, hasc⟩))
          dsimp only
          rw [List.flatten_append, List.length_append, kl3]
          simp
          trivial
    · rw [if_neg hmr]
      have es := szof k2
      have hrl : ((arrOf st2).toList.drop lo).length = size - lo := by rw [List.length_drop, Array.length_toList]; trivial
      have hsr : Srt O ky ix (((arrOf st2).toList.drop lo).take (n)) := up_srt (by trivial) up
      obtain ⟨hcr, hasc⟩ := lap_list lap (by trivial) (by trivial)
      generalize (arrOf st2).toList.drop lo = rest2 at k2 es hrl hsr hcr hasc
      refine wpS_bind (wpS_get ?_)
      cases hb : (pendingOf st2).back? with
      | none =>
        dsimp only
        refine wpS_bind (wpS_modify (wpS_pure ⟨rfl, by dsimp only; trivial, _, _, Stk.push k2 kl (by trivial) (by trivial) hsr hcr rfl rfl rfl (by
          show (((pendingOf st2).push (lo, n, 0)).toList.map two) = _
          rw [Array.toList_push, List.map_append]; rfl), ?_, hasc⟩))
        dsimp only
        rw [List.flatten_append, List.length_append, kl]
        simp
        trivial
      | some q =>
        obtain ⟨s1, n1', w1'⟩ := q
        dsimp only
        refine wpS_bind (wpS_mono (wpS_forRange
          (I := fun x c st' => c = (none, ()) ∧ ∃ segs, Stk O ky ix kd (arrOf st0) st' segs rest2 ∧ segs.flatten.length = lo)
          (Q := fun c st' => c = (none, ()) ∧ ∃ segs, Stk O ky ix kd (arrOf st0) st' segs rest2 ∧ segs.flatten.length = lo) ?sA (fun _ _ z => z) ⟨rfl, segs, k2, kl⟩) ?pA)
        case sA =>
          rintro x' c st3 _ hx' ⟨rfl, segs3, k3, kl3⟩
          have ps := pend_size k3
          refine wpS_bind (wpS_get ?_)
          cases ho : (if (pendingOf st3).size > 1 then (pendingOf st3)[(pendingOf st3).size - 2]? else none) with
          | none => exact wpS_pure ⟨rfl, segs3, k3, kl3⟩
          | some q3 =>
            obtain ⟨u1, u2, older⟩ := q3
            dsimp only
            have hp1 : (pendingOf st3).size > 1 := by
              by_cases z : (pendingOf st3).size > 1
              · exact z
              · rw [if_neg z] at ho; cases ho
            split
            · exact wpS_pure ⟨rfl, segs3, k3, kl3⟩
            · obtain ⟨pre, F, G, post, rfl, hpl⟩ := snoc2 (l := segs3) (i := (pendingOf st3).size - 2) (by trivial) (.inl (by trivial))
              refine wpS_bind (wpS_mergeAt C hS k3 hpl.symm fun st4 M k4 ml => ?_)
              rw [if_neg (by decide)]
              exact wpS_pure ⟨rfl, pre ++ M :: post, k4, by rw [flat_join ml]; exact kl3⟩
        case pA =>
          rintro c st3 ⟨rfl, segs3, k3, kl3⟩
          dsimp only
          refine wpS_bind (wpS_modify ?_)
          refine wpS_bind (wpS_modify (wpS_pure ⟨rfl, by dsimp only; trivial, _, _, Stk.push k3 kl3 (by trivial) (by trivial) hsr hcr rfl rfl rfl (by
            show (((Array.modify (pendingOf st3) ((pendingOf st3).size - 1) _).push (lo, n, 0)).toList.map two) = _
            rw [Array.toList_push, List.map_append, two_modify]; rfl), ?_, hasc⟩))
          dsimp only
          rw [List.flatten_append, List.length_append, kl3]
          simp
          trivial
end
end TT
set_option linter.all false
namespace TS
open PySem PyProof.Rows
section
variable (O : KeyOrd) (ky : Keyed → O.α)
noncomputable def R (p q : Keyed) : Prop := O.kle (ky p) (ky q)
noncomputable def Srt (l : List Keyed) : Prop := l.Pairwise (R O ky)
end
section
variable {prog : Program} {w : World} {A : Around} {E : Value → Shared → Prop} {s : Shared}
variable {kd : SortKind} {O : KeyOrd} {ky : Keyed → O.α} {S : Keyed → Prop}
theorem wpS_sort (C : Cmp prog w A s kd O ky S) {st0 : SortSt} {Q : Unit → SortSt → Prop} (hS : ∀ p ∈ (arrOf st0).toList, S p) (hk : kindOf st0 = kd) (hf : failedOf st0 = none) (hp : pendingOf st0 = #[])
    (h : ∀ st', (arrOf st').Perm (arrOf st0) → failedOf st' = none → Srt O ky (arrOf st').toList → Q () st') : wpS (model prog w) A E s sortRuns' Q st0 :=
  TT.wpS_sort (ix := fun _ => 0) C hS hk hf hp (List.pairwise_iff_getElem.mpr fun _ _ _ _ _ => Nat.le_refl _) fun st' h1 h2 h3 => h st' h1 h2 (h3.imp fun r => r.1)
end
end TS
set_option linter.all false
set_option maxRecDepth 100000
namespace TS
open PySem PyProof.Rows
section
variable {prog : Program} {w : World} {A : Around} {E : Value → Shared → Prop} {s : Shared}
variable {kd : SortKind} {O : KeyOrd} {ky : Keyed → O.α} {S : Keyed → Prop}
noncomputable def Rises (O : KeyOrd) (ky : Keyed → O.α) (l : List Value) : Prop := l.Pairwise fun x y => O.kle (ky (x, x)) (ky (y, y))
theorem out_of {vs : List Value} {xs : Array Keyed} (hp : xs.Perm (pairsOf vs)) (hs : Srt O ky xs.toList) : (xs.map (·.2)).toList.Perm vs ∧ Rises O ky (xs.map (·.2)).toList := by
  have hl : xs.toList.Perm (vs.zip vs) := by rw [← pairsOf_toList]; exact Array.perm_iff_toList_perm.mp hp
  have same : ∀ p ∈ xs.toList, p = (p.2, p.2) := fun p hp' => by
    have e := (mem_zip_self (hl.mem_iff.mp hp')).1
    exact Prod.ext e rfl
  rw [Array.toList_map]
  refine ⟨?_, ?_⟩
  · have q := hl.map (·.2)
    rwa [List.map_snd_zip (Nat.le_refl _)] at q
  · unfold Rises
    rw [List.pairwise_map]
    unfold Srt at hs
    refine List.Pairwise.imp_of_mem ?_ hs
    intro p q h1 h2 r
    have e1 := same p h1
    have e2 := same q h2
    unfold R at r
    rw [e1, e2] at r
    exact r
theorem sort_tree {a : Addr} {vs : List Value} {n : Nat} {P : Fin → Shared → Prop} (ho : s.heap.get? a = some (seqObj "list" vs.toArray n)) (hz : vs.length ≤ sizeLine) (hS : ∀ v ∈ vs, S (v, v))
    (hkk : ∀ s' : Shared, 2 ≤ vs.length → (∀ b o, b ≠ a → s.heap.get? b = some o → s'.heap.get? b = some o) → ∀ Q : SortKind → Shared → Prop, Q kd s' → wpAny (model prog w) A (keyKind' vs.toArray) Q E s')
    (hC : ∀ s' : Shared, (∀ b o, b ≠ a → s.heap.get? b = some o → s'.heap.get? b = some o) → Cmp prog w A s' kd O ky S)
    (h : ∀ out : Array Value, out.toList.Perm vs → Rises O ky out.toList → P (.done (.ret .none)) { s with heap := sortedHeap s.heap a vs out }) :
    wpAny (model prog w) A (Builtin.«list.sort» ⟨[.ref a], []⟩) P E s := by
  have ha : a < s.heap.objs.size := Heap.lt_size ho
  have hsz : vs.toArray.size = vs.length := by simp
  rw [list_sort_plain]
  refine wpAny_bind (listItems_at ho rfl (wpAny_bind (listUpdate_at ho rfl ?_ (by rw [hsz]; exact hz) (Nat.zero_le _))))
  have ho1 := get?_update_seq ho (fun _ => #[])
  generalize hh1 : s.heap.update a (Obj.mapSeq fun _ => #[]) = h1 at ho1 ⊢
  have hs1 : h1.objs.size = s.heap.objs.size := by rw [← hh1, Heap.size_update]
  have k1 : ∀ b o, b ≠ a → s.heap.get? b = some o → h1.get? b = some o := fun b o hb e => by rw [← hh1, Heap.get?_update_ne _ _ _ _ hb]; exact e
  refine wpAny_bind (seqEpoch_at ho1 rfl (wpAny_bind (wpAny_newTuple (wpAny_bind (wpAny_newList (wpAny_holding ?_))) (by show vs.toArray.toList.length ≤ _; exact hz))))
  have ho3 : ((h1.push (seqObj "tuple" vs.toArray 0)).push (seqObj "list" #[] 0)).get? a = some (seqObj "list" #[] _) := Heap.get?_push_of_some _ (Heap.get?_push_of_some _ ho1)
  have k3 : ∀ b o, b ≠ a → s.heap.get? b = some o → ((h1.push (seqObj "tuple" vs.toArray 0)).push (seqObj "list" #[] 0)).get? b = some o := fun b o hb e => Heap.get?_push_of_some _ (Heap.get?_push_of_some _ (k1 b o hb e))
  show wpAny (model prog w) A _ P E { s with heap := (h1.push (seqObj "tuple" vs.toArray 0)).push (seqObj "list" #[] 0) }
  dsimp only
  have fin : ∀ out : Array Value, out.toList.Perm vs → Rises O ky out.toList → P (.done (.ret .none)) { s with heap := ((h1.push (seqObj "tuple" vs.toArray 0)).push (seqObj "list" #[] 0)).update a (Obj.mapSeq fun _ => out) } := fun out p r => by
    have := h out p r
    unfold sortedHeap at this
    rw [hh1] at this
    exact this
  have olen : ∀ out : Array Value, out.toList.Perm vs → out.size ≤ sizeLine + 1 := fun out p => by
    have := p.length_eq
    rw [Array.length_toList] at this
    trivial
  by_cases h2 : vs.toArray.size < 2
  · rw [if_pos h2, if_pos h2]
    refine wpAny_bind (wpAny_pure ?_)
    rw [StateT.run_pure]
    refine wpAny_bind (wpAny_pure ?_)
    have hp : ((vs.toArray.zip vs.toArray).map (·.2)).toList = vs := by simp [List.map_snd_zip]
    dsimp only
    refine wpAny_bind (seqEpoch_at ho3 rfl (wpAny_bind (listUpdate_at ho3 rfl ?_ (Nat.zero_le _) (olen _ (by rw [hp])))))
    simp only [bne_self_eq_false, Bool.false_eq_true, if_false]
    refine wpAny_pure (fin _ (by rw [hp]) ?_)
    rw [hp]
    match vs, hsz ▸ h2 with
    | [], _ => exact List.Pairwise.nil
    | [v], _ => exact List.pairwise_singleton _ _
    | _ :: _ :: _, z => simp at z; trivial
  · rw [if_neg h2, if_neg h2]
    refine wpAny_bind (hkk _ (by trivial) k3 _ ?_)
    refine wpAny_bind (wpAny_mono (wpS_sort (hC _ k3) (st0 := SortSt.mk' kd (vs.toArray.zip vs.toArray) #[] 7 none) (Q := fun _ st' => (arrOf st').Perm (pairsOf vs) ∧ failedOf st' = none ∧ Srt O ky (arrOf st').toList) (fun p hp => ?_) rfl rfl rfl fun st' a1 a2 a3 => ⟨a1, a2, a3⟩) ?_ fun _ _ e => e)
    · have hp' : p ∈ vs.zip vs := by
        have : p ∈ (pairsOf vs).toList := hp
        rwa [pairsOf_toList] at this
      have e := mem_zip_self hp'
      have : p = (p.1, p.1) := Prod.ext rfl e.1.symm
      rw [this]; exact hS _ e.2
    · rintro ⟨⟨⟩, st'⟩ s' ⟨rfl, hp, hf, hs⟩
      obtain ⟨o1, o2⟩ := out_of hp hs
      dsimp only
      refine wpAny_bind (seqEpoch_at ho3 rfl (wpAny_bind (listUpdate_at ho3 rfl ?_ (Nat.zero_le _) (olen _ o1))))
      rw [hf]
      simp only [bne_self_eq_false, Bool.false_eq_true, if_false]
      exact wpAny_pure (fin _ o1 o2)
noncomputable def intOrd : KeyOrd where
  α := Int
  blt := fun a b => decide (a < b)
  irrefl := fun a => by simp
  trans := fun a b c h1 h2 => by simp at *; trivial
  negTrans := fun a b c h => by simp at *; trivial
  total := fun a b h1 h2 => by simp at *; trivial
theorem sorted_gen {r : Value} {V : List Value → Prop} {Q : Value → Shared → Prop} (hz : ∀ vs, V vs → vs.length ≤ sizeLine) (hS : ∀ vs, V vs → ∀ v ∈ vs, S (v, v))
    (hcol : ∀ {E : Value → Shared → Prop} {R : List Value → Shared → Prop}, (∀ (h' : Heap) (tk : Nat) (vs : List Value), V vs → (∀ b o, s.heap.get? b = some o → h'.get? b = some o) → R vs { s with heap := h', toks := tk }) → wpAny (model prog w) A.in1 (collect r) R E s)
    (hkk : ∀ (vs : List Value) (s' : Shared), V vs → 2 ≤ vs.length → (∀ b o, s.heap.get? b = some o → s'.heap.get? b = some o) → ∀ {A : Around} {E : Value → Shared → Prop} {Q : SortKind → Shared → Prop}, Q kd s' → wpAny (model prog w) A (keyKind' vs.toArray) Q E s')
    (hC : ∀ s' : Shared, (∀ b o, s.heap.get? b = some o → s'.heap.get? b = some o) → Cmp prog w A.in1.in1 s' kd O ky S)
    (h : ∀ (h1 h' : Heap) (tk : Nat) (vs : List Value) (out : Array Value) (n : Nat), V vs → (∀ b o, s.heap.get? b = some o → h1.get? b = some o) → (∀ b o, h1.get? b = some o → h'.get? b = some o) → h'.get? h1.objs.size = some (seqObj "list" out n) → out.toList.Perm vs → Rises O ky out.toList → Q (.ref h1.objs.size) { s with heap := h', toks := tk }) :
    wpAny (model prog w) A (call (.builtin "sorted") [r]) Q E s := by
  refine Calls.call_function_entry kind_sorted plain_sorted entry_sorted (args_sorted1 _) ?_
  unfold Builtin.«sorted»
  refine wpAny_bind (m := checkCount "sorted" 1 1 _) (wpAny_pure ?_)
  refine wpAny_bind (hcol fun h' tk vs hV hk => ?_)
  refine wpAny_bind (wpAny_newList ?_ (hz vs hV))
  have hoL : (h'.push (seqObj "list" vs.toArray 0)).get? h'.objs.size = some (seqObj "list" vs.toArray 0) := Heap.get?_push_size _ rfl
  have keep : ∀ s' : Shared, (∀ b o, b ≠ h'.objs.size → (h'.push (seqObj "list" vs.toArray 0)).get? b = some o → s'.heap.get? b = some o) → ∀ b o, s.heap.get? b = some o → s'.heap.get? b = some o := fun s' k b o e =>
    k b o (Nat.ne_of_lt (Heap.lt_size (hk b o e))) (Heap.get?_push_of_some _ (hk b o e))
  refine wpAny_bind (wpAny_holding (wpAny_call_entry slot_list_sort ⟨_, hoL, rfl⟩ entry_list_sort (sort_tree hoL (hz vs hV) (hS vs hV) (fun s' h2 k Q q => hkk vs s' hV h2 (keep s' k) q) (fun s' k => hC s' (keep s' k)) fun out p r => ⟨_, rfl, ?_⟩) (args_list_sort _)))
  refine wpAny_pure ⟨_, rfl, ?_⟩
  have hu := get?_update_seq hoL (fun _ => (#[] : Array Value))
  have hu2 := get?_update_seq (Heap.get?_push_of_some (seqObj "list" #[] 0) (Heap.get?_push_of_some (seqObj "tuple" vs.toArray 0) hu)) (fun _ => out)
  refine h h' (sortedHeap (h'.push (seqObj "list" vs.toArray 0)) h'.objs.size vs out) tk vs out _ hV hk (fun b o e => ?_) hu2 p r
  have hb : b ≠ h'.objs.size := Nat.ne_of_lt (Heap.lt_size e)
  unfold sortedHeap
  rw [Heap.get?_update_ne _ _ _ _ hb]
  refine Heap.get?_push_of_some _ (Heap.get?_push_of_some _ ?_)
  rw [Heap.get?_update_ne _ _ _ _ hb]
  exact Heap.get?_push_of_some _ e
end
end TS
set_option Elab.async false
set_option linter.all false
set_option maxRecDepth 100000
namespace L2
open PySem PySem.Spec PyProof.Rows PySem.W
theorem vals_intsAre : ∀ {ns : List Int} {us : List Value}, Vals (ns.map V.int) us → IntsAre us ns
  | [], _, r => by
    rw [List.map_nil] at r
    cases r; exact .nil
  | n :: ns, _, r => by
    rw [List.map_cons] at r
    cases r with
    | cons h t =>
      obtain ⟨t', rfl⟩ := (show ∃ t, _ = Value.int n t from h)
      exact .cons n t' (vals_intsAre t)
section
variable {X : Cx}
end
end L2
set_option Elab.async false
set_option linter.all false
set_option maxRecDepth 100000
namespace L2
open PySem PySem.Spec PyProof.Rows PySem.W
section
variable {X : Cx} {pins : List (Addr × Obj)} {σ : St} {H : Hp} {s : Shared}
noncomputable abbrev rMax2 : List V → Hp → VK → Prop := fun xs H Q => ∃ i j, xs = [.int i, .int j] ∧ Q (.int (if j > i then j else i)) H
end
end L2
set_option Elab.async false
set_option linter.all false
set_option maxRecDepth 100000
set_option maxHeartbeats 4000000
namespace PH
open PySem L2 PySem.W
theorem boot_sorted' : bootBuiltins "sorted" = some (.builtin "sorted") := by decide +kernel
structure Prs (H : Hp) (p : Addr) (zs : List (Addr × Int × Int)) : Prop where
  at_ : H p = some (.lst (zs.map fun z => V.ref z.1))
  each : ∀ z ∈ zs, H z.1 = some (.tup [.int z.2.1, .int z.2.2])
noncomputable def pD (c : Int × Int) : DV := .tup [.int c.1, .int c.2]
noncomputable def prD (cs : List (Int × Int)) : DV := .lst (cs.map pD)
theorem Prs.same {H H' : Hp} {p : Addr} {zs : List (Addr × Int × Int)} (h : Prs H p zs) (s : Same H H') : Prs H' p zs := ⟨s _ _ h.at_, fun z hz => s _ _ (h.each z hz)⟩
theorem deeps_prs {K : Frag} {H : Hp} : ∀ {zs : List (Addr × Int × Int)}, (∀ z ∈ zs, H z.1 = some (.tup [.int z.2.1, .int z.2.2])) → Deeps K H (zs.map fun z => V.ref z.1) ((zs.map (·.2)).map pD)
  | [], _ => .nil
  | z :: r, h => .cons (.tup (SqT.of (h z List.mem_cons_self)) (.cons (.int _) (.cons (.int _) .nil))) (deeps_prs fun y hy => h y (List.mem_cons_of_mem _ hy))
theorem Prs.deep {K : Frag} {H : Hp} {p : Addr} {zs : List (Addr × Int × Int)} (h : Prs H p zs) : Deep K H (.ref p) (prD (zs.map (·.2))) := .lst (SqL.of h.at_) (deeps_prs h.each)
theorem ht_pD (c : Int × Int) : ht (pD c) ≤ 2 := by
  unfold pD
  rw [ht_tup]
  unfold hts hts hts ht
  decide
theorem hts_pD : ∀ cs : List (Int × Int), hts (cs.map pD) ≤ 2
  | [] => by unfold List.map hts; decide
  | c :: r => by
    rw [List.map_cons]
    unfold hts
    have := ht_pD c
    have := hts_pD r
    trivial
noncomputable def cntD (ks pre : List Int) : List (Key × V) := ks.map fun j => (Sum.inl j, V.int (pre.count j : Int))
theorem valV_cntD {pre : List Int} {k : Int} : ∀ {ks : List Int}, valV (cntD ks pre) (Sum.inl k) = if k ∈ ks then some (.int (pre.count k : Int)) else none
  | [] => rfl
  | j :: r => by
    show valV ((Sum.inl j, V.int (pre.count j : Int)) :: cntD r pre) (Sum.inl k) = _
    by_cases h : j = k
    · subst h
      rw [valV_pos rfl, if_pos List.mem_cons_self]
    · rw [valV_neg (by intro z; exact h (Sum.inl.inj z)), valV_cntD]
      by_cases hk : k ∈ r
      · rw [if_pos hk, if_pos (List.mem_cons_of_mem _ hk)]
      · rw [if_neg hk, if_neg (by intro z; rcases List.mem_cons.mp z with e | e; exact h e.symm; exact hk e)]
theorem count_snoc (pre : List Int) (k j : Int) : ((pre ++ [k]).count j : Int) = (pre.count j : Int) + if j = k then 1 else 0 := by
  rw [List.count_append]
  by_cases h : j = k
  · subst h; simp
  · rw [if_neg h]
    have : List.count j [k] = 0 := by
      rw [List.count_eq_zero]
      simpa using h
    rw [this]; trivial
theorem put_cntD {ks pre : List Int} {k : Int} (hm : ∀ j, j ∈ ks ↔ j ∈ pre) : putK (cntD ks pre) (Sum.inl k) (.int ((pre.count k : Int) + 1)) = cntD (if k ∈ ks then ks else ks ++ [k]) (pre ++ [k]) := by
  by_cases h : k ∈ ks
  · rw [if_pos h]
    unfold putK
    rw [valV_any, valV_cntD, if_pos h, if_pos (show (some (V.int (pre.count k : Int))).isSome = true from rfl)]
    unfold cntD
    rw [List.map_map]
    apply List.map_congr_left
    intro j _
    show (if (Sum.inl j : Key) = Sum.inl k then _ else _) = _
    by_cases e : j = k
    · subst e
      rw [if_pos rfl, count_snoc, if_pos rfl]
    · rw [if_neg (fun z => e (Sum.inl.inj z)), count_snoc, if_neg e, Int.add_zero]
  · rw [if_neg h]
    unfold putK
    rw [valV_any, valV_cntD, if_neg h, if_neg (by simp)]
    unfold cntD
    rw [List.map_append]
    congr 1
    · apply List.map_congr_left
      intro j hj
      have e : ¬ j = k := fun z => h (by rw [← z]; exact hj)
      rw [count_snoc, if_neg e, Int.add_zero]
    · show [_] = [((Sum.inl k : Key), V.int ((pre ++ [k]).count k : Int))]
      rw [count_snoc, if_pos rfl]
theorem ref_at {zs : List (Addr × Int × Int)} {i : Nat} {y : V} (h : (zs.map fun z => V.ref z.1)[i]? = some y) : ∃ z, zs[i]? = some z ∧ y = V.ref z.1 := by
  rw [List.getElem?_map] at h
  cases e : zs[i]? with
  | none => rw [e] at h; cases h
  | some z => rw [e] at h; exact ⟨z, rfl, (Option.some.inj h).symm⟩
end PH
set_option Elab.async false
set_option linter.all false
set_option maxRecDepth 100000
namespace L2
open PySem PySem.Spec PyProof.Rows PySem.W
section
variable {X : Cx}
noncomputable def lexB (a b : Int × Int) : Bool := decide (a.1 < b.1) || (decide (a.1 = b.1) && decide (a.2 < b.2))
noncomputable def lexLe (a b : Int × Int) : Prop := a.1 < b.1 ∨ (a.1 = b.1 ∧ a.2 ≤ b.2)
theorem lexB_iff {a b : Int × Int} : lexB a b = true ↔ a.1 < b.1 ∨ (a.1 = b.1 ∧ a.2 < b.2) := by unfold lexB; simp
theorem lexB_not {a b : Int × Int} : lexB a b = false ↔ lexLe b a := by
  have h := @lexB_iff a b
  cases e : lexB a b with
  | true =>
    have := h.mp e
    constructor
    · intro z; cases z
    · intro z; unfold lexLe at z; trivial
  | false =>
    constructor
    · intro _
      unfold lexLe
      have : ¬ (a.1 < b.1 ∨ (a.1 = b.1 ∧ a.2 < b.2)) := fun z => by rw [h.mpr z] at e; cases e
      trivial
    · intro _; rfl
noncomputable def lexOrd : KeyOrd where
  α := Int × Int
  blt := lexB
  irrefl := fun a => lexB_not.mpr (by unfold lexLe; trivial)
  trans := fun a b c h1 h2 => lexB_iff.mpr (by have := lexB_iff.mp h1; have := lexB_iff.mp h2; trivial)
  negTrans := fun a b c h => by
    rw [lexB_iff, lexB_iff]
    have := lexB_iff.mp h
    trivial
  total := fun a b h1 h2 => by
    have h1 := lexB_not.mp h1
    have h2 := lexB_not.mp h2
    unfold lexLe at h1 h2
    exact Prod.ext (by trivial) (by trivial)
theorem perm_map {α β : Type} (f : α → β) : ∀ {l l' : List β}, l.Perm l' → ∀ zs : List α, l' = zs.map f → ∃ zs' : List α, zs'.Perm zs ∧ l = zs'.map f := by
  intro l l' h
  induction h with
  | nil => intro zs e; exact ⟨zs, List.Perm.refl _, e⟩
  | cons x _ ih =>
    intro zs e
    cases zs with
    | nil => cases e
    | cons z r =>
      injection e with e1 e2
      obtain ⟨r', p, q⟩ := ih r e2
      exact ⟨z :: r', p.cons z, by rw [List.map_cons, e1, q]⟩
  | swap x y t =>
    intro zs e
    match zs, e with
    | z1 :: z2 :: r, e =>
      injection e with e1 e2
      injection e2 with e2 e3
      exact ⟨z2 :: z1 :: r, List.Perm.swap _ _ _, by rw [List.map_cons, List.map_cons, e1, e2, e3]⟩
    | [z], e => simp at e
    | [], e => simp at e
  | trans _ _ ih1 ih2 =>
    intro zs e
    obtain ⟨z2, p2, q2⟩ := ih2 zs e
    obtain ⟨z1, p1, q1⟩ := ih1 z2 q2
    exact ⟨z1, p1.trans p2, q1⟩
noncomputable def pky (zs : List (Addr × Int × Int)) (p : Keyed) : Int × Int := match p.1 with
  | .ref a => ((zs.find? fun z => decide (z.1 = a)).map (·.2)).getD (0, 0)
  | _ => (0, 0)
theorem pky_at {zs : List (Addr × Int × Int)} (same : ∀ z ∈ zs, ∀ y ∈ zs, z.1 = y.1 → z.2 = y.2) {z : Addr × Int × Int} (hz : z ∈ zs) (v : Value) : pky zs (.ref z.1, v) = z.2 := by
  show ((zs.find? fun y => decide (y.1 = z.1)).map (·.2)).getD (0, 0) = z.2
  cases e : zs.find? fun y => decide (y.1 = z.1) with
  | none =>
    have := List.find?_eq_none.mp e z hz
    simp at this
  | some y =>
    have h1 := List.mem_of_find?_eq_some e
    have h2 : y.1 = z.1 := by simpa using List.find?_some e
    exact same y h1 z hz h2
noncomputable def PairAt (h : Heap) (z : Addr × Int × Int) : Prop := ∃ o n t u, h.get? z.1 = some o ∧ o.cls = .type "tuple" ∧ o.data = .seq #[.int z.2.1 t, .int z.2.2 u] n
theorem PairAt.keeps {h h' : Heap} {z : Addr × Int × Int} (p : PairAt h z) (k : ∀ b o, h.get? b = some o → h'.get? b = some o) : PairAt h' z := by
  obtain ⟨o, n, t, u, e, r⟩ := p
  exact ⟨o, n, t, u, k _ _ e, r⟩
theorem katTups_of {h : Heap} : ∀ {zs : List (Addr × Int × Int)}, (∀ z ∈ zs, PairAt h z) → ∃ fs, KatTups h (zs.map fun z => Value.ref z.1) fs ∧ fs.length = zs.length ∧ ∀ v ∈ fs, ∃ n t, v = Value.int n t
  | [], _ => ⟨[], .nil, rfl, fun _ z => by cases z⟩
  | z :: r, hh => by
    obtain ⟨fs, k, l, a⟩ := katTups_of (zs := r) fun y hy => hh y (List.mem_cons_of_mem _ hy)
    obtain ⟨o, n, t, u, e, c, d⟩ := hh z List.mem_cons_self
    refine ⟨Value.int z.2.1 t :: fs, .cons e c d rfl k, by rw [List.length_cons, List.length_cons, l], fun v hv => ?_⟩
    rcases List.mem_cons.mp hv with q | q
    · exact ⟨_, _, q⟩
    · exact a v q
theorem eqBool_int {prog : Program} {w : World} {A : Around} {E : Value → Shared → Prop} {s : Shared} {a b : Int} {t u : Tok} {Q : Bool → Shared → Prop} (h : Q (decide (a = b)) s) : wpAny (model prog w) A (eqBool (.int a t) (.int b u)) Q E s := wpAny_eqBool_int (by rw [show (a == b) = decide (a = b) from Bool.beq_eq_decide_eq a b]; exact h)
theorem oneLt_any {prog : Program} {w : World} {A : Around} {E : Value → Shared → Prop} {s : Shared} {b : Bool} {x y : Int} {t u : Tok} {Q : Bool → Shared → Prop} (h : Q (decide (x < y)) s) : wpAny (model prog w) A (oneLt' b (.int x t) (.int y u)) Q E s := by
  cases b with
  | true => exact oneLt_int h
  | false => exact kat_one _ _ (lt_int h)
theorem cmp_pair {prog : Program} {w : World} {A : Around} {s : Shared} {zs : List (Addr × Int × Int)} {b : Bool} (same : ∀ z ∈ zs, ∀ y ∈ zs, z.1 = y.1 → z.2 = y.2) (hh : ∀ z ∈ zs, PairAt s.heap z) : TS.Cmp prog w A s (tuples' b) lexOrd (pky zs) (fun p => ∃ z ∈ zs, p.1 = .ref z.1) where
  lt := fun p q ⟨z, hz, e1⟩ ⟨y, hy, e2⟩ {E Q} h => by
    obtain ⟨p1, p2⟩ := p
    obtain ⟨q1, q2⟩ := q
    dsimp only at e1 e2
    subst e1 e2
    rw [pky_at same hz, pky_at same hy] at h
    obtain ⟨o, n, t, u, g1, _, d1⟩ := hh z hz
    obtain ⟨o', n', t', u', g2, _, d2⟩ := hh y hy
    refine kat_lt g1 d1 g2 d2 ?_
    show KatLex prog w A b _ Q [(.int z.2.1 t, .int y.2.1 t'), (.int z.2.2 u, .int y.2.2 u')] 0 s
    have hb : lexOrd.blt z.2 y.2 = lexB z.2 y.2 := rfl
    rw [hb] at h
    unfold lexB at h
    refine kat_cons (eqBool_int ?_)
    by_cases c : z.2.1 = y.2.1
    · rw [decide_eq_true c]
      refine kat_yes (kat_cons (eqBool_int ?_))
      rw [decide_eq_false (show ¬ z.2.1 < y.2.1 by trivial), decide_eq_true c, Bool.false_or, Bool.true_and] at h
      by_cases c2 : z.2.2 = y.2.2
      · rw [decide_eq_true c2]
        refine kat_yes (kat_nil ?_)
        rw [decide_eq_false (show ¬ z.2.2 < y.2.2 by trivial)] at h
        exact h
      · rw [decide_eq_false c2]
        exact kat_no (oneLt_any h)
    · rw [decide_eq_false c]
      rw [decide_eq_false c, Bool.false_and, Bool.or_false] at h
      exact kat_no (oneLt_any h)
noncomputable def rSortT (K : Frag) : List V → Hp → VK → Prop := fun xs H Q => ∃ (p : Addr) (zs : List (Addr × Int × Int)), xs = [.ref p] ∧ SqL K H p (zs.map fun z => V.ref z.1) ∧ (∀ z ∈ zs, SqT K H z.1 [.int z.2.1, .int z.2.2]) ∧
  ∀ (zs' : List (Addr × Int × Int)) (q : Addr), zs'.Perm zs → (zs'.map (·.2)).Pairwise lexLe → H q = none → Q (.ref q) (upd H q (.lst (zs'.map fun z => V.ref z.1)))
theorem vals_refs : ∀ {zs : List (Addr × Int × Int)} {us : List Value}, Vals (zs.map fun z => V.ref z.1) us → us = zs.map fun z => Value.ref z.1
  | [], _, r => by
    rw [List.map_nil] at r
    cases r; rfl
  | z :: zs, _, r => by
    rw [List.map_cons] at r
    cases r with
    | cons h t =>
      have h' : _ = Value.ref z.1 := h
      rw [h', vals_refs t]; rfl
theorem refs_vals : ∀ (zs : List (Addr × Int × Int)), Vals (zs.map fun z => V.ref z.1) (zs.map fun z => Value.ref z.1)
  | [] => .nil
  | z :: zs => .cons rfl (refs_vals zs)
theorem call_sortedT : CallR X (.builtin "sorted") (rSortT X.K) := by
  intro pins s σ H xs us Q I r h
  obtain ⟨a, zs, rfl, hq, hz, q⟩ := h
  obtain ⟨u, rfl, rx⟩ := vals1 r
  cases rx
  obtain ⟨its, r', pl, hzl⟩ := I.list hq
  obtain ⟨o, ho, hcl, n, hd⟩ := pl.isList
  have hits := vals_refs r'
  subst hits
  rw [List.length_map] at hzl
  have hpa : ∀ z ∈ zs, PairAt s.heap z := fun z hm => by
    obtain ⟨its2, rv, ⟨o2, e2, c2, n2, d2⟩, _⟩ := I.tuple (hz z hm)
    cases rv with
    | cons h1 t1 =>
      cases t1 with
      | cons h2 t2 =>
        cases t2
        obtain ⟨t, rfl⟩ := (show ∃ t, _ = Value.int z.2.1 t from h1)
        obtain ⟨u, rfl⟩ := (show ∃ t, _ = Value.int z.2.2 t from h2)
        exact ⟨o2, n2, t, u, e2, c2, d2⟩
  have same : ∀ z ∈ zs, ∀ y ∈ zs, z.1 = y.1 → z.2 = y.2 := fun z h1 y h2 e => by
    have e1 := hz z h1
    have e2 := hz y h2
    rw [← e] at e2
    have := I.tuple_inj e1 e2
    injection this with a1 a2
    injection a1 with a1
    injection a2 with a2 _
    injection a2 with a2
    exact Prod.ext a1 a2
  refine TS.sorted_gen (kd := tuples' (Value.type "int" != Value.type "tuple")) (O := lexOrd) (ky := pky zs) (S := fun p => ∃ z ∈ zs, p.1 = .ref z.1) (V := fun vs => vs = zs.map fun z => Value.ref z.1)
    (fun vs e => by rw [e, List.length_map]; exact hzl) (fun vs e v hv => ?_) (fun {E R} k => ?_) (fun vs s' e h2 kp {A' E' Q'} qq => ?_) (fun s' kp => cmp_pair same fun z hm => (hpa z hm).keeps kp) (fun h1 h' tk vs out n e k1 k2 g p rr => ?_)
  · rw [e] at hv
    obtain ⟨z, hm, rfl⟩ := List.mem_map.mp hv
    exact ⟨z, hm, rfl⟩
  · exact wpAny_collect_seq a (.inl rfl) ho hcl hd (fun h' kp => by have := k h' s.toks _ rfl kp; simpa using this) (by simp; trivial)
  · rw [e]
    obtain ⟨fs, f1, f2, f3⟩ := katTups_of (h := s'.heap) fun z hm => (hpa z hm).keeps kp
    refine kat_kind (T := .type "int") f1 (by rw [f2]; rw [e, List.length_map] at h2; trivial) (fun v hv => ?_) (by rfl) qq
    obtain ⟨m, t, rfl⟩ := f3 v hv
    exact .now
  · subst e
    obtain ⟨zs', p1, p2⟩ := perm_map (fun z : Addr × Int × Int => Value.ref z.1) p zs rfl
    have I1 : Inv X pins σ H { s with heap := h1 } := I.kept (t' := s.toks) k1
    refine ⟨.ref h1.objs.size, _, I1.laid (a := h1.objs.size) (o := .lst (zs'.map fun z => V.ref z.1)) (t' := tk) k2 (Nat.le_refl _) ?_, rfl, q zs' _ p1 ?_ (I1.hok.fresh (Nat.le_refl _))⟩
    · refine ⟨by rw [List.length_map, p1.length_eq]; exact hzl, _, n, refs_vals zs', ?_⟩
      rw [← p2, Array.toArray_toList]; exact g
    · unfold TS.Rises at rr
      rw [p2, List.pairwise_map] at rr
      rw [List.pairwise_map]
      refine List.Pairwise.imp_of_mem ?_ rr
      intro x y hx hy hk
      have hx' := p1.mem_iff.mp hx
      have hy' := p1.mem_iff.mp hy
      have hk' : lexB (pky zs (.ref y.1, .ref y.1)) (pky zs (.ref x.1, .ref x.1)) = false := hk
      rw [pky_at same hx', pky_at same hy'] at hk'
      exact lexB_not.mp hk'
end
end L2
set_option linter.all false
namespace PH
open L2
theorem lexLe_trans {a b c : Int × Int} (h1 : lexLe a b) (h2 : lexLe b c) : lexLe a c := by unfold lexLe at *; trivial
theorem lexLe_anti {a b : Int × Int} (h1 : lexLe a b) (h2 : lexLe b a) : a = b := by
  unfold lexLe at *
  exact Prod.ext (by trivial) (by trivial)
theorem lexLe_refl (a : Int × Int) : lexLe a a := by unfold lexLe; trivial
theorem lexLe_total (a b : Int × Int) : lexLe a b ∨ lexLe b a := by unfold lexLe; trivial
theorem sorted_unique : ∀ {a b : List (Int × Int)}, a.Perm b → a.Pairwise lexLe → b.Pairwise lexLe → a = b
  | [], b, p, _, _ => by
    have := p.length_eq
    cases b with
    | nil => rfl
    | cons _ _ => simp at this
  | x :: xs, [], p, _, _ => by have := p.length_eq; simp at this
  | x :: xs, y :: ys, p, ha, hb => by
    obtain ⟨a1, a2⟩ := List.pairwise_cons.mp ha
    obtain ⟨b1, b2⟩ := List.pairwise_cons.mp hb
    have hx : x = y := by
      have m1 : x ∈ y :: ys := p.mem_iff.mp List.mem_cons_self
      have m2 : y ∈ x :: xs := p.mem_iff.mpr List.mem_cons_self
      have l1 : lexLe x y := by
        rcases List.mem_cons.mp m2 with e | e
        · rw [e]; exact lexLe_refl _
        · exact a1 y e
      have l2 : lexLe y x := by
        rcases List.mem_cons.mp m1 with e | e
        · rw [e]; exact lexLe_refl _
        · exact b1 x e
      exact lexLe_anti l1 l2
    subst hx
    rw [sorted_unique (List.Perm.cons_inv p) a2 b2]
noncomputable def srt (T : List (Int × Int)) : List (Int × Int) := T.mergeSort fun a b => !lexB b a
theorem srt_perm (T : List (Int × Int)) : (srt T).Perm T := List.mergeSort_perm _ _
theorem srt_sorted (T : List (Int × Int)) : (srt T).Pairwise lexLe := by
  have h := List.pairwise_mergeSort (le := fun a b => !lexB b a) (fun a b c h1 h2 => by
    simp only [Bool.not_eq_true'] at h1 h2 ⊢
    exact lexB_not.mpr (lexLe_trans (lexB_not.mp h1) (lexB_not.mp h2))) (fun a b => by
    simp only [Bool.or_eq_true, Bool.not_eq_true']
    rcases lexLe_total a b with h | h
    · exact .inl (lexB_not.mpr h)
    · exact .inr (lexB_not.mpr h)) T
  refine List.Pairwise.imp (fun {a b} q => ?_) h
  simp only [Bool.not_eq_true'] at q
  exact lexB_not.mp q
theorem srt_eq {S T : List (Int × Int)} (p : S.Perm T) (h : S.Pairwise lexLe) : S = srt T := sorted_unique (p.trans (srt_perm T).symm) h (srt_sorted T)
theorem srt_len (T : List (Int × Int)) : (srt T).length = T.length := (srt_perm T).length_eq
noncomputable def swp (p : Int × Int) : Int × Int := (p.2, p.1)
noncomputable def things (js : List (Int × Int)) : List Int := js.flatMap fun p => [p.1, p.2]
end PH
set_option Elab.async false
set_option linter.all false
set_option maxRecDepth 100000
set_option maxHeartbeats 4000000
namespace PH
open PySem L2 PySem.W
theorem Prs.ne {H : Hp} {p : Addr} {zs : List (Addr × Int × Int)} (h : Prs H p zs) {q : Addr} {xs : List V} (hq : H q = some (.lst xs)) : ∀ z ∈ zs, z.1 ≠ q := fun z hz e => by
  have := h.each z hz
  rw [e, hq] at this
  cases this
theorem Prs.app {H : Hp} {p t : Addr} {zs : List (Addr × Int × Int)} {a b : Int} (h : Prs H p zs) (ht : H t = some (.tup [.int a, .int b])) : Prs (upd H p (.lst ((zs.map fun z => V.ref z.1) ++ [V.ref t]))) p (zs ++ [(t, a, b)]) := by
  have n1 := h.ne h.at_
  have n2 : t ≠ p := fun e => by rw [e, h.at_] at ht; cases ht
  refine ⟨by rw [upd_same, List.map_append]; rfl, fun z hz => ?_⟩
  rcases List.mem_append.mp hz with q | q
  · rw [upd_ne (n1 z q)]; exact h.each z q
  · have : z = (t, a, b) := by simpa using q
    subst this
    rw [upd_ne n2]; exact ht
theorem Prs.other {H : Hp} {p q : Addr} {zs : List (Addr × Int × Int)} {xs ys : List V} (h : Prs H p zs) (hq : H q = some (.lst xs)) (hne : p ≠ q) : Prs (upd H q (.lst ys)) p zs := ⟨by rw [upd_ne hne]; exact h.at_, fun z hz => by rw [upd_ne (h.ne hq z hz)]; exact h.each z hz⟩
end PH
set_option Elab.async false
set_option linter.all false
set_option maxRecDepth 100000
set_option maxHeartbeats 4000000
namespace PH
open PySem L2 PySem.W
theorem cutv_to (xs : List V) (k : Nat) : cutV xs none (some (k : Int)) = xs.take k := by
  unfold cutV
  rw [HT.sIx_none, HT.sIx_nat, List.drop_zero, Nat.sub_zero]
  rcases Nat.le_total k xs.length with h | h
  · rw [Nat.min_eq_left h]
  · rw [Nat.min_eq_right h, List.take_of_length_le (Nat.le_refl _), List.take_of_length_le h]
theorem at_refs {zs : List (Addr × Int × Int)} {i : Nat} {z : Addr × Int × Int} (h : zs[i]? = some z) : atI (zs.map fun z => V.ref z.1) (i : Int) = some (.ref z.1) := atI_nat (by rw [List.getElem?_map, h]; rfl)
theorem ixN_nat {n k : Nat} (h : k < n) : ixN n (k : Int) = some k := by
  unfold ixN
  rw [if_pos (by trivial), if_pos (by trivial)]; rfl
theorem at_ints {ns : List Int} {i : Nat} {z : Int} (h : ns[i]? = some z) : atI (ns.map V.int) (i : Int) = some (.int z) := atI_nat (by rw [List.getElem?_map, h]; rfl)
noncomputable def RiseC (cs : List (Int × Int)) : Prop := (cs.map (·.1)).Pairwise (· < ·) ∧ ∀ c ∈ cs, 0 ≤ c.1 ∧ c.1 ≤ 255 ∧ 1 ≤ c.2
end PH
set_option Elab.async false
set_option linter.all false
set_option maxRecDepth 100000
namespace L2
open PySem PySem.Spec PyProof.Rows
theorem ps_setC {X : Cx} {elt tg iter : Expr} {ifs : List Expr} {scope : Scope} {pos : Pos} {N : List Str} {js : List (Option Nat)} {wi : TI} {g : TG} {tc : TT} {te : TE} {y : Str} {iy : Nat} {py spos : Pos} (hN : X.N.Nodup) (hiy : X.N[iy]? = some y) (hy : X.env.scope.names.lookup y = some .local) (hcalm : X.calm = true) (S : CompScope X N js scope)
    (hi : PI X tg iter wi) (hg : ∀ C s H fp, PG (compCx X N scope C s H fp) tg g) (ht : ∀ C s H fp, PIfs (compCx X N scope C s H fp) ifs tc) (he : ∀ C s H fp, PE (compCx X N scope C s H fp) elt te)
    (hs : ∀ x, foldedSetIterable iter X.env x = pure x := by intro _; rfl) (hsw : swapsWith (.ListComp elt [⟨tg, iter, ifs, 0⟩] scope pos) (some (.Name y py)) spos.line X.env = pure true := by rfl) :
    PS X (.Assign [.Name y py] (.ListComp elt [⟨tg, iter, ifs, 0⟩] scope pos) spos) (tAsg (tComp js wi g tc te) (gName iy)) := by
  intro pins s σ H ED I h
  have hc : ∀ x ∈ scope.names, x.2 = .free → ∃ c, X.env.cells.lookup x.1 = some c := fun x hx e => I.ok.has _ (S.free x hx e)
  rw [exec_Assign_Name_used _ _ _ _ hsw]
  refine wpAny_bind (wpAny_standAt (wpAny_bind ?_))
  show wpAny _ X.A (do let _ ← comprehension (.ListComp elt [⟨tg, iter, ifs, 0⟩] scope pos) scope X.env _ (newList []) false (eval iter X.env) (some (assign (.Name y py) X.env))) _ _ s
  refine wpAny_bind (wpAny_mono (Q := fun _ s' => SP X pins ED .next s') ?_ (fun _ s' hq => wpAny_pure (wpAny_pure hq)) fun _ _ e => e)
  refine wpAny_comprehension_free (use := some (assign (.Name y py) X.env)) rfl hs (clos_eq hc) S.kind S.locs (thn (hi pins s σ H _ I h) fun v s1 h1 => thn h1 fun itv s2 h2 => ?_)
  obtain ⟨it, fp, tn, J, H2, e, I2, T, st2, f2, q⟩ := h2
  subst e
  refine wpAny_newObj_type (wpAny_newFunctionEnv S.nocell (by intro y hy; simp at hy) (fun h₁ hns₁ hsb₁ => ?_) S.kind)
  dsimp only at hns₁ hsb₁ ⊢
  generalize hH2 : s2.heap.push { cls := .type "list", dict := none, data := .seq ([] : List Value).toArray } = G2 at hns₁ hsb₁ ⊢
  have hC : G2.objs.size = s2.heap.objs.size + 1 := by rw [← hH2, Heap.size_push]
  have hDC : s2.heap.objs.size ≠ G2.objs.size := by rw [hC]; exact Nat.ne_of_lt (Nat.lt_succ_self _)
  have hC0 : s2.heap.objs.size ≤ G2.objs.size := by rw [hC]; exact Nat.le_succ _
  have below : ∀ b, b < s2.heap.objs.size → b ≠ G2.objs.size := fun b hb => by rw [hC]; exact Nat.ne_of_lt (Nat.lt_succ_of_lt hb)
  have old : ∀ b o, s2.heap.get? b = some o → h₁.get? b = some o := fun b o e => hsb₁.extBut b o (below b (Heap.lt_size e)) (Heap.get?_push_of_some _ (hH2 ▸ Heap.get?_push_of_some _ e))
  have hacc : h₁.get? s2.heap.objs.size = some { cls := .type "list", data := .seq ([] : List Value).toArray } := hsb₁.extBut _ _ hDC (Heap.get?_push_of_some _ (hH2 ▸ Heap.get?_push_size _ rfl))
  have hfp : ∀ b ∈ fp, b < s2.heap.objs.size := fun b hb => by obtain ⟨o, e, _⟩ := T.obj 0 _ st2 b hb; exact Heap.lt_size e
  obtain ⟨W, ⟨m0, w0⟩, turn⟩ := q s2.heap.objs.size (I2.hok.fresh (Nat.le_refl _))
  have stat : ∀ {H' : Hp}, (∀ b ∈ fp, H' b = none) → ∀ b ∈ fp, FpOk (compCx X N scope G2.objs.size s2 H2 fp) [] H' b := fun {H'} hn b hb =>
    ⟨hn b hb, below b (hfp b hb), fun z => by
      rcases List.mem_cons.mp (I2.stkSub b z) with q | q
      · exact (f2 b hb).2.1 q
      · exact (f2 b hb).2.2.1 q, .inl hb, fun x c e => (f2 b hb).2.2.2.2.1 x c (clos_sub _ _ (fun _ _ z => by simp at z) e), fun p hp => absurd hp (by simp [compCx])⟩
  have loop : ∀ s3 : Shared, s3 = { s2 with heap := h₁, toks := s2.toks + ([] : List (Str × Value)).length } →
      codeAny (model X.prog X.w) X.A (.compLoop (.ListComp elt [⟨tg, iter, ifs, 0⟩] scope pos) 0 (.ref it) (.ref s2.heap.objs.size) (compEnvC scope (clos X.env.cells scope.names []) G2.objs.size X.env))
        (compPost (model X.prog X.w) X.A X.xe (some (assign (.Name y py) X.env)) (fun _ s' => SP X pins ED .next s') (.ref s2.heap.objs.size) G2.objs.size) s3 := by
    rintro s3 rfl
    have I3 : Inv (compCx X N scope G2.objs.size s2 H2 fp) [] (innerSt js σ) (upd H2 s2.heap.objs.size (.lst [])) { s2 with heap := h₁, toks := s2.toks + ([] : List (Str × Value)).length } :=
      inv_comp S I2 f2 hfp old (Nat.le_refl _) hC0 hDC ⟨_, hacc⟩ hns₁
    refine compLoop_gen (fun n s' => ∃ i σ' H', Inv (compCx X N scope G2.objs.size s2 H2 fp) [] σ' H' s' ∧ tn i s'.heap ∧ (∀ b ∈ fp, H' b = none) ∧ W i n σ' H') ?_ m0
      ⟨0, _, _, I3, T.keep 0 _ _ st2 fun b _ o e => old b o e, fun b hb => by rw [upd_ne (Nat.ne_of_lt (hfp b hb))]; exact (f2 b hb).1, w0⟩
    rintro n s4 ⟨i, σ4, H4, I4, st4, fr4, w4⟩
    rcases turn i n σ4 H4 w4 with ⟨stop, qn⟩ | ⟨go, step⟩
    · refine thn (T.done (compCx X N scope G2.objs.size s2 H2 fp) rfl rfl rfl hcalm i [] s4 σ4 H4 (fun _ _ => False) I4 (stat fr4) st4 stop) fun r s5 ⟨hr, I5⟩ => ?_
      subst hr
      obtain ⟨m5, n5, _⟩ := I5.loc
      have hos : s5.os = s2.os := I5.os
      obtain ⟨hh, gg, dd, tt, os5⟩ := s5
      obtain rfl : os5 = s2.os := hos
      have sb : Heap.SameBut G2.objs.size hh hh := ⟨rfl, fun _ _ => rfl⟩
      have un : Un (frs X.stack) fp H2 H4 s2.heap hh := by
        have u := I5.base
        have nC : ∀ b o, s2.heap.get? b = some o → b ≠ G2.objs.size := fun b o e => below b (Heap.lt_size e)
        exact ⟨fun b o e n hf hx => sb.extBut b o (nC b o e) (u.keep b o e n hf hx), fun b o e n hf hx => by
            obtain ⟨sl, z⟩ := u.slot b o e n hf hx
            exact ⟨sl, sb.extBut b _ (nC b o e) z⟩, u.free, fun b o e hx => by
            obtain ⟨o', z⟩ := u.there b o e hx
            exact ⟨o', sb.extBut b _ (nC b o e) z⟩, u.tups, u.frzs, u.tbls⟩
      have hok : HOk X.prog X.w H4 hh := fun b ob e => (I5.hok b ob e).stay (fun c v hcv z => sb.extBut c v (fun q => by
        rcases hcv with hcv | hcv
        · rw [← hcv, q] at e
          have := I5.free
          have this' : H4 G2.objs.size = none := this
          rw [e] at this'; cases this'
        · rw [q] at hcv
          have this' : H4 G2.objs.size = none := I5.free
          rw [hcv] at this'; cases this') z) (fun _ z => z) fun _ _ z => z
      have IE := I2.call (h' := hh) (g' := gg) (d' := dd) (t' := tt) (ch := fp) un hok I5.bare fun b hb => ⟨(f2 b hb).2.2.2.1, (f2 b hb).2.1, (f2 b hb).2.2.2.2.1, (f2 b hb).2.2.2.2.2⟩
      have hCf : H4 G2.objs.size = none := I5.free
      have hCL : G2.objs.size ≠ X.env.locals := Ne.symm (below _ I2.lt)
      have hCc : ∀ x c, X.env.cells.lookup x = some c → c ≠ G2.objs.size := fun x c e => by
        obtain ⟨v', o', e', _⟩ := I2.cell x c e
        exact below _ (Heap.lt_size e')
      refine wpAny_assign_Name (store_ok2 IE hN hiy (.inl hy) (show RelV (.ref s2.heap.objs.size) (.ref s2.heap.objs.size) from rfl) (fun s6 I6 ⟨a6, sb6, ha6⟩ => ?_) (.inr hy))
      have nea : G2.objs.size ≠ a6 := by
        rcases ha6 with z | z
        · rw [z]; exact hCL
        · exact Ne.symm (hCc _ _ z)
      refine ⟨m5, n5.sameBut sb6 nea, fun h' sb' => ⟨_, H4, ?_, qn⟩⟩
      have := I6.turned (h' := h') (t' := s6.toks) (it := G2.objs.size) (fun b o ne e => (sb'.2 b ne).trans e) hCf hCL (.inr (Nat.le_trans I2.sz hC0)) hCc (fun p hp => below _ (Heap.lt_size (I2.pin p hp).1))
      exact this
    · refine thn (T.item (compCx X N scope G2.objs.size s2 H2 fp) rfl rfl rfl hcalm i [] s4 σ4 H4 (fun _ _ => False) I4 (stat fr4) st4 go) fun r s5 ⟨u, hr, h5⟩ => ?_
      subst hr
      refine thn h5 fun _ s6 ⟨x, H6, I6, r6, y6, st6, fr6⟩ => ?_
      have I6' := I6.pinned (stat fr6) (T.obj _ _ st6)
      refine thn (hg _ _ _ _ _ s6 σ4 H6 x u _ I6' r6 (step x H6 y6)) fun _ s7 ⟨σ7, H7, I7, q7⟩ => ?_
      refine thn (ht _ _ _ _ _ s7 σ7 H7 _ I7 q7) fun b s8 ⟨H8, I8, q8⟩ => ?_
      have again : ∀ {s9 : Shared} {H9 : Hp}, Inv (compCx X N scope G2.objs.size s2 H2 fp) ([] ++ pinsAt fp s6.heap) σ7 H9 s9 → (∃ m', m' < n ∧ W (i + 1) m' σ7 H9) → ∃ m, m < n ∧ ∃ i σ' H', Inv (compCx X N scope G2.objs.size s2 H2 fp) [] σ' H' s9 ∧ tn i s9.heap ∧ (∀ b ∈ fp, H' b = none) ∧ W i m σ' H' := fun {s9 H9} I9 ⟨m', hm, w9⟩ => by
        refine ⟨m', hm, i + 1, σ7, H9, I9.unpinned, T.keep _ _ _ st6 fun b hb o e => (I9.pin (b, o) (List.mem_append_right _ (List.mem_append_right _ (mem_pinsAt hb e)))).1, fun b hb => ?_, w9⟩
        obtain ⟨o, e, d⟩ := T.obj _ _ st6 b hb
        exact (I9.pin (b, o) (List.mem_append_right _ (List.mem_append_right _ (mem_pinsAt hb e)))).2.1
      cases b with
      | false =>
        rw [if_neg Bool.false_ne_true] at q8 ⊢
        exact again I8 q8
      | true =>
        rw [if_pos rfl] at q8 ⊢
        refine thn (he _ _ _ _ _ s8 σ7 H8 _ I8 q8) fun xv s9 ⟨xx, H9, I9, r9, q9⟩ => ?_
        refine thn (mt_append _ s9 σ7 H9 (.ref s2.heap.objs.size) [xx] (.ref s2.heap.objs.size) [xv] _ I9 rfl (.cons r9 .nil) q9) fun _ s10 ⟨_, H10, I10, _, q10⟩ => ?_
        exact again I10 q10
  exact codeAny_compStart_list (loop _ rfl) (T.self _ _ _ _ _ (T.keep 0 _ _ st2 fun b _ o e => old b o e) (loop _ rfl))
end L2
set_option Elab.async false
set_option linter.all false
set_option maxRecDepth 100000
set_option maxHeartbeats 4000000
namespace PH
open PySem L2 PySem.W
theorem RiseC.app {cs : List (Int × Int)} {s m : Int} (h : RiseC cs) (hs : ∀ c ∈ cs, c.1 < s) (h0 : 0 ≤ s) (h1 : s ≤ 255) (hm : 1 ≤ m) : RiseC (cs ++ [(s, m)]) := by
  refine ⟨?_, fun c hc => ?_⟩
  · rw [List.map_append, List.pairwise_append]
    refine ⟨h.1, List.pairwise_singleton _ _, fun a ha b hb => ?_⟩
    obtain ⟨c, hc, rfl⟩ := List.mem_map.mp ha
    have : b = s := by simpa using hb
    rw [this]; exact hs c hc
  · rcases List.mem_append.mp hc with q | q
    · exact h.2 c q
    · have : c = (s, m) := by simpa using q
      subst this
      exact ⟨h0, h1, hm⟩
theorem Dks.take {ps : List Addr} {D D2 : Addr} {H : Hp} {k : Nat} (h : Dks ps D H) (h2 : H D2 = none) : Dks (ps.take k) D2 (upd H D2 (.lst ((ps.take k).map V.ref))) := ⟨upd_same, fun p hp => by
  obtain ⟨_, a, b, c, e⟩ := h.each p (List.mem_of_mem_take hp)
  have n := ne_of_none e h2
  exact ⟨n, a, b, c, by rw [upd_ne n]; exact e⟩⟩
end PH
set_option Elab.async false
set_option linter.all false
set_option maxRecDepth 100000
namespace L2
open PySem PySem.Spec PyProof.Rows PySem.W
section
variable {X : Cx}
theorem boot_all' : bootBuiltins "all" = some (.builtin "all") := by decide +kernel
noncomputable def rAll (K : Frag) : List V → Hp → VK → Prop := fun xs H Q => ∃ (p : Addr) (bs : List Bool), xs = [.ref p] ∧ SqL K H p (bs.map V.bl) ∧ Q (.bl (bs.all id)) H
theorem bl_at {bs : List Bool} {us : List Value} (r : Vals (bs.map V.bl) us) : us = bs.map Value.bool := by
  induction bs generalizing us with
  | nil => cases r; rfl
  | cons b t ih =>
    cases r with
    | cons h t' =>
      rw [ih t']
      cases h
      rfl
theorem range_allB : ∀ (bs : List Bool), ((List.range bs.length).all fun i => (bs[i]?).getD true) = bs.all id := fun bs => by
  rw [Bool.eq_iff_iff, List.all_eq_true, List.all_eq_true]
  constructor
  · intro h b hb
    obtain ⟨i, hi, e⟩ := List.mem_iff_getElem.mp hb
    have := h i (List.mem_range.mpr hi)
    rw [List.getElem?_eq_getElem hi, e] at this
    exact this
  · intro h i hi
    have hi := List.mem_range.mp hi
    rw [List.getElem?_eq_getElem hi]
    exact h _ (List.getElem_mem hi)
theorem call_allL (hc : X.calm = true) : CallR X (.builtin "all") (rAll X.K) := by
  intro pins s σ H xs us Q I r h
  obtain ⟨p, bs, rfl, hs, q⟩ := h
  obtain ⟨u, rfl, ru⟩ := r.one
  cases ru
  obtain ⟨its, rv, pl, hz⟩ := I.list hs
  have e := bl_at rv
  subst e
  have hl := pl.isList
  have hlt : p < s.heap.objs.size := by obtain ⟨_, e, _⟩ := hl; exact Heap.lt_size e
  refine call_all_walk (wpAny_pyIter_list hl ?_)
  refine ⟨s.heap.objs.size, [s.heap.objs.size, p], [s.heap.objs.size], (bs.map Value.bool).toArray.size, _, _, fun i => (bs[i]?).getD true, rfl, Walks.list (A := X.A.in1) (I.ok.hd hc) _ p (Nat.ne_of_lt hlt) (bs.map Value.bool).toArray,
    ⟨⟨_, Heap.get?_push_size _ rfl, rfl, rfl⟩, hl.push _⟩, fun i v s' Q' E' hP hQ => ?_, fun h' tk hk => ?_⟩
  · have hP' : (bs.map Value.bool)[i]? = some v := by simpa using hP
    rw [List.getElem?_map] at hP'
    cases eb : bs[i]? with
    | none => rw [eb] at hP'; cases hP'
    | some b =>
      rw [eb] at hP'
      cases hP'
      simp only [eb, Option.getD_some] at hQ
      exact wpAny_truthy_bool hQ
  · have e : ((List.range (bs.map Value.bool).toArray.size).all fun i => (bs[i]?).getD true) = bs.all id := by
      rw [List.size_toArray, List.length_map]; exact range_allB bs
    rw [e]
    exact ⟨.bl _, H, I.kept (h' := h') (t' := tk) (fun b x e => hk b x (fun hm => by rw [List.mem_singleton.mp hm] at e; exact Nat.lt_irrefl _ (Heap.lt_size e)) (Heap.get?_push_of_some _ e)), rfl, q⟩
end
end L2
set_option Elab.async false
set_option linter.all false
set_option maxRecDepth 100000
set_option maxHeartbeats 4000000
namespace PH
open PySem L2 PySem.W
theorem trueT {A B : Hp → Prop} {σ : St} {H : Hp} (h : A H) : tTrue σ H (fun b H4 => if b = true then A H4 else B H4) := by
  show if true = true then A H else B H
  exact iteT h
noncomputable def riseB : Int → List (Int × Int) → Bool
  | _, [] => true
  | a, c :: r => decide (a < c.1) && decide (c.1 ≤ 255) && riseB c.1 r
theorem riseB_step {cs : List (Int × Int)} {k : Nat} {c : Int × Int} (h : cs[k]? = some c) (a : Int) : riseB a (cs.drop k) = (decide (a < c.1) && decide (c.1 ≤ 255) && riseB c.1 (cs.drop (k + 1))) := by
  obtain ⟨hk, hv⟩ := List.getElem?_eq_some_iff.mp h
  rw [List.drop_eq_getElem_cons hk, hv]
  rfl
theorem riseB_of : ∀ {cs : List (Int × Int)} {a : Int}, RiseC cs → (∀ c ∈ cs, a < c.1) → riseB a cs = true
  | [], _, _, _ => rfl
  | c :: r, a, h, ha => by
    have h1 := ha c List.mem_cons_self
    have h2 := (h.2 c List.mem_cons_self).2.1
    have hp := List.pairwise_cons.mp h.1
    have := riseB_of (cs := r) (a := c.1) ⟨hp.2, fun x hx => h.2 x (List.mem_cons_of_mem _ hx)⟩ (fun x hx => hp.1 x.1 (List.mem_map.mpr ⟨x, hx, rfl⟩))
    unfold riseB
    rw [decide_eq_true h1, decide_eq_true h2, this]; rfl
noncomputable def LS (mg : Str → Option Value) : Prop := ∃ u, mg "LAST_SIGN" = some u ∧ RelV (.int 255) u
noncomputable def spRise : Sp := fun vs H Q _ => ∃ (p : Addr) (zs : List (Addr × Int × Int)), vs = [.ref p] ∧ Prs H p zs ∧ Q (.bl (riseB (-1) (zs.map (·.2)))) H
end PH
set_option Elab.async false
set_option linter.all false
set_option maxRecDepth 100000
set_option maxHeartbeats 4000000
namespace PH
open PySem L2 PySem.W
noncomputable def Kb (d : Addr) (H H' : Hp) : Prop := ∀ b u, b ≠ d → H b = some u → H' b = some u
theorem Kb.refl (d : Addr) (H : Hp) : Kb d H H := fun _ _ _ e => e
theorem Kb.of {d : Addr} {H H' : Hp} (s : Same H H') : Kb d H H' := fun b u _ e => s b u e
theorem Kb.trans {d : Addr} {H H1 H2 : Hp} (a : Kb d H H1) (b : Kb d H1 H2) : Kb d H H2 := fun x u n e => b x u n (a x u n e)
theorem Kb.put (d : Addr) (H : Hp) (o : HO) : Kb d H (upd H d o) := fun b u n e => by rw [upd_ne n]; exact e
end PH
set_option Elab.async false
set_option linter.all false
set_option maxRecDepth 100000
set_option maxHeartbeats 4000000
namespace PH
open PySem L2 PySem.W
theorem RiseC.take {cs : List (Int × Int)} (h : RiseC cs) (k : Nat) : RiseC (cs.take k) := ⟨by rw [List.map_take]; exact h.1.sublist (List.take_sublist _ _), fun c hc => h.2 c (List.mem_of_mem_take hc)⟩
theorem RiseC.nil : RiseC [] := ⟨List.Pairwise.nil, fun _ z => by cases z⟩
end PH
set_option Elab.async false
set_option linter.all false
set_option maxRecDepth 100000
set_option maxHeartbeats 4000000
namespace L2
open PySem PySem.Spec PyProof.Rows PySem.W PySem.SeqAt
section
variable {prog : Program} {w : World} {A : Around} {E : Value → Shared → Prop}
end
end L2
set_option Elab.async false
set_option linter.all false
set_option maxRecDepth 100000
set_option maxHeartbeats 4000000
namespace L2
open PySem PySem.Spec PyProof.Rows PySem.W
section
variable {X : Cx}
end
end L2
set_option Elab.async false
set_option linter.all false
set_option maxRecDepth 100000
set_option maxHeartbeats 4000000
namespace PH
open PySem L2 PySem.W
noncomputable def ids (tz : List (Addr × Int × Int)) : List Int := tz.map (·.2.2)
structure Bd (n : Nat) (js : List (Int × Int)) (us tz : List (Addr × Int × Int)) : Prop where
  nd : (ids (us ++ tz)).Nodup
  in_ : ∀ z ∈ us ++ tz, 0 ≤ z.2.2 ∧ z.2.2 < (n : Int) + js.length ∧ z.2.2 ∉ things js
end PH
set_option Elab.async false
set_option linter.all false
set_option maxRecDepth 100000
set_option maxHeartbeats 4000000
namespace PH
open PySem L2 PySem.W
noncomputable def LW (mg : Str → Option Value) : Prop := ∃ u, mg "LONGEST_WORD" = some u ∧ RelV (.int 256) u
noncomputable def rmA (cs : List (Int × Int)) : Nat → Int
  | 0 => 1
  | k + 1 => 2 * rmA cs k - ((cs.map (·.2)).count ((k + 1 : Nat) : Int) : Int)
noncomputable def roomB (cs : List (Int × Int)) : Bool := (List.range 256).all fun k => decide (0 ≤ rmA cs (k + 1))
noncomputable def lenB (cs : List (Int × Int)) : Bool := cs.all fun c => decide (1 ≤ c.2) && decide (c.2 ≤ 256)
noncomputable def canB (cs : List (Int × Int)) : Bool := riseB (-1) cs && lenB cs && roomB cs
theorem roomB_no {cs : List (Int × Int)} {k : Nat} (h : k < 256) (hn : rmA cs (k + 1) < 0) : roomB cs = false := by
  unfold roomB
  rw [List.all_eq_false]
  exact ⟨k, List.mem_range.mpr h, by simp; trivial⟩
theorem roomB_yes {cs : List (Int × Int)} (h : ∀ k, k < 256 → 0 ≤ rmA cs (k + 1)) : roomB cs = true := by
  unfold roomB
  rw [List.all_eq_true]
  exact fun k hk => decide_eq_true (h k (List.mem_range.mp hk))
noncomputable def spRoom : Sp := fun vs H Q _ => ∃ (p : Addr) (zs : List (Addr × Int × Int)), vs = [.ref p] ∧ Prs H p zs ∧ zs.length ≤ 300 ∧ ∀ H', Same H H' → Q (.bl (roomB (zs.map (·.2)))) H'
noncomputable def spCan : Sp := fun vs H Q _ => ∃ (p : Addr) (zs : List (Addr × Int × Int)), vs = [.ref p] ∧ Prs H p zs ∧ zs.length ≤ 300 ∧ ∀ H', Same H H' → Q (.bl (canB (zs.map (·.2)))) H'
end PH
set_option Elab.async false
set_option linter.all false
set_option maxRecDepth 100000
set_option maxHeartbeats 4000000
namespace PH
open PySem L2 PySem.W
noncomputable def sK (ls : List Int) (k : Nat) : Int := (ls.map fun l => if 1 ≤ l ∧ l ≤ (k : Int) then (2 : Int) ^ (k - l.toNat) else 0).sum
theorem sK_zero : ∀ ls : List Int, sK ls 0 = 0
  | [] => rfl
  | l :: r => by
    have ih := sK_zero r
    unfold sK at ih ⊢
    rw [List.map_cons, List.sum_cons, ih, if_neg (by trivial)]; rfl
theorem sK_step : ∀ (ls : List Int) (k : Nat), sK ls (k + 1) = 2 * sK ls k + (ls.count ((k + 1 : Nat) : Int) : Int)
  | [], k => rfl
  | l :: r, k => by
    have ih := sK_step r k
    unfold sK at ih ⊢
    rw [List.map_cons, List.map_cons, List.sum_cons, List.sum_cons, ih, List.count_cons]
    by_cases h1 : l = ((k + 1 : Nat) : Int)
    · have e1 : (l == ((k + 1 : Nat) : Int)) = true := by rw [h1]; exact beq_self_eq_true _
      rw [if_pos (by trivial), if_neg (by trivial), if_pos e1, show k + 1 - l.toNat = 0 by trivial]
      rw [show (2 : Int) ^ 0 = 1 from rfl, Int.natCast_add]
      trivial
    · have e1 : (l == ((k + 1 : Nat) : Int)) = false := by rw [beq_eq_false_iff_ne]; exact h1
      rw [e1, show (if false = true then 1 else 0 : Nat) = 0 from rfl, Nat.add_zero]
      by_cases h2 : 1 ≤ l ∧ l ≤ (k : Int)
      · rw [if_pos (by trivial), if_pos h2, show k + 1 - l.toNat = (k - l.toNat) + 1 by trivial, Int.pow_succ]
        generalize (2 : Int) ^ (k - l.toNat) = x
        trivial
      · rw [if_neg (by trivial), if_neg h2]
        trivial
theorem rmA_eq (cs : List (Int × Int)) : ∀ k : Nat, rmA cs k = 2 ^ k - sK (cs.map (·.2)) k
  | 0 => by rw [sK_zero]; rfl
  | k + 1 => by
    show 2 * rmA cs k - _ = _
    rw [rmA_eq cs k, sK_step, Int.pow_succ]
    generalize (2 : Int) ^ k = x
    trivial
theorem rmA_down (cs : List (Int × Int)) (k : Nat) (h : rmA cs k < 0) : ∀ j : Nat, rmA cs (k + j) < 0
  | 0 => h
  | j + 1 => by
    have ih := rmA_down cs k h j
    show 2 * rmA cs (k + j) - _ < 0
    trivial
theorem roomB_iff (cs : List (Int × Int)) : roomB cs = decide (sK (cs.map (·.2)) 256 ≤ 2 ^ 256) := by
  have e := rmA_eq cs 256
  by_cases h : sK (cs.map (·.2)) 256 ≤ 2 ^ 256
  · rw [decide_eq_true h]
    refine roomB_yes fun k hk => ?_
    by_cases hn : rmA cs (k + 1) < 0
    · have := rmA_down cs (k + 1) hn (255 - k)
      rw [show k + 1 + (255 - k) = 256 by trivial] at this
      trivial
    · trivial
  · rw [decide_eq_false h]
    refine roomB_no (k := 255) (by decide) ?_
    show rmA cs 256 < 0
    trivial
noncomputable def zer (l : Nat) : List Int := List.replicate l 0
noncomputable def nw (w : List Int) (L : Nat) : List Int := lowb (worth w + 1) w.length ++ zer (L - w.length)
noncomputable def wdsN : List Int → List Nat → List (List Int)
  | _, [] => []
  | w, l :: r => nw w l :: wdsN (nw w l) r
noncomputable def wds : List Nat → List (List Int)
  | [] => []
  | l :: r => zer l :: wdsN (zer l) r
theorem zer_bits (l : Nat) : isBits (zer l) := fun b hb => .inl (List.eq_of_mem_replicate hb)
theorem zer_len (l : Nat) : (zer l).length = l := List.length_replicate
theorem nw_bits (w : List Int) (L : Nat) : isBits (nw w L) := fun b hb => by
  rcases List.mem_append.mp hb with q | q
  · exact lowb_bits _ _ b q
  · exact zer_bits _ b q
theorem nw_len {w : List Int} {L : Nat} (h : w.length ≤ L) : (nw w L).length = L := by
  unfold nw
  rw [List.length_append, lowb_length, zer_len]; trivial
theorem worth_zer : ∀ (m : Nat) (w : List Int), worth (w ++ zer m) = worth w * 2 ^ m
  | 0, w => by
    show worth (w ++ []) = worth w * 1
    rw [List.append_nil, Int.mul_one]
  | m + 1, w => by
    have e : w ++ zer (m + 1) = (w ++ zer m) ++ [0] := by
      unfold zer
      rw [List.replicate_succ', List.append_assoc]
    rw [e, worth_snoc, worth_zer m w, Int.pow_succ]
    generalize worth w = a
    generalize (2 : Int) ^ m = b
    rw [show a * (b * 2) = a * b * 2 from (Int.mul_assoc a b 2).symm]
    trivial
theorem worth_nw {w : List Int} {L : Nat} (hb : isBits w) (hl : worth w + 1 < 2 ^ w.length) : worth (nw w L) = (worth w + 1) * 2 ^ (L - w.length) := by
  unfold nw
  rw [worth_zer, worth_lowb (by have := (worth_bound hb).1; trivial) hl]
theorem worth_zero (l : Nat) : worth (zer l) = 0 := by
  have := worth_zer l []
  rw [List.nil_append] at this
  rw [this]
  show (0 : Int) * _ = 0
  exact Int.zero_mul _
noncomputable def tk (w : List Int) : Int := (worth w + 1) * 2 ^ (256 - w.length)
theorem tk_zer {l : Nat} : tk (zer l) = 2 ^ (256 - l) := by
  unfold tk
  rw [worth_zero, zer_len, Int.zero_add, Int.one_mul]
theorem tk_nw {w : List Int} {L : Nat} (hb : isBits w) (hl : worth w + 1 < 2 ^ w.length) (h1 : w.length ≤ L) (h2 : L ≤ 256) : tk (nw w L) = tk w + 2 ^ (256 - L) := by
  unfold tk
  rw [worth_nw hb hl, nw_len h1, Int.add_mul, Int.one_mul, Int.mul_assoc, ← Int.pow_add]
  rw [show L - w.length + (256 - L) = 256 - w.length by trivial]
theorem room_next {w : List Int} (hb : isBits w) (hw : w.length ≤ 256) (h : tk w < 2 ^ 256) : worth w + 1 < 2 ^ w.length := by
  unfold tk at h
  have e : (2 : Int) ^ 256 = 2 ^ w.length * 2 ^ (256 - w.length) := by rw [← Int.pow_add, show w.length + (256 - w.length) = 256 by trivial]
  rw [e] at h
  exact Int.lt_of_mul_lt_mul_right h (Int.le_of_lt (Int.pow_pos (by decide)))
end PH
set_option Elab.async false
set_option linter.all false
set_option maxRecDepth 100000
set_option maxHeartbeats 4000000
namespace PH
open PySem L2 PySem.W
noncomputable def spNext (K : Frag) : Sp := fun vs H Q _ => ∃ (a : Addr) (ws : List Int) (L : Nat), vs = [.ref a, .int (L : Int)] ∧ SqL K H a (ws.map V.int) ∧ isBits ws ∧ worth ws + 1 < 2 ^ ws.length ∧ ws.length ≤ L ∧ L ≤ 256 ∧
  ∀ (p : Addr) (H' : Hp), Same H H' → H p = none → H' p = some (lsI (nw ws L)) → Q (.ref p) H'
theorem rep_zer (m : Nat) : (List.replicate m [V.int 0]).flatten = (zer m).map V.int := by
  unfold zer
  induction m with
  | zero => rfl
  | succ k ih => rw [List.replicate_succ, List.flatten_cons, ih, List.replicate_succ]; rfl
end PH
set_option Elab.async false
set_option linter.all false
set_option maxRecDepth 100000
set_option maxHeartbeats 4000000
namespace PH
open PySem L2 PySem.W
noncomputable def sP (ls : List Nat) : Int := (ls.map fun l => (2 : Int) ^ (256 - l)).sum
theorem sP_cons (l : Nat) (r : List Nat) : sP (l :: r) = 2 ^ (256 - l) + sP r := by unfold sP; rw [List.map_cons, List.sum_cons]
theorem sP_nn : ∀ ls : List Nat, 0 ≤ sP ls
  | [] => Int.le_refl _
  | l :: r => by
    rw [sP_cons]
    have := sP_nn r
    have : (0 : Int) < 2 ^ (256 - l) := Int.pow_pos (by decide)
    trivial
theorem sP_perm {a b : List Nat} (h : a.Perm b) : sP a = sP b := by
  induction h with
  | nil => rfl
  | cons x _ ih => rw [sP_cons, sP_cons, ih]
  | swap x y t => rw [sP_cons, sP_cons, sP_cons, sP_cons]; trivial
  | trans _ _ i1 i2 => rw [i1, i2]
theorem sK_sP : ∀ {ls : List Int}, (∀ l ∈ ls, 1 ≤ l ∧ l ≤ 256) → sK ls 256 = sP (ls.map Int.toNat)
  | [], _ => rfl
  | l :: r, h => by
    have ih := sK_sP (ls := r) fun x hx => h x (List.mem_cons_of_mem _ hx)
    have hl := h l List.mem_cons_self
    rw [List.map_cons, sP_cons, ← ih]
    unfold sK
    rw [List.map_cons, List.sum_cons, if_pos (show 1 ≤ l ∧ l ≤ ((256 : Nat) : Int) by trivial)]
noncomputable def Up : Nat → List Nat → Prop
  | _, [] => True
  | a, l :: r => a ≤ l ∧ l ≤ 256 ∧ Up l r
theorem room_at {w : List Int} {l : Nat} {r : List Nat} (hb : isBits w) (hw : w.length ≤ 256) (h : tk w + sP (l :: r) ≤ 2 ^ 256) : worth w + 1 < 2 ^ w.length := by
  refine room_next hb hw ?_
  rw [sP_cons] at h
  have h1 := sP_nn r
  have h2 : (0 : Int) < 2 ^ (256 - l) := Int.pow_pos (by decide)
  trivial
theorem room_on {w : List Int} {l : Nat} {r : List Nat} (hb : isBits w) (hw : w.length ≤ l) (hl : l ≤ 256) (h : tk w + sP (l :: r) ≤ 2 ^ 256) : tk (nw w l) + sP r ≤ 2 ^ 256 := by
  rw [tk_nw hb (room_at hb (by trivial) h) hw hl]
  rw [sP_cons] at h
  trivial
theorem carry : ∀ (w : List Int), isBits w → worth w + 1 < 2 ^ w.length → ∃ u k, w = u ++ 0 :: List.replicate k 1 ∧ lowb (worth w + 1) w.length = u ++ 1 :: List.replicate k 0 := by
  have key : ∀ n (w : List Int), w.length = n → isBits w → worth w + 1 < 2 ^ w.length → ∃ u k, w = u ++ 0 :: List.replicate k 1 ∧ isBits u := by
    intro n
    induction n with
    | zero =>
      intro w h0 _ h
      have : w = [] := List.eq_nil_of_length_eq_zero h0
      subst this
      exact absurd h (by decide)
    | succ n ih =>
      intro w hn hb h
      rcases List.eq_nil_or_concat w with e | ⟨v, x, e⟩
      · subst e; cases hn
      · rw [List.concat_eq_append] at e
        subst e
        have hv : isBits v := fun b hb' => hb b (List.mem_append_left _ hb')
        have hx := hb x (List.mem_append_right _ List.mem_cons_self)
        rw [List.length_append, List.length_singleton] at hn
        rcases hx with hx | hx
        · subst hx
          exact ⟨v, 0, rfl, hv⟩
        · subst hx
          rw [worth_snoc, List.length_append, List.length_singleton, Int.pow_succ] at h
          have h' : worth v + 1 < 2 ^ v.length := by
            generalize (2 : Int) ^ v.length = y at h ⊢
            trivial
          obtain ⟨u, k, e, hu⟩ := ih v (by trivial) hv h'
          refine ⟨u, k + 1, ?_, hu⟩
          rw [e, List.replicate_succ']
          simp
  intro w hb h
  obtain ⟨u, k, e, hu⟩ := key _ w rfl hb h
  refine ⟨u, k, e, ?_⟩
  have hr : isBits (u ++ 1 :: List.replicate k 0) := fun b hb' => by
    rcases List.mem_append.mp hb' with q | q
    · exact hu b q
    · rcases List.mem_cons.mp q with q | q
      · exact .inr q
      · exact .inl (List.eq_of_mem_replicate q)
  have hlen : (u ++ 1 :: List.replicate k (0 : Int)).length = w.length := by
    rw [e]; simp
  have ones : ∀ (k : Nat) (v : List Int), worth (v ++ List.replicate k 1) + 1 = (worth v + 1) * 2 ^ k := by
    intro k
    induction k with
    | zero => intro v; show worth (v ++ []) + 1 = (worth v + 1) * 1; rw [List.append_nil, Int.mul_one]
    | succ k ih =>
      intro v
      rw [show v ++ List.replicate (k + 1) (1 : Int) = (v ++ List.replicate k 1) ++ [1] by rw [List.replicate_succ', List.append_assoc], worth_snoc, Int.pow_succ, ← Int.mul_assoc, ← ih v]
      trivial
  have e1 : worth w + 1 = worth (u ++ 1 :: List.replicate k 0) := by
    have a1 := ones k (u ++ [0])
    have a2 := worth_zer k (u ++ [1])
    rw [worth_snoc] at a1 a2
    rw [e, show u ++ 0 :: List.replicate k (1 : Int) = (u ++ [0]) ++ List.replicate k 1 by simp, a1]
    rw [show u ++ 1 :: List.replicate k (0 : Int) = (u ++ [1]) ++ zer k by unfold zer; simp, a2]
    rw [show worth u + worth u + 0 + 1 = worth u + worth u + 1 by trivial]
  rw [e1, ← hlen]
  have := lowb_worth hr 0
  rw [Nat.add_zero] at this
  rw [this]; rfl
end PH
set_option Elab.async false
set_option linter.all false
set_option maxRecDepth 100000
set_option maxHeartbeats 4000000
namespace PH
open PySem L2 PySem.W
noncomputable def stOf (cs : List (Int × Int)) : List (Int × Int) := srt (cs.map swp)
noncomputable def lensOf (cs : List (Int × Int)) : List Nat := (stOf cs).map fun c => c.1.toNat
noncomputable def wof (cs : List (Int × Int)) : List (Int × List Int) := ((stOf cs).map (·.2)).zip (wds (lensOf cs))
noncomputable def look (l : List (Int × List Int)) (s : Int) : List Int := ((l.find? fun p => decide (p.1 = s)).map (·.2)).getD []
noncomputable def wrdsOf (cs : List (Int × Int)) : List (Int × List Int) := cs.map fun c => (c.1, look (wof cs) c.1)
theorem wdsN_len : ∀ (ls : List Nat) (w : List Int), (wdsN w ls).length = ls.length
  | [], _ => rfl
  | l :: r, w => by
    show (wdsN (nw w l) r).length + 1 = r.length + 1
    rw [wdsN_len r]
theorem wds_len : ∀ ls : List Nat, (wds ls).length = ls.length
  | [] => rfl
  | l :: r => by
    show (wdsN (zer l) r).length + 1 = r.length + 1
    rw [wdsN_len r]
theorem up_of : ∀ {ls : List Nat} {a : Nat}, (a :: ls).Pairwise (· ≤ ·) → (∀ l ∈ ls, l ≤ 256) → Up a ls
  | [], _, _, _ => True.intro
  | l :: r, a, h, hm => by
    have hp := List.pairwise_cons.mp h
    exact ⟨hp.1 l List.mem_cons_self, hm l List.mem_cons_self, up_of hp.2 fun x hx => hm x (List.mem_cons_of_mem _ hx)⟩
theorem lens_up (cs : List (Int × Int)) (h : ∀ c ∈ cs, 1 ≤ c.2 ∧ c.2 ≤ 256) : Up 0 (lensOf cs) := by
  have hm : ∀ c ∈ stOf cs, 1 ≤ c.1 ∧ c.1 ≤ 256 := fun c hc => by
    have := (srt_perm (cs.map swp)).mem_iff.mp hc
    obtain ⟨d, hd, rfl⟩ := List.mem_map.mp this
    exact h d hd
  refine up_of (List.pairwise_cons.mpr ⟨fun _ _ => Nat.zero_le _, ?_⟩) fun l hl => ?_
  · unfold lensOf
    rw [List.pairwise_map]
    exact (srt_sorted (cs.map swp)).imp fun {a b} hab => by
      unfold lexLe at hab
      trivial
  · obtain ⟨c, hc, rfl⟩ := List.mem_map.mp hl
    have := hm c hc
    trivial
theorem lens_sP (cs : List (Int × Int)) (h : ∀ c ∈ cs, 1 ≤ c.2 ∧ c.2 ≤ 256) : sP (lensOf cs) = sK (cs.map (·.2)) 256 := by
  rw [sK_sP (fun l hl => by obtain ⟨c, hc, rfl⟩ := List.mem_map.mp hl; exact h c hc)]
  refine sP_perm ?_
  unfold lensOf stOf
  have := (srt_perm (cs.map swp)).map fun c => c.1.toNat
  rw [List.map_map] at this
  rw [List.map_map]
  exact this
theorem can_lens {cs : List (Int × Int)} (h : canB cs = true) : (∀ c ∈ cs, 1 ≤ c.2 ∧ c.2 ≤ 256) ∧ sP (lensOf cs) ≤ 2 ^ 256 := by
  unfold canB at h
  rw [Bool.and_eq_true, Bool.and_eq_true] at h
  have h1 : ∀ c ∈ cs, 1 ≤ c.2 ∧ c.2 ≤ 256 := fun c hc => by
    have := List.all_eq_true.mp h.1.2 c hc
    simp only [Bool.and_eq_true, decide_eq_true_iff] at this
    exact this
  refine ⟨h1, ?_⟩
  rw [lens_sP cs h1]
  have := h.2
  rw [roomB_iff] at this
  exact of_decide_eq_true this
theorem riseB_lt : ∀ {cs : List (Int × Int)} {a : Int}, riseB a cs = true → (∀ c ∈ cs, a < c.1) ∧ (cs.map (·.1)).Nodup
  | [], _, _ => ⟨(fun _ z => by cases z), List.nodup_nil⟩
  | c :: r, a, h => by
    unfold riseB at h
    rw [Bool.and_eq_true, Bool.and_eq_true] at h
    have h1 := of_decide_eq_true h.1.1
    obtain ⟨i1, i2⟩ := riseB_lt h.2
    refine ⟨fun x hx => ?_, ?_⟩
    · rcases List.mem_cons.mp hx with q | q
      · rw [q]; exact h1
      · have := i1 x q; trivial
    · rw [List.map_cons, List.nodup_cons]
      refine ⟨fun z => ?_, i2⟩
      obtain ⟨x, hx, e⟩ := List.mem_map.mp z
      have := i1 x hx
      trivial
theorem can_signs {cs : List (Int × Int)} (h : canB cs = true) : ((stOf cs).map (·.2)).Nodup := by
  unfold canB at h
  rw [Bool.and_eq_true, Bool.and_eq_true] at h
  have hn := (riseB_lt h.1.1).2
  have hp := (srt_perm (cs.map swp)).map (·.2)
  rw [List.map_map] at hp
  exact hp.symm.nodup hn
noncomputable def dW (es : List (Int × Addr × List Int)) : List (Key × V) := es.map fun e => (Sum.inl e.1, V.ref e.2.1)
theorem dW_len (es : List (Int × Addr × List Int)) : (dW es).length = es.length := List.length_map _
theorem valV_dW {s : Int} : ∀ {es : List (Int × Addr × List Int)}, valV (dW es) (Sum.inl s) = (es.find? fun e => decide (e.1 = s)).map fun e => V.ref e.2.1
  | [] => rfl
  | e :: r => by
    show valV ((Sum.inl e.1, V.ref e.2.1) :: dW r) (Sum.inl s) = _
    by_cases h : e.1 = s
    · rw [valV_pos (by rw [h]), List.find?_cons_of_pos (by simpa using h)]; rfl
    · rw [valV_neg (by intro z; exact h (Sum.inl.inj z)), valV_dW, List.find?_cons_of_neg (by simpa using h)]
theorem putK_dW {es : List (Int × Addr × List Int)} {s : Int} {b : Addr} {w : List Int} (h : s ∉ es.map (·.1)) : putK (dW es) (Sum.inl s) (.ref b) = dW (es ++ [(s, b, w)]) := by
  have hv : valV (dW es) (Sum.inl s) = none := by
    rw [valV_dW]
    have : es.find? (fun e => decide (e.1 = s)) = none := by
      rw [List.find?_eq_none]
      intro e he z
      exact h (List.mem_map.mpr ⟨e, he, by simpa using z⟩)
    rw [this]; rfl
  unfold putK
  rw [valV_any, hv, if_neg (by simp)]
  unfold dW
  rw [List.map_append]; rfl
theorem zip_two {α β γ : Type} (f : α → β) (g : α → γ) : ∀ es : List α, (es.map f).zip (es.map g) = es.map fun e => (f e, g e)
  | [] => rfl
  | e :: r => by rw [List.map_cons, List.map_cons, List.zip_cons_cons, zip_two f g r, List.map_cons]
theorem look_es {s : Int} : ∀ (es : List (Int × Addr × List Int)) {e : Int × Addr × List Int}, es.find? (fun e => decide (e.1 = s)) = some e → look (es.map fun e => (e.1, e.2.2)) s = e.2.2
  | [], _, h => by cases h
  | x :: r, e, h => by
    unfold look
    by_cases c : x.1 = s
    · rw [List.find?_cons_of_pos (by simpa using c)] at h
      cases h
      rw [List.map_cons, List.find?_cons_of_pos (by simpa using c)]; rfl
    · rw [List.find?_cons_of_neg (by simpa using c)] at h
      rw [List.map_cons, List.find?_cons_of_neg (by simpa using c)]
      exact look_es r h
theorem nodup_inj : ∀ {es : List (Int × Addr × List Int)}, (es.map (·.2.1)).Nodup → ∀ {e e' : Int × Addr × List Int}, e ∈ es → e' ∈ es → e.2.1 = e'.2.1 → e = e'
  | [], _, _, _, h, _, _ => by cases h
  | x :: r, nd, e, e', h, h', c => by
    obtain ⟨n1, n2⟩ := List.nodup_cons.mp (show (x.2.1 :: r.map (·.2.1)).Nodup from nd)
    rcases List.mem_cons.mp h with p | p <;> rcases List.mem_cons.mp h' with q | q
    · rw [p, q]
    · exact absurd (List.mem_map.mpr ⟨e', q, by rw [← c, p]⟩) n1
    · exact absurd (List.mem_map.mpr ⟨e, p, by rw [c, q]⟩) n1
    · exact nodup_inj n2 p q c
structure Wrs (H : Hp) (r : Addr) (ws : List (Addr × Int × Addr × List Int)) : Prop where
  at_ : H r = some (.lst (ws.map fun w => V.ref w.1))
  each : ∀ w ∈ ws, H w.1 = some (.tup [.int w.2.1, .ref w.2.2.1]) ∧ H w.2.2.1 = some (lsI w.2.2.2)
noncomputable def spWords (cC : Addr) : Sp := fun vs H Q E => ∃ (p : Addr) (zs : List (Addr × Int × Int)), vs = [.ref p] ∧ Prs H p zs ∧ zs.length ≤ 300 ∧
  (canB (zs.map (·.2)) = false → ∀ H', Same H H' → E (.ref cC) none H') ∧
  (canB (zs.map (·.2)) = true → ∀ (r : Addr) (ws : List (Addr × Int × Addr × List Int)) (H' : Hp), Same H H' → H r = none → Wrs H' r ws → (∀ w ∈ ws, H w.2.2.1 = none) → (ws.map (·.2.2.1)).Nodup → ws.map (fun w => (w.2.1, w.2.2.2)) = wrdsOf (zs.map (·.2)) → Q (.ref r) H')
end PH
set_option Elab.async false
set_option linter.all false
set_option maxRecDepth 100000
namespace L2
open PySem PySem.Spec PyProof.Rows PySem.W
section
variable {X : Cx} {pins : List (Addr × Obj)} {σ : St} {H : Hp} {s : Shared}
end
end L2
set_option Elab.async false
set_option linter.all false
set_option maxRecDepth 100000
namespace HT
open PySem PyProof.Rows
open AutoSeq1 (wpAny_loadPart')
open MeetsSeq MeetsSeq3 SeqAt
section
variable {prog : Program} {w : World} {A : Around} {E : Value → Shared → Prop} {s : Shared}
end
end HT
namespace L2
open PySem PySem.Spec PyProof.Rows PySem.W
section
variable {X : Cx}
end
end L2
set_option Elab.async false
set_option linter.all false
set_option maxRecDepth 100000
namespace L2
open PySem PySem.Spec PyProof.Rows PySem.W PySem.Calls Att
open PySem.Builtin.Int (intBits)
section
variable {X : Cx}
noncomputable def CMulB (i j : Int) : Prop := intBits i + intBits j ≤ 134217728
theorem op_mulB : OpR X (binaryOp .Mult) (rI CMulB fun i j => .int (i * j)) := opI fun _ _ _ _ _ _ _ hc q => mul_int q (mulOk_of_bits (Nat.le_refl _) (Nat.le_refl _) hc)
end
end L2
set_option Elab.async false
set_option linter.all false
set_option maxRecDepth 100000
namespace L2
open PySem PySem.Spec PyProof.Rows PySem.W
section
variable {X : Cx}
noncomputable def rMaxL (K : Frag) : List V → Hp → VK → Prop := fun xs H Q => ∃ (p : Addr) (ns : List Int), xs = [.ref p] ∧ SqL K H p (ns.map V.int) ∧ 0 < ns.length ∧ ∀ m, m ∈ ns → (∀ n ∈ ns, n ≤ m) → Q (.int m) H
theorem call_maxL (hc : X.calm = true) : CallR X (.builtin "max") (rMaxL X.K) := by
  intro pins s σ H xs us Q I r h
  obtain ⟨p, ns, rfl, hs, hne, q⟩ := h
  obtain ⟨u, rfl, rx⟩ := vals1 r
  cases rx
  obtain ⟨its, r', pl, hz⟩ := I.list hs
  have hi := vals_intsAre r'
  have hn := hi.numsOf
  obtain ⟨ys, hy⟩ := hi.allInts.items
  have e2 : ns = ys.toList.map (·.1) := by
    have e1 := nums_intItems ys
    rw [← hy] at e1
    rw [← hn]; exact e1
  have hl : ns.length = ys.size := by rw [e2]; simp
  have hsz : 0 < ys.size := by rw [← hl]; exact hne
  have key : ∀ k, k < ys.size → ns[k]? = some (numAt ys k) := fun k hk => by
    rw [e2, List.getElem?_map, Array.getElem?_toList]
    unfold numAt
    rw [Array.getElem?_eq_getElem hk]
    rfl
  refine max_intList (I.ok.hd hc) (l := p) (xs := ys) (by rw [← hy]; exact pl.isList) hsz fun v h' tk hv hk => ?_
  obtain ⟨t, rfl⟩ := intItems_at hv
  obtain ⟨b1, b2⟩ := argBest_gt (numAt ys) (ys.size - 1)
  refine ⟨.int _, H, I.kept hk, ⟨t, rfl⟩, q _ (List.mem_of_getElem? (key _ (by trivial))) fun n hn => ?_⟩
  obtain ⟨j, hj⟩ := List.mem_iff_getElem?.mp hn
  have hjl : j < ys.size := by
    rw [← hl]; exact (List.getElem?_eq_some_iff.mp hj).1
  have := key j hjl
  rw [hj] at this
  rw [Option.some.inj this]
  exact b2 j (by trivial)
end
end L2
set_option Elab.async false
set_option linter.all false
set_option maxRecDepth 100000
set_option maxHeartbeats 4000000
namespace L2
open PySem PySem.Spec PyProof.Rows PySem.W
section
variable {prog : Program} {w : World} {A : Around} {E : Value → Shared → Prop} {s : Shared}
theorem eqBool_ref {a : Addr} {Q : Bool → Shared → Prop} (h : Q true s) : wpAny (model prog w) A (eqBool (.ref a) (.ref a)) Q E s := by
  unfold eqBool
  refine wpAny_holding ?_
  rw [if_pos (by simp)]
  exact wpAny_bind (wpAny_rule (wpAny_pure h))
end
noncomputable def fky {α : Type} (d : α) (zs : List (Addr × α)) (p : Keyed) : α := match p.1 with
  | .ref a => ((zs.find? fun z => decide (z.1 = a)).map (·.2)).getD d
  | _ => d
theorem fky_at {α : Type} {d : α} {zs : List (Addr × α)} (same : ∀ z ∈ zs, ∀ y ∈ zs, z.1 = y.1 → z.2 = y.2) {z : Addr × α} (hz : z ∈ zs) (v : Value) : fky d zs (.ref z.1, v) = z.2 := by
  show ((zs.find? fun y => decide (y.1 = z.1)).map (·.2)).getD d = z.2
  cases e : zs.find? fun y => decide (y.1 = z.1) with
  | none =>
    have := List.find?_eq_none.mp e z hz
    simp at this
  | some y =>
    have h1 := List.mem_of_find?_eq_some e
    have h2 : y.1 = z.1 := by simpa using List.find?_some e
    exact same y h1 z hz h2
theorem vals_refsA {α : Type} : ∀ {zs : List (Addr × α)} {us : List Value}, Vals (zs.map fun z => V.ref z.1) us → us = zs.map fun z => Value.ref z.1
  | [], _, r => by
    rw [List.map_nil] at r
    cases r; rfl
  | z :: zs, _, r => by
    rw [List.map_cons] at r
    cases r with
    | cons h t =>
      have h' : _ = Value.ref z.1 := h
      rw [h', vals_refsA t]; rfl
theorem refs_valsA {α : Type} : ∀ (zs : List (Addr × α)), Vals (zs.map fun z => V.ref z.1) (zs.map fun z => Value.ref z.1)
  | [] => .nil
  | z :: zs => .cons rfl (refs_valsA zs)
section
variable {X : Cx}
end
noncomputable def IrAt (h : Heap) (z : Addr × Int × Addr) : Prop := ∃ o n t, h.get? z.1 = some o ∧ o.cls = .type "tuple" ∧ o.data = .seq #[.int z.2.1 t, .ref z.2.2] n
theorem IrAt.keeps {h h' : Heap} {z : Addr × Int × Addr} (p : IrAt h z) (k : ∀ b o, h.get? b = some o → h'.get? b = some o) : IrAt h' z := by
  obtain ⟨o, n, t, e, r⟩ := p
  exact ⟨o, n, t, k _ _ e, r⟩
theorem katIr_of {h : Heap} : ∀ {zs : List (Addr × Int × Addr)}, (∀ z ∈ zs, IrAt h z) → ∃ fs, KatTups h (zs.map fun z => Value.ref z.1) fs ∧ fs.length = zs.length ∧ ∀ v ∈ fs, ∃ n t, v = Value.int n t
  | [], _ => ⟨[], .nil, rfl, fun _ z => by cases z⟩
  | z :: r, hh => by
    obtain ⟨fs, k, l, a⟩ := katIr_of (zs := r) fun y hy => hh y (List.mem_cons_of_mem _ hy)
    obtain ⟨o, n, t, e, c, d⟩ := hh z List.mem_cons_self
    refine ⟨Value.int z.2.1 t :: fs, .cons e c d rfl k, by rw [List.length_cons, List.length_cons, l], fun v hv => ?_⟩
    rcases List.mem_cons.mp hv with q | q
    · exact ⟨_, _, q⟩
    · exact a v q
theorem cmp_ir {prog : Program} {w : World} {A : Around} {s : Shared} {zs : List (Addr × Int × Addr)} {b : Bool} (same : ∀ z ∈ zs, ∀ y ∈ zs, z.1 = y.1 → z.2 = y.2) (one : ∀ z ∈ zs, ∀ y ∈ zs, z.2.1 = y.2.1 → z.2.2 = y.2.2) (hh : ∀ z ∈ zs, IrAt s.heap z) : TS.Cmp prog w A s (tuples' b) TS.intOrd (fun p => (fky ((0 : Int), (0 : Addr)) zs p).1) (fun p => ∃ z ∈ zs, p.1 = .ref z.1) where
  lt := fun p q ⟨z, hz, e1⟩ ⟨y, hy, e2⟩ {E Q} h => by
    obtain ⟨p1, p2⟩ := p
    obtain ⟨q1, q2⟩ := q
    dsimp only at e1 e2
    subst e1 e2
    have h : Q (decide ((fky ((0 : Int), (0 : Addr)) zs (Value.ref z.fst, p2)).1 < (fky ((0 : Int), (0 : Addr)) zs (Value.ref y.fst, q2)).1)) s := h
    rw [fky_at same hz, fky_at same hy] at h
    obtain ⟨o, n, t, g1, _, d1⟩ := hh z hz
    obtain ⟨o', n', t', g2, _, d2⟩ := hh y hy
    refine kat_lt g1 d1 g2 d2 ?_
    show KatLex prog w A b _ Q [(.int z.2.1 t, .int y.2.1 t'), (.ref z.2.2, .ref y.2.2)] 0 s
    refine kat_cons (eqBool_int ?_)
    by_cases c : z.2.1 = y.2.1
    · rw [decide_eq_true c]
      refine kat_yes (kat_cons ?_)
      rw [one z hz y hy c]
      refine eqBool_ref (kat_yes (kat_nil ?_))
      rw [decide_eq_false (show ¬ z.2.1 < y.2.1 by trivial)] at h
      exact h
    · rw [decide_eq_false c]
      exact kat_no (oneLt_any h)
section
variable {X : Cx}
noncomputable def rSortIR (K : Frag) : List V → Hp → VK → Prop := fun xs H Q => ∃ (p : Addr) (zs : List (Addr × Int × Addr)), xs = [.ref p] ∧ SqL K H p (zs.map fun z => V.ref z.1) ∧ (∀ z ∈ zs, SqT K H z.1 [.int z.2.1, .ref z.2.2]) ∧ (∀ z ∈ zs, ∀ y ∈ zs, z.2.1 = y.2.1 → z.2.2 = y.2.2) ∧
  ∀ (zs' : List (Addr × Int × Addr)) (q : Addr), zs'.Perm zs → (zs'.map (·.2.1)).Pairwise (· ≤ ·) → H q = none → Q (.ref q) (upd H q (.lst (zs'.map fun z => V.ref z.1)))
theorem call_sortedIR : CallR X (.builtin "sorted") (rSortIR X.K) := by
  intro pins s σ H xs us Q I r h
  obtain ⟨a, zs, rfl, hq, hz, one, q⟩ := h
  obtain ⟨u, rfl, rx⟩ := vals1 r
  cases rx
  obtain ⟨its, r', pl, hzl⟩ := I.list hq
  obtain ⟨o, ho, hcl, n, hd⟩ := pl.isList
  have hits := vals_refsA r'
  subst hits
  rw [List.length_map] at hzl
  have hpa : ∀ z ∈ zs, IrAt s.heap z := fun z hm => by
    obtain ⟨its2, rv, ⟨o2, e2, c2, n2, d2⟩, _⟩ := I.tuple (hz z hm)
    cases rv with
    | cons h1 t1 =>
      cases t1 with
      | cons h2 t2 =>
        cases t2
        obtain ⟨t, rfl⟩ := (show ∃ t, _ = Value.int z.2.1 t from h1)
        cases (show _ = Value.ref z.2.2 from h2)
        exact ⟨o2, n2, t, e2, c2, d2⟩
  have same : ∀ z ∈ zs, ∀ y ∈ zs, z.1 = y.1 → z.2 = y.2 := fun z h1 y h2 e => by
    have e1 := hz z h1
    have e2 := hz y h2
    rw [← e] at e2
    have := I.tuple_inj e1 e2
    injection this with a1 a2
    injection a1 with a1
    injection a2 with a2 _
    injection a2 with a2
    exact Prod.ext a1 a2
  refine TS.sorted_gen (kd := tuples' (Value.type "int" != Value.type "tuple")) (O := TS.intOrd) (ky := fun p => (fky ((0 : Int), (0 : Addr)) zs p).1) (S := fun p => ∃ z ∈ zs, p.1 = .ref z.1) (V := fun vs => vs = zs.map fun z => Value.ref z.1)
    (fun vs e => by rw [e, List.length_map]; exact hzl) (fun vs e v hv => ?_) (fun {E R} k => ?_) (fun vs s' e h2 kp {A' E' Q'} qq => ?_) (fun s' kp => cmp_ir same one fun z hm => (hpa z hm).keeps kp) (fun h1 h' tk vs out n e k1 k2 g p rr => ?_)
  · rw [e] at hv
    obtain ⟨z, hm, rfl⟩ := List.mem_map.mp hv
    exact ⟨z, hm, rfl⟩
  · exact wpAny_collect_seq a (.inl rfl) ho hcl hd (fun h' kp => by have := k h' s.toks _ rfl kp; simpa using this) (by simp; trivial)
  · rw [e]
    obtain ⟨fs, f1, f2, f3⟩ := katIr_of (h := s'.heap) fun z hm => (hpa z hm).keeps kp
    refine kat_kind (T := .type "int") f1 (by rw [f2]; rw [e, List.length_map] at h2; trivial) (fun v hv => ?_) (by rfl) qq
    obtain ⟨m, t, rfl⟩ := f3 v hv
    exact .now
  · subst e
    obtain ⟨zs', p1, p2⟩ := perm_map (fun z : Addr × Int × Addr => Value.ref z.1) p zs rfl
    have I1 : Inv X pins σ H { s with heap := h1 } := I.kept (t' := s.toks) k1
    refine ⟨.ref h1.objs.size, _, I1.laid (a := h1.objs.size) (o := .lst (zs'.map fun z => V.ref z.1)) (t' := tk) k2 (Nat.le_refl _) ?_, rfl, q zs' _ p1 ?_ (I1.hok.fresh (Nat.le_refl _))⟩
    · refine ⟨by rw [List.length_map, p1.length_eq]; exact hzl, _, n, refs_valsA zs', ?_⟩
      rw [← p2, Array.toArray_toList]; exact g
    · unfold TS.Rises at rr
      rw [p2, List.pairwise_map] at rr
      rw [List.pairwise_map]
      refine List.Pairwise.imp_of_mem ?_ rr
      intro x y hx hy hk
      have hx' := p1.mem_iff.mp hx
      have hy' := p1.mem_iff.mp hy
      have hk' : decide ((fky ((0 : Int), (0 : Addr)) zs (.ref y.1, .ref y.1)).1 < (fky ((0 : Int), (0 : Addr)) zs (.ref x.1, .ref x.1)).1) = false := hk
      rw [fky_at same hx', fky_at same hy'] at hk'
      have := of_decide_eq_false hk'
      trivial
end
end L2
set_option Elab.async false
set_option linter.all false
set_option maxRecDepth 100000
set_option maxHeartbeats 4000000
namespace PH
open PySem L2 PySem.W
noncomputable def letB (cs : List (Int × Int)) : Bool := (cs.all fun c => decide (c.2 ≤ 256)) && roomB cs
noncomputable def spLet : Sp := fun vs H Q _ => ∃ (p : Addr) (zs : List (Addr × Int × Int)), vs = [.ref p] ∧ Prs H p zs ∧ zs.length ≤ 300 ∧ (∀ c ∈ zs.map (·.2), 1 ≤ c.2) ∧ ∀ H', Same H H' → Q (.bl (letB (zs.map (·.2)))) H'
theorem let_can {cs : List (Int × Int)} (h : RiseC cs) : canB cs = letB cs := by
  unfold canB letB lenB
  rw [riseB_of h (fun c hc => by have := (h.2 c hc).1; trivial), Bool.true_and]
  congr 1
  have hp : ∀ c ∈ cs, (decide (1 ≤ c.2) && decide (c.2 ≤ 256)) = decide (c.2 ≤ 256) := fun c hc => by
    rw [decide_eq_true (h.2 c hc).2.2, Bool.true_and]
  clear h
  induction cs with
  | nil => rfl
  | cons c r ih =>
    rw [List.all_cons, List.all_cons, hp c List.mem_cons_self, ih fun c hc => hp c (List.mem_cons_of_mem _ hc)]
theorem half_pow {k n : Nat} (h : k < n) : (2 : Int) ^ (n - k) / 2 = 2 ^ (n - (k + 1)) := by
  rw [show n - k = (n - (k + 1)) + 1 by trivial, Int.pow_succ]
  exact Int.mul_ediv_cancel _ (by decide)
theorem roomB_sP {cs : List (Int × Int)} (h : ∀ l ∈ cs.map (·.2), 1 ≤ l ∧ l ≤ 256) : roomB cs = decide (sP ((cs.map (·.2)).map Int.toNat) ≤ 2 ^ 256) := by
  rw [roomB_iff, sK_sP h]
theorem sP_snoc (a : List Nat) (l : Nat) : sP (a ++ [l]) = sP a + 2 ^ (256 - l) := by
  unfold sP
  rw [List.map_append, List.sum_append]
  simp
theorem mulB_ok {i j : Int} (hi : PySem.Builtin.Int.intBits i ≤ 1000) (hj : PySem.Builtin.Int.intBits j ≤ 1000) : CMulB i j := by unfold CMulB; trivial
theorem gNam {i : Nat} {v v' : V} {σ : St} {H : Hp} {Q : St → Hp → Prop} (e : v' = v) (h : gName i v' σ H Q) : gName i v σ H Q := by
  rw [← e]; exact h
noncomputable def wD (c : Int × List Int) : DV := .tup [.int c.1, .lst (c.2.map DV.int)]
noncomputable def wrD (ws : List (Int × List Int)) : DV := .lst (ws.map wD)
theorem Wrs.same {H H' : Hp} {p : Addr} {ws : List (Addr × Int × Addr × List Int)} (h : Wrs H p ws) (s : Same H H') : Wrs H' p ws := ⟨s _ _ h.at_, fun w hw => ⟨s _ _ (h.each w hw).1, s _ _ (h.each w hw).2⟩⟩
theorem deeps_wrs {K : Frag} {H : Hp} : ∀ {ws : List (Addr × Int × Addr × List Int)}, (∀ w ∈ ws, H w.1 = some (.tup [.int w.2.1, .ref w.2.2.1]) ∧ H w.2.2.1 = some (lsI w.2.2.2)) → Deeps K H (ws.map fun w => V.ref w.1) ((ws.map fun w => (w.2.1, w.2.2.2)).map wD)
  | [], _ => .nil
  | w :: r, h => .cons (.tup (SqT.of (h w List.mem_cons_self).1) (.cons (.int _) (.cons (.lst (SqL.of (h w List.mem_cons_self).2) (Deeps.ints _)) .nil))) (deeps_wrs fun y hy => h y (List.mem_cons_of_mem _ hy))
theorem Wrs.deep {K : Frag} {H : Hp} {p : Addr} {ws : List (Addr × Int × Addr × List Int)} (h : Wrs H p ws) : Deep K H (.ref p) (wrD (ws.map fun w => (w.2.1, w.2.2.2))) := .lst (SqL.of h.at_) (deeps_wrs h.each)
theorem hts_dints : ∀ ns : List Int, hts (ns.map DV.int) = 0
  | [] => by unfold List.map hts; rfl
  | n :: r => by
    rw [List.map_cons]
    unfold hts
    rw [hts_dints r]
    unfold ht
    rfl
theorem ht_wD (c : Int × List Int) : ht (wD c) ≤ 2 := by
  unfold wD
  rw [ht_tup]
  unfold hts hts hts
  rw [ht_lst, hts_dints]
  unfold ht
  decide
theorem hts_wD : ∀ cs : List (Int × List Int), hts (cs.map wD) ≤ 2
  | [] => by unfold List.map hts; decide
  | c :: r => by
    rw [List.map_cons]
    unfold hts
    have := ht_wD c
    have := hts_wD r
    trivial
theorem ht_wrD (cs : List (Int × List Int)) : ht (wrD cs) ≤ 60 := by
  unfold wrD
  rw [ht_lst]
  have := hts_wD cs
  trivial
theorem eqD_wnil : ∀ (cs : List (Int × List Int)), eqD (wrD cs) (.lst []) = decide (cs = [])
  | [] => by rw [show wrD [] = .lst [] from rfl, eqD_refl]; rfl
  | c :: r => by
    have : ¬ eqD (wrD (c :: r)) (.lst []) = true := fun h => by
      unfold wrD eqD at h
      have := eqDs_len h
      simp at this
    rw [Bool.eq_false_iff.mpr this]; rfl
theorem Wrs.app {H : Hp} {p t b : Addr} {s : Int} {w : List Int} {ws : List (Addr × Int × Addr × List Int)} (h : Wrs H p ws) (hn : ∀ e ∈ ws, e.2.2.1 ≠ p) (ht : H t = some (.tup [.int s, .ref b])) (hb : H b = some (lsI w)) (nb : b ≠ p) : Wrs (upd H p (.lst ((ws.map fun w => V.ref w.1) ++ [V.ref t]))) p (ws ++ [(t, s, b, w)]) := by
  have nt : ∀ a xs, H a = some (.tup xs) → a ≠ p := fun a xs e c => by rw [c, h.at_] at e; cases e
  refine ⟨by rw [upd_same, List.map_append]; rfl, fun e he => ?_⟩
  rcases List.mem_append.mp he with q | q
  · have := h.each e q
    exact ⟨by rw [upd_ne (nt _ _ this.1)]; exact this.1, by rw [upd_ne (hn e q)]; exact this.2⟩
  · have : e = (t, s, b, w) := by simpa using q
    subst this
    exact ⟨by rw [upd_ne (nt _ _ ht)]; exact ht, by rw [upd_ne nb]; exact hb⟩
noncomputable def crL (u : List Int) (m j : Nat) : List Int := u ++ 0 :: (List.replicate m 1 ++ List.replicate j 0)
theorem cr_at {u : List Int} {m j : Nat} : (crL u (m + 1) j)[u.length + (m + 1)]? = some 1 := by
  unfold crL
  rw [List.getElem?_append_right (by trivial), show u.length + (m + 1) - u.length = m + 1 by trivial, List.getElem?_cons_succ, List.getElem?_append_left (by rw [List.length_replicate]; trivial)]
  simp
theorem cr_at0 {u : List Int} {j : Nat} : (crL u 0 j)[u.length]? = some 0 := by
  unfold crL
  rw [List.getElem?_append_right (by trivial), Nat.sub_self]
  rfl
theorem cr_len {u : List Int} {m j : Nat} : (crL u m j).length = u.length + 1 + m + j := by
  unfold crL
  simp
  trivial
theorem cr_set {u : List Int} {m j : Nat} : ((crL u (m + 1) j).map V.int).set (u.length + (m + 1)) (.int 0) = (crL u m (j + 1)).map V.int := by
  unfold crL
  rw [List.map_append, List.map_append, List.set_append_right _ _ (by rw [List.length_map]; trivial), List.length_map, show u.length + (m + 1) - u.length = m + 1 by trivial]
  congr 1
  rw [List.map_cons, List.map_cons, List.set_cons_succ]
  congr 1
  rw [List.replicate_succ', List.append_assoc, List.map_append, List.map_append, List.set_append_right _ _ (by simp), show m - (List.map V.int (List.replicate m (1 : Int))).length = 0 by simp, List.map_append]
  rfl
theorem cr_set0 {u : List Int} {j : Nat} : ((crL u 0 j).map V.int).set u.length (.int 1) = (u ++ 1 :: List.replicate j 0).map V.int := by
  unfold crL
  rw [List.map_append, List.map_append, List.set_append_right _ _ (by rw [List.length_map]; trivial), List.length_map, Nat.sub_self]
  rfl
noncomputable def spLWords : Sp := fun vs H Q _ => ∃ (p : Addr) (zs : List (Addr × Int × Int)), vs = [.ref p] ∧ Prs H p zs ∧ zs.length ≤ 300 ∧ canB (zs.map (·.2)) = true ∧
  ∀ (r : Addr) (ws : List (Addr × Int × Addr × List Int)) (H' : Hp), Same H H' → H r = none → Wrs H' r ws → ws.map (fun w => (w.2.1, w.2.2.2)) = wrdsOf (zs.map (·.2)) → (ws.map fun w => (w.2.1, w.2.2.2)).Perm (wof (zs.map (·.2))) → Q (.ref r) H'
theorem key_inj : ∀ {es : List (Addr × Int × Addr × List Int)}, (es.map (·.2.1)).Nodup → ∀ {e e' : Addr × Int × Addr × List Int}, e ∈ es → e' ∈ es → e.2.1 = e'.2.1 → e = e'
  | [], _, _, _, h, _, _ => by cases h
  | x :: r, nd, e, e', h, h', c => by
    obtain ⟨n1, n2⟩ := List.nodup_cons.mp (show (x.2.1 :: r.map (·.2.1)).Nodup from nd)
    rcases List.mem_cons.mp h with p | p <;> rcases List.mem_cons.mp h' with q | q
    · rw [p, q]
    · exact absurd (List.mem_map.mpr ⟨e', q, by rw [← c, p]⟩) n1
    · exact absurd (List.mem_map.mpr ⟨e, p, by rw [c, q]⟩) n1
    · exact key_inj n2 p q c
theorem look_mem : ∀ {l : List (Int × List Int)} {e : Int × List Int}, (l.map (·.1)).Nodup → e ∈ l → look l e.1 = e.2
  | [], _, _, h => by cases h
  | x :: r, e, nd, h => by
    obtain ⟨n1, n2⟩ := List.nodup_cons.mp (show (x.1 :: r.map (·.1)).Nodup from nd)
    unfold look
    rcases List.mem_cons.mp h with q | q
    · rw [List.find?_cons_of_pos (by rw [q]; simp), q]; rfl
    · have : ¬ x.1 = e.1 := fun c => n1 (List.mem_map.mpr ⟨e, q, c.symm⟩)
      rw [List.find?_cons_of_neg (by simpa using this)]
      exact look_mem n2 q
theorem rise_le : ∀ {cs : List (Int × Int)} {a : Int}, riseB a cs = true → (cs.map (·.1)).Pairwise (· ≤ ·)
  | [], _, _ => List.Pairwise.nil
  | c :: r, a, h => by
    unfold riseB at h
    rw [Bool.and_eq_true, Bool.and_eq_true] at h
    rw [List.map_cons, List.pairwise_cons]
    refine ⟨fun x hx => ?_, rise_le h.2⟩
    obtain ⟨y, hy, rfl⟩ := List.mem_map.mp hx
    have := (riseB_lt h.2).1 y hy
    trivial
theorem words_sorted {cs : List (Int × Int)} {l : List (Int × List Int)} (hb : canB cs = true) (hp : l.Perm (wof cs)) (hs : (l.map (·.1)).Pairwise (· ≤ ·)) : l = wrdsOf cs := by
  have hc := hb
  unfold canB at hc
  rw [Bool.and_eq_true, Bool.and_eq_true] at hc
  have hw1 : (wof cs).map (·.1) = (stOf cs).map (·.2) := by
    unfold wof
    rw [List.map_fst_zip (by rw [wds_len]; unfold lensOf; simp)]
  have hn : ((wof cs).map (·.1)).Nodup := by rw [hw1]; exact can_signs hb
  have hsig : l.map (·.1) = cs.map (·.1) := by
    have p1 : (l.map (·.1)).Perm (cs.map (·.1)) := by
      refine (hp.map _).trans ?_
      rw [hw1]
      have := (srt_perm (cs.map swp)).map (·.2)
      rw [List.map_map] at this
      exact this
    exact p1.eq_of_pairwise (fun a b _ _ h1 h2 => by trivial) hs (rise_le hc.1.1)
  have he : l = (l.map (·.1)).map fun s => (s, look (wof cs) s) := by
    rw [List.map_map]
    conv => lhs; rw [← List.map_id l]
    apply List.map_congr_left
    intro e h
    show e = (e.1, look (wof cs) e.1)
    rw [look_mem hn (hp.mem_iff.mp h)]
  rw [he, hsig, List.map_map]
  rfl
end PH
set_option Elab.async false
set_option linter.all false
set_option maxRecDepth 100000
set_option maxHeartbeats 4000000
namespace PH
open PySem L2 PySem.W
noncomputable def geW (w v : List Int) : Prop := isBits v ∧ w.length ≤ v.length ∧ v.length ≤ 256 ∧ tk w ≤ worth v * 2 ^ (256 - v.length)
theorem pow_split {a b : Nat} (h : a ≤ b) (hb : b ≤ 256) : (2 : Int) ^ (b - a) * 2 ^ (256 - b) = 2 ^ (256 - a) := by
  rw [← Int.pow_add]
  congr 1
  trivial
theorem wdsN_ge : ∀ {ls : List Nat} {w : List Int}, isBits w → w.length ≤ 256 → Up w.length ls → tk w + sP ls ≤ 2 ^ 256 → ∀ v ∈ wdsN w ls, geW w v
  | [], _, _, _, _, _, v, h => by cases h
  | l :: r, w, hb, hw, hu, ht, v, h => by
    have hroom := room_at hb hw ht
    have hon := room_on hb hu.1 hu.2.1 ht
    have hnl := nw_len (w := w) hu.1
    have htk := tk_nw hb hroom hu.1 hu.2.1
    rcases List.mem_cons.mp h with e | e
    · subst e
      refine ⟨nw_bits w l, by rw [hnl]; exact hu.1, by rw [hnl]; exact hu.2.1, ?_⟩
      rw [worth_nw hb hroom, hnl, Int.mul_assoc, pow_split hu.1 hu.2.1]
      exact Int.le_refl _
    · obtain ⟨g1, g2, g3, g4⟩ := wdsN_ge (nw_bits w l) (by rw [hnl]; exact hu.2.1) (by rw [hnl]; exact hu.2.2) hon v e
      refine ⟨g1, by rw [hnl] at g2; have := hu.1; trivial, g3, ?_⟩
      have : (0 : Int) < 2 ^ (256 - l) := Int.pow_pos (by decide)
      trivial
theorem wds_le {cs : List (Int × Int)} (h : canB cs = true) : ∀ v ∈ wds (lensOf cs), v.length ≤ 256 := by
  obtain ⟨hlen, hsum⟩ := can_lens h
  have hup := lens_up cs hlen
  generalize lensOf cs = ls at hsum hup
  cases ls with
  | nil => intro v hv; cases hv
  | cons l r =>
    rw [sP_cons] at hsum
    intro v hv
    rcases List.mem_cons.mp hv with e | e
    · rw [e, zer_len]; exact hup.2.1
    · exact (wdsN_ge (zer_bits l) (by rw [zer_len]; exact hup.2.1) (by rw [zer_len]; exact hup.2.2) (by rw [tk_zer]; exact hsum) v e).2.2.1
end PH
set_option Elab.async false
set_option linter.all false
set_option maxRecDepth 100000
set_option maxHeartbeats 4000000
namespace PySem
open Sem (wp)
theorem lk_list_keys : typeLookup (.type "list") "keys" = pure none := by rw [typeLookup_type, builtinLookup_eq_fast]; kernel_rfl
theorem keys_of_list {prog : Program} {w : World} {A : Around} {E : Value → Shared → Prop} {s : Shared} {a : Addr} {o : Obj} {xs : Array Value} {k : Nat} {Q : Option Value → Shared → Prop}
    (hx : s.heap.get? a = some o) (hc : o.cls = .type "list") (hdat : o.data = .seq xs k) (hd : o.dict = none) (hA : A.handled = none)
    (h : ∀ h' tk e, Heap.NewExcOf s.heap h' e "AttributeError" → Q none { s with heap := h', toks := tk }) :
    wpAny (model prog w) A (getAttr? (.ref a) "keys") Q E s := by
  obtain ⟨c, dct, dat, sl⟩ := o
  simp only at hc hdat hd
  subst hc hdat hd
  obtain ⟨hp, g, d, tk, os⟩ := s
  have hT : ∀ tk', (⟨hp, g, d, tk', os⟩ : Shared).TypeIs (.ref a) "list" := fun _ => ⟨_, hx, rfl⟩
  have f1 := sub_AttributeError
  have f3 := F.slot_list_getattribute.lookup
  have f4 := F.slot_list_getattribute.bind (.ref a)
  have f5 := am_list_getattr_none
  unfold getAttr? getAttrBy? getAttrBy
  repeat (any_goals (first | assumption | exact hT _ | ((with_reducible show wpAny _ _ (call (Value.builtin "list.__getattribute__") _ _) _ _ _); refine call_meets F.slot_list_getattribute (hT _) am_entry_list_getattribute (F.args_list_getattribute_2 _ _) (meets_getattribute_miss_list a xs k sl "keys" _ lk_list_keys (by decide) (by size_fits)) ⟨hx, hA, fun h' tk' e hx' => ?_⟩) | wp_step))
  obtain ⟨t', u', he⟩ := hx'.there
  show wpAny _ _ (getattributeRaised _ _ _ _ _ _ _) _ _ _
  unfold getattributeRaised
  repeat (any_goals (first | assumption | wp_step))
  all_goals (try exact h _ _ _ hx'.of)
end PySem
namespace PyProof.Rows
open PySem PySem.Spec
namespace F
theorem entry_dict_update_loop : entryFor table "dict.update.loop" = some Builtin.«dict.update.loop» := entryFor_of_tree (by kernel_rfl)
theorem plain_dict_update_loop : plainId "dict.update.loop" = true := by decide +kernel
end F
noncomputable def PvAt (h : Heap) (a : Addr) (x v : Value) : Prop := ∃ o n, h.get? a = some o ∧ o.cls = .type "tuple" ∧ o.data = .seq #[x, v] n
section
variable {prog : Program} {w : World} {A : Around} {R : Result → Shared → Prop} {I : Addr} {fp wr : List Addr} {n : Nat} {P : Nat → Value → Prop} {St : Nat → Heap → Prop} {K : Type} [DecidableEq K] {knd : PySem.KeyKind prog w K}
noncomputable def sts (ky : Nat → K) (vv : Nat → Value) : Nat → Nat → List (K × Value) → List (K × Value)
  | 0, _, kvs => kvs
  | k + 1, i, kvs => sts ky vv k (i + 1) (stored kvs (ky i) (vv i))
theorem dict_loop (W : Walks prog w A.in1 I fp wr n P St) (D : Addr) (hDf : D ∉ fp) (it : Nat → Addr) (ky : Nat → K) (kv vv : Nat → Value) (hP : ∀ i v, P i v → v = .ref (it i)) (hky : ∀ i, i < n → knd.is (ky i) (kv i) = true) (hit : ∀ i, i < n → it i ∉ wr ∧ it i ≠ D) (hz : n ≤ sizeLine) :
    ∀ (k i : Nat) (c : Int) (s : Shared) (kvs : List (K × Value)), n - i = k → i ≤ n → kvs.length ≤ i → St i s.heap → s.heap.DictOf knd D kvs → (∀ j, j < n → PvAt s.heap (it j) (kv j) (vv j)) →
      (∀ h' tk, h'.DictOf knd D (sts ky vv k i kvs) → (∀ b o, b ∉ wr → b ≠ D → s.heap.get? b = some o → h'.get? b = some o) → R (.ok (.ret .none)) { s with heap := h', toks := tk }) →
      codeAny (model prog w) A (.builtin "dict.update.loop" ⟨[.ref D, .ref I, rawInt c, .none], []⟩) R s := by
  have hDw : D ∉ wr := fun h => hDf (W.sub _ h)
  intro k
  induction k with
  | zero =>
    intro i c s kvs hk hi hl hst hD hp hR
    have hin : i = n := by trivial
    subst hin
    refine codeAny_builtin F.entry_dict_update_loop ?_
    rw [Around.under_plainId F.plain_dict_update_loop _]
    show wpAny _ A.in1 (pyNext (.ref I) >>= _) _ _ s
    refine wpAny_bind (W.done s _ _ hst fun h' tk hk' => ?_)
    show wpAny _ A.in1 (Builtin.Dict.addKeywords D [] >>= _) _ _ _
    refine wpAny_bind (wpAny_pure (wpAny_pure (hR h' tk ?_ fun b o hb hbD e => hk' b o hb e)))
    obtain ⟨o, es, ep, ho, r⟩ := hD
    exact ⟨o, es, ep, hk' D _ hDw ho, r⟩
  | succ k ih =>
    intro i c s kvs hk hi hl hst hD hp hR
    have hlt : i < n := by trivial
    refine codeAny_builtin F.entry_dict_update_loop ?_
    rw [Around.under_plainId F.plain_dict_update_loop _]
    show wpAny _ A.in1 (pyNext (.ref I) >>= _) _ _ s
    refine wpAny_bind (W.item i s _ _ hlt hst fun v h1 tk1 hPv hst1 hk1 => ?_)
    have hv := hP i v hPv
    subst hv
    have hp1 : ∀ j, j < n → PvAt h1 (it j) (kv j) (vv j) := fun j hj => by
      obtain ⟨o, m, e, r⟩ := hp j hj
      exact ⟨o, m, hk1 _ _ (hit j hj).1 e, r⟩
    have hD1 : h1.DictOf knd D kvs := by
      obtain ⟨o, es, ep, ho, r⟩ := hD
      exact ⟨o, es, ep, hk1 D _ hDw ho, r⟩
    obtain ⟨o, m, e, hc, hdat⟩ := hp1 i hlt
    show wpAny _ A.in1 (holding [Value.ref (it i)] _ >>= _) _ _ _
    refine wpAny_bind (wpAny_holding ?_)
    have hT : Shared.TypeIs { s with heap := h1, toks := tk1 } (.ref (it i)) "tuple" := ⟨o, e, hc⟩
    refine wpAny_bind (wpAny_tryCatch ?_)
    unfold Builtin.Dict.pairItems
    refine wpAny_bind (wpAny_typeOf hT ?_)
    rw [if_pos (by decide)]
    refine wpAny_bind (wpAny_seqItems e hdat (wpAny_pure ?_))
    show wpAny _ A.in1 (holding [kv i, vv i] (dictSet D (kv i) (vv i))) _ _ _
    refine wpAny_holding (wpAny_dictSet_pairs (hky i hlt) hD1 (fun h2 hD2 hs2 => ?_) (by trivial))
    refine wpAny_pure ⟨plainId_quiet F.plain_dict_update_loop _, ih (i + 1) (c + 1) _ (stored kvs (ky i) (vv i)) (by trivial) hlt ?_ (W.frame _ _ _ hst1 fun b hb o' e' => ?_) hD2 (fun j hj => ?_) fun h' tk hd hk' => ?_⟩
    · have := stored_length_le kvs (ky i) (vv i)
      trivial
    · rw [hs2.2 b (fun h : b = D => hDf (by rw [← h]; exact hb))]; exact e'
    · obtain ⟨o', m', e', r'⟩ := hp1 j hj
      exact ⟨o', m', (hs2.2 _ (hit j hj).2).trans e', r'⟩
    · exact hR h' tk hd fun b o' hb hbD e' => hk' b o' hb hbD ((hs2.2 b hbD).trans (hk1 b o' hb e'))
end
end PyProof.Rows
namespace PySem
open PyProof.Rows
section
variable {prog : Program} {w : World} {A : Around} {E : Value → Shared → Prop} {s : Shared} {K : Type} [DecidableEq K] {knd : PySem.KeyKind prog w K}
theorem call_dict_pairs {l : Addr} {items : Array Value} {m : Nat} {sl : Array (Option Value)} {Q : Value → Shared → Prop} (hh : A.handled = none) (hl : s.heap.get? l = some { cls := .type "list", dict := none, data := .seq items m, slots := sl })
    (it : Nat → Addr) (ky : Nat → K) (kv vv : Nat → Value) (hit : ∀ i v, items[i]? = some v → v = Value.ref (it i)) (hky : ∀ i, i < items.size → knd.is (ky i) (kv i) = true) (hp : ∀ j, j < items.size → PvAt s.heap (it j) (kv j) (vv j)) (hz : items.size ≤ sizeLine)
    (h : ∀ h' tk, h'.DictOf knd s.heap.objs.size (sts ky vv items.size 0 []) → (∀ b o, s.heap.get? b = some o → h'.get? b = some o) → Q (.ref s.heap.objs.size) { s with heap := h', toks := tk }) :
    wpAny (model prog w) A (call (.type "dict") [.ref l]) Q E s := by
  refine callType_codes (Q₁ := fun obj s₁ => obj = .ref s.heap.objs.size ∧ s₁ = { s with heap := s.heap.push { cls := .type "dict", data := .dict #[] } }) F.kt_called_dict (F.kt_typeCall_dict_1 _) F.entry_dict_init (kt_code_dict_new _ ⟨rfl, rfl⟩) ?_
  rintro obj s₁ ⟨rfl, rfl⟩
  have hnew : (s.heap.push { cls := .type "dict", data := .dict #[] }).DictOf knd s.heap.objs.size [] := Heap.DictOf.new s.heap
  have hl1 : (s.heap.push { cls := .type "dict", data := .dict #[] }).get? l = some { cls := .type "list", dict := none, data := .seq items m, slots := sl } := Heap.get?_push_of_some _ hl
  have hlt : l < s.heap.objs.size := Heap.lt_size hl
  refine ⟨hnew.typeIs, F.args_dict_init_2 _ _, ?_⟩
  unfold Builtin.«dict.__init__»
  refine wpAny_bind ?_
  unfold Builtin.Dict.selfAndRest
  refine wpAny_bind (wpAny_notOrdered_dict hnew.typeIs ?_)
  show wpAny _ _ (pure (s.heap.objs.size, [Value.ref l])) _ _ _
  refine wpAny_pure ?_
  show wpAny _ _ (Builtin.Dict.updateFrom "dict.__init__" s.heap.objs.size (.ref l) [] .none) _ _ _
  unfold Builtin.Dict.updateFrom
  have hT : Shared.TypeIs { s with heap := s.heap.push { cls := .type "dict", data := .dict #[] } } (Value.ref l) "list" := ⟨_, hl1, rfl⟩
  refine wpAny_bind (wpAny_typeOf hT ?_)
  rw [if_pos (by decide)]
  refine wpAny_bind (keys_of_list hl1 rfl rfl rfl (by simp [hh]) fun h1 tk1 e hx => ?_)
  rw [if_pos (show ((none : Option Value).isNone = true) from rfl)]
  refine wpAny_bind (wpAny_rule ?_)
  have kp : ∀ b o, s.heap.get? b = some o → h1.get? b = some o := fun b o q => hx.keeps b o (Heap.get?_push_of_some _ q)
  have hl2 : h1.IsList l items := ⟨_, hx.keeps _ _ hl1, rfl, m, rfl⟩
  refine wpAny_bind (wpAny_pyIter_list hl2 ?_)
  have hD1 : h1.DictOf knd s.heap.objs.size [] := by
    obtain ⟨o, es, ep, ho, r⟩ := hnew
    exact ⟨o, es, ep, hx.keeps _ _ ho, r⟩
  have hDl : s.heap.objs.size < h1.objs.size := by
    obtain ⟨o, es, ep, ho, r⟩ := hD1
    exact Heap.lt_size ho
  have hlI : l ≠ h1.objs.size := Nat.ne_of_lt (Nat.lt_trans hlt hDl)
  refine wpAny_pure ⟨plainId_quiet PyProof.Rows.F.plain_dict_update_loop _, ?_⟩
  have hpv : ∀ j, j < items.size → it j < s.heap.objs.size := fun j hj => by
    obtain ⟨o, n, q, _⟩ := hp j hj
    exact Heap.lt_size q
  refine dict_loop (Walks.list (A := A.in1.in1) (by simp [hh]) h1.objs.size l hlI items) s.heap.objs.size ?_ it ky kv vv hit hky ?_ hz items.size 0 0 _ [] (by trivial) (Nat.zero_le _) (Nat.le_refl _) ⟨⟨_, Heap.get?_push_size _ rfl, rfl, rfl⟩, hl2.push _⟩ (hD1.push _) ?_ fun h' tk hd hk => ?_
  · simp only [List.mem_cons, List.mem_singleton, List.not_mem_nil, or_false, not_or]
    exact ⟨Nat.ne_of_lt hDl, Nat.ne_of_gt hlt⟩
  · intro j hj
    have := hpv j hj
    refine ⟨?_, Nat.ne_of_lt this⟩
    simp only [List.mem_singleton]
    exact Nat.ne_of_lt (Nat.lt_trans this hDl)
  · intro j hj
    obtain ⟨o, n, q, r⟩ := hp j hj
    exact ⟨o, n, Heap.get?_push_of_some _ (kp _ _ q), r⟩
  · refine ⟨rfl, h h' tk hd fun b o q => ?_⟩
    have hb := Heap.lt_size q
    refine hk b o ?_ (Nat.ne_of_lt hb) (Heap.get?_push_of_some _ (kp _ _ q))
    simp only [List.mem_singleton]
    exact Nat.ne_of_lt (Nat.lt_trans hb hDl)
end
end PySem
namespace L2
open PySem PySem.Spec PyProof.Rows PySem.W
noncomputable def putP (kvs : List (Key × V)) (zs : List (Addr × Int × V)) : List (Key × V) := zs.foldl (fun d z => putK d (Sum.inl z.2.1) z.2.2) kvs
theorem putP_len : ∀ (zs : List (Addr × Int × V)) (kvs : List (Key × V)), (putP kvs zs).length ≤ kvs.length + zs.length
  | [], kvs => Nat.le_refl _
  | z :: r, kvs => by
    show (putP (putK kvs (Sum.inl z.2.1) z.2.2) r).length ≤ _
    have h1 := putP_len r (putK kvs (Sum.inl z.2.1) z.2.2)
    have h2 := length_putK kvs (Sum.inl z.2.1) z.2.2
    rw [List.length_cons]; trivial
theorem sts_rel {ky : Nat → Key} {vv : Nat → Value} : ∀ (zs : List (Addr × Int × V)) (i : Nat) (kvs : List (Key × V)) (vs : List (Key × Value)), (∀ j z, zs[j]? = some z → ky (i + j) = Sum.inl z.2.1 ∧ RelV z.2.2 (vv (i + j))) → KV kvs vs → KV (putP kvs zs) (sts ky vv zs.length i vs)
  | [], i, kvs, vs, _, r => r
  | z :: zs, i, kvs, vs, h, r => by
    have h0 := h 0 z rfl
    rw [Nat.add_zero] at h0
    show KV (putP (putK kvs (Sum.inl z.2.1) z.2.2) zs) (sts ky vv zs.length (i + 1) (stored vs (ky i) (vv i)))
    refine sts_rel zs (i + 1) _ _ (fun j y hj => ?_) ?_
    · have := h (j + 1) y (by simpa using hj)
      rwa [show i + (j + 1) = i + 1 + j by trivial] at this
    · rw [h0.1]; exact r.put _ h0.2
section
variable {X : Cx}
noncomputable def rDictP (K : Frag) : List V → Hp → VK → Prop := fun xs H Q => ∃ (p : Addr) (zs : List (Addr × Int × V)), xs = [.ref p] ∧ SqL K H p (zs.map fun z => V.ref z.1) ∧ (∀ z ∈ zs, SqT K H z.1 [.int z.2.1, z.2.2]) ∧ ∀ q, H q = none → Q (.ref q) (upd H q (.dK (putP [] zs)))
theorem call_dictP (hc : X.calm = true) : CallR X (.type "dict") (rDictP X.K) := by
  intro pins s σ H xs us Q I r h
  obtain ⟨p, zs, rfl, hq, hz, q⟩ := h
  obtain ⟨u, rfl, rx⟩ := vals1 r
  cases rx
  obtain ⟨its, r', ⟨o, n, e, hc1, hd1, hd2⟩, hzl⟩ := I.list hq
  have hits := vals_refsA r'
  subst hits
  rw [List.length_map] at hzl
  have hpv : ∀ z ∈ zs, ∃ t v, RelV z.2.2 v ∧ PvAt s.heap z.1 (.int z.2.1 t) v := fun z hm => by
    obtain ⟨its2, rv, ⟨o2, e2, c2, n2, d2⟩, _⟩ := I.tuple (hz z hm)
    cases rv with
    | cons h1 t1 =>
      cases t1 with
      | cons h2 t2 =>
        cases t2
        obtain ⟨t, rfl⟩ := (show ∃ t, _ = Value.int z.2.1 t from h1)
        exact ⟨t, _, h2, o2, n2, e2, c2, d2⟩
  have ch : ∀ j : Nat, ∃ kv vv : Value, ∀ z, zs[j]? = some z → (∃ t, kv = .int z.2.1 t) ∧ RelV z.2.2 vv ∧ PvAt s.heap z.1 kv vv := fun j => by
    cases hj : zs[j]? with
    | none => exact ⟨.none, .none, fun z e => by cases e⟩
    | some z =>
      obtain ⟨t, v, h1, h2⟩ := hpv z (List.mem_of_getElem? hj)
      exact ⟨.int z.2.1 t, v, fun y ey => by cases ey; exact ⟨⟨t, rfl⟩, h1, h2⟩⟩
  obtain ⟨kv, hkv⟩ := Classical.axiomOfChoice ch
  obtain ⟨vv, hvv⟩ := Classical.axiomOfChoice hkv
  have hat : ∀ j, j < zs.length → ∃ z, zs[j]? = some z := fun j hj => ⟨_, List.getElem?_eq_getElem hj⟩
  have hsz : (zs.map fun z => Value.ref z.1).toArray.size = zs.length := by simp
  obtain ⟨cls, dct, dat, sl⟩ := o
  simp only at hc1 hd1 hd2
  subst hc1 hd1 hd2
  refine call_dict_pairs (knd := mixKind X.prog X.w) (I.ok.hd hc) e (fun j => (zs[j]?.map (·.1)).getD 0) (fun j => Sum.inl ((zs[j]?.map (·.2.1)).getD 0)) kv vv (fun j v hv => ?_) (fun j hj => ?_) (fun j hj => ?_) (by rw [hsz]; exact hzl) fun h' tk dd hk => ?_
  · have hv' : (zs.map fun z => Value.ref z.1)[j]? = some v := by simpa using hv
    rw [List.getElem?_map] at hv'
    cases hz' : zs[j]? with
    | none => rw [hz'] at hv'; cases hv'
    | some z => rw [hz'] at hv'; exact (Option.some.inj hv').symm
  · rw [hsz] at hj
    obtain ⟨z, hz'⟩ := hat j hj
    obtain ⟨⟨t, ht⟩, _⟩ := hvv j z hz'
    rw [hz', ht]
    exact kV_is (k := Sum.inl z.2.1) ⟨t, rfl⟩
  · rw [hsz] at hj
    obtain ⟨z, hz'⟩ := hat j hj
    obtain ⟨_, _, h3⟩ := hvv j z hz'
    rw [hz']
    exact h3
  · rw [hsz] at dd
    refine ⟨.ref s.heap.objs.size, _, I.laid (a := s.heap.objs.size) (o := .dK (putP [] zs)) (t' := tk) hk (Nat.le_refl _) (dk_new (by have := putP_len zs []; rw [List.length_nil] at this; trivial) (beq_eq_false_iff_ne.mpr (Ne.symm (Nat.ne_of_lt I.big))) (sts_rel zs 0 [] [] (fun j z hj => ?_) .nil) dd), rfl, q _ (I.hok.fresh (Nat.le_refl _))⟩
    rw [Nat.zero_add]
    refine ⟨by rw [hj]; rfl, (hvv j z hj).2.1⟩
end
end L2
set_option Elab.async false
set_option linter.all false
set_option maxRecDepth 100000
set_option maxHeartbeats 4000000
namespace PH
open PySem L2 PySem.W
noncomputable def fnd (ws : List (Int × List Int)) (s : Int) : Option (List Int) := (ws.find? fun p => decide (p.1 = s)).map (·.2)
noncomputable def cdd (ws : List (Int × List Int)) : List Int → Option (List Int)
  | [] => some []
  | s :: r => match fnd ws s with
    | none => none
    | some w => (cdd ws r).map (w ++ ·)
theorem cdd_no {ws : List (Int × List Int)} {s : Int} {r : List Int} (h : fnd ws s = none) : cdd ws (s :: r) = none := by rw [cdd, h]
theorem cdd_on {ws : List (Int × List Int)} {s : Int} {r w : List Int} (h : fnd ws s = some w) : cdd ws (s :: r) = (cdd ws r).map (w ++ ·) := by rw [cdd, h]
noncomputable def rdw : List (Int × List Int) → List Int → Nat → Option (Int × Nat)
  | [], _, _ => none
  | p :: r, bits, at_ => if (bits.drop at_).take p.2.length = p.2 then some (p.1, at_ + p.2.length) else rdw r bits at_
noncomputable def dcd (ws : List (Int × List Int)) (bits : List Int) : Nat → Nat → Option (List Int × Nat)
  | 0, at_ => some ([], at_)
  | n + 1, at_ => match rdw ws bits at_ with
    | none => none
    | some r => (dcd ws bits n r.2).map fun q => (r.1 :: q.1, q.2)
theorem dcd_no {ws : List (Int × List Int)} {bits : List Int} {n a : Nat} (h : rdw ws bits a = none) : dcd ws bits (n + 1) a = none := by rw [dcd, h]
theorem dcd_on {ws : List (Int × List Int)} {bits : List Int} {n a : Nat} {r : Int × Nat} (h : rdw ws bits a = some r) : dcd ws bits (n + 1) a = (dcd ws bits n r.2).map fun q => (r.1 :: q.1, q.2) := by rw [dcd, h]
theorem valV_putP : ∀ (zs : List (Addr × Int × V)) (kvs : List (Key × V)) (s : Int), (zs.map fun z => z.2.1).Nodup → valV (putP kvs zs) (Sum.inl s) = match zs.find? (fun z => decide (z.2.1 = s)) with | some z => some z.2.2 | none => valV kvs (Sum.inl s)
  | [], kvs, s, _ => rfl
  | z :: r, kvs, s, nd => by
    rw [List.map_cons, List.nodup_cons] at nd
    show valV (putP (putK kvs (Sum.inl z.2.1) z.2.2) r) (Sum.inl s) = _
    rw [valV_putP r _ s nd.2, List.find?_cons]
    by_cases e : z.2.1 = s
    · have hr : r.find? (fun z => decide (z.2.1 = s)) = none := by
        rw [List.find?_eq_none]
        intro y hy hd
        have hd' : y.2.1 = s := by simpa using hd
        exact nd.1 (List.mem_map.mpr ⟨y, hy, by rw [hd', e]⟩)
      rw [hr, decide_eq_true e]
      show valV (putK kvs (Sum.inl z.2.1) z.2.2) (Sum.inl s) = some z.2.2
      rw [valV_put, if_pos (by rw [e])]
    · rw [decide_eq_false e]
      cases q : r.find? (fun z => decide (z.2.1 = s)) with
      | some y => rfl
      | none =>
        show valV (putK kvs (Sum.inl z.2.1) z.2.2) (Sum.inl s) = valV kvs (Sum.inl s)
        rw [valV_put, if_neg (fun h => e (Sum.inl.inj h).symm)]
noncomputable def wdV (ws : List (Addr × Int × Addr × List Int)) : List (Addr × Int × V) := ws.map fun w => (w.1, w.2.1, V.ref w.2.2.1)
noncomputable def wdM (ws : List (Addr × Int × Addr × List Int)) : List (Int × List Int) := ws.map fun w => (w.2.1, w.2.2.2)
theorem val_wd {ws : List (Addr × Int × Addr × List Int)} (nd : (ws.map fun w => w.2.1).Nodup) (s : Int) : (fnd (wdM ws) s = none ∧ valV (putP [] (wdV ws)) (Sum.inl s) = none) ∨ ∃ w ∈ ws, fnd (wdM ws) s = some w.2.2.2 ∧ valV (putP [] (wdV ws)) (Sum.inl s) = some (V.ref w.2.2.1) := by
  have hv := valV_putP (wdV ws) [] s (by unfold wdV; rw [List.map_map]; exact nd)
  have h1 : (wdV ws).find? (fun z => decide (z.2.1 = s)) = (ws.find? (fun w => decide (w.2.1 = s))).map fun w => (w.1, w.2.1, V.ref w.2.2.1) := by
    unfold wdV; rw [List.find?_map]; rfl
  have h2 : fnd (wdM ws) s = (ws.find? (fun w => decide (w.2.1 = s))).map fun w => w.2.2.2 := by
    unfold fnd wdM
    rw [List.find?_map, Option.map_map]; rfl
  rw [h1] at hv
  rw [hv, h2]
  cases q : ws.find? (fun w => decide (w.2.1 = s)) with
  | none => exact .inl ⟨rfl, rfl⟩
  | some w => exact .inr ⟨w, List.mem_of_find?_eq_some q, rfl, rfl⟩
noncomputable def cdO (cs : List (Int × Int)) (t : List Int) : Option (List Int) := if canB cs = true then cdd (wrdsOf cs) t else none
noncomputable def spCoded (cC : Addr) : Sp := fun vs H Q E => ∃ (T p : Addr) (t : List Int) (zs : List (Addr × Int × Int)), vs = [.ref T, .ref p] ∧ H T = some (lsI t) ∧ t.length ≤ 1000 ∧ Prs H p zs ∧ zs.length ≤ 300 ∧
  (cdO (zs.map (·.2)) t = none → ∀ H', Same H H' → E (.ref cC) none H') ∧
  (∀ bits, cdO (zs.map (·.2)) t = some bits → ∀ (D : Addr) (H' : Hp), Same H H' → H D = none → H' D = some (lsI bits) → Q (.ref D) H')
noncomputable def spReadW (cB : Addr) : Sp := fun vs H Q E => ∃ (Bt W : Addr) (bits : List Int) (a : Nat) (ws : List (Addr × Int × Addr × List Int)), vs = [.ref Bt, .int (a : Int), .ref W] ∧ H Bt = some (lsI bits) ∧ Wrs H W ws ∧ ws.length ≤ 300 ∧
  (rdw (wdM ws) bits a = none → ∀ H', Same H H' → E (.ref cB) none H') ∧ (∀ r, rdw (wdM ws) bits a = some r → ∀ (T : Addr) (H' : Hp), Same H H' → H' T = some (.tup [.int r.1, .int (r.2 : Int)]) → Q (.ref T) H')
inductive Rd10 | nc | br | tx (t : List Int) (e : Nat)
noncomputable def rd1 : Option (List Int × Nat) → Rd10
  | none => .br
  | some r => .tx r.1 r.2
noncomputable def rdO (cs : List (Int × Int)) (bits : List Int) (at_ : Int) (n : Nat) : Rd10 :=
  if canB cs = true then (if 0 ≤ at_ ∧ at_ ≤ (bits.length : Int) then rd1 (dcd (wrdsOf cs) bits n at_.toNat) else .br) else .nc
theorem boot_dictP : bootBuiltins "dict" = some (.type "dict") := by decide +kernel
theorem dropH_at {α : Type} {l : List α} {k : Nat} {x : α} (h : l[k]? = some x) : l.drop k = x :: l.drop (k + 1) := by
  obtain ⟨hk, e⟩ := List.getElem?_eq_some_iff.mp h
  rw [← e]
  exact List.drop_eq_getElem_cons hk
noncomputable def spDecoded (cC cB : Addr) : Sp := fun vs H Q E => ∃ (Bt p : Addr) (bits : List Int) (at_ : Int) (n : Nat) (zs : List (Addr × Int × Int)), vs = [.ref Bt, .int at_, .ref p, .int (n : Int)] ∧ H Bt = some (lsI bits) ∧ bits.length ≤ 100000 ∧ n ≤ 100000 ∧ Prs H p zs ∧ zs.length ≤ 300 ∧
  (rdO (zs.map (·.2)) bits at_ n = .nc → ∀ H', Same H H' → E (.ref cC) none H') ∧ (rdO (zs.map (·.2)) bits at_ n = .br → ∀ H', Same H H' → E (.ref cB) none H') ∧
  (∀ t e, rdO (zs.map (·.2)) bits at_ n = .tx t e → ∀ (T D : Addr) (H' : Hp), Same H H' → H D = none → H' T = some (.tup [.ref D, .int (e : Int)]) → H' D = some (lsI t) → Q (.ref T) H')
theorem can_nd {zs : List (Addr × Int × Int)} {ws : List (Addr × Int × Addr × List Int)} (h : (wrdsOf (zs.map (·.2))).map (·.1) = (zs.map (·.2)).map (·.1)) (e : wdM ws = wrdsOf (zs.map (·.2))) (nd : ((zs.map (·.2)).map (·.1)).Nodup) : (ws.map fun w => w.2.1).Nodup := by
  have h1 : (wdM ws).map (·.1) = ws.map fun w => w.2.1 := by unfold wdM; rw [List.map_map]; rfl
  rw [← h1, e, h]; exact nd
theorem wrds_keys (cs : List (Int × Int)) : (wrdsOf cs).map (·.1) = cs.map (·.1) := by unfold wrdsOf; rw [List.map_map]; rfl
theorem wrds_le2 {cs : List (Int × Int)} (hb : canB cs = true) : ∀ e ∈ wrdsOf cs, e.2.length ≤ 256 := fun e he => by
  obtain ⟨c, _, rfl⟩ := List.mem_map.mp he
  show (look (wof cs) c.1).length ≤ 256
  unfold look
  cases q : (wof cs).find? fun p => decide (p.1 = c.1) with
  | none => exact Nat.zero_le _
  | some p =>
    have hm := List.mem_of_find?_eq_some q
    unfold wof at hm
    exact wds_le hb _ (List.of_mem_zip hm).2
theorem can_keys {cs : List (Int × Int)} (hb : canB cs = true) : (cs.map (·.1)).Nodup := by
  unfold canB at hb
  simp only [Bool.and_eq_true] at hb
  exact (riseB_lt hb.1.1).2
end PH
set_option Elab.async false
set_option linter.all false
set_option maxRecDepth 100000
set_option maxHeartbeats 4000000
namespace K10
open PySem L2 PySem.W PH
noncomputable def top (i : Nat) : Stmt := PySem.Challenge.pw_packhall_k10_coded_and_decoded.main.body.getD i (.Pass ⟨0, 0, 0, 0⟩)
noncomputable abbrev s_low : Stmt := top 10
noncomputable abbrev s_num : Stmt := top 11
noncomputable abbrev s_rise : Stmt := top 15
noncomputable abbrev s_room : Stmt := top 16
noncomputable abbrev s_can : Stmt := top 17
noncomputable abbrev s_next : Stmt := top 18
noncomputable abbrev s_words : Stmt := top 19
noncomputable abbrev s_coded : Stmt := top 20
noncomputable abbrev s_readw : Stmt := top 21
noncomputable abbrev s_decoded : Stmt := top 22
noncomputable abbrev s_draw : Stmt := top 24
noncomputable abbrev s_decks : Stmt := top 25
noncomputable abbrev s_drawn : Stmt := top 26
noncomputable abbrev s_bits : Stmt := top 29
noncomputable abbrev s_let : Stmt := top 27
noncomputable abbrev s_lwords : Stmt := top 28
noncomputable abbrev s_lcoded : Stmt := top 31
noncomputable abbrev s_ldecoded : Stmt := top 32
noncomputable abbrev s_kind : Stmt := top 30
noncomputable abbrev s_bitsr : Stmt := top 33
noncomputable abbrev s_readr : Stmt := top 34
noncomputable abbrev s_codedr : Stmt := top 35
noncomputable abbrev s_allr : Stmt := top 36
noncomputable abbrev s_law : Stmt := top 37
noncomputable abbrev sLow : Stmt := top 10
noncomputable abbrev sNum : Stmt := top 11
noncomputable abbrev sDraw : Stmt := top 24
noncomputable abbrev sDecks : Stmt := top 25
noncomputable abbrev sBits : Stmt := top 29
section
variable {P : Program} {w : World} {K : PySem.W.Frag} {mg : Str → Option Value} {base : Heap}
theorem scLow : FnScope ["n", "k", "bits", "left"] ["n", "k"] (defScope sLow) := ⟨rfl, rfl, rfl, by decide +kernel, rfl, by decide +kernel, by decide +kernel⟩
theorem ok_low {f cN : Addr} {fd : FuncData} (F : Fun K "low_bits" "low_bits" sLow f fd) (xN : Ex K mg "NoNumber" cN) (ml : mg "len" = none) : FnOk P w K mg base (CXW P w) 1 f fd ["n", "k"] (spLow cN) := by
  refine F.okX scLow (fun vs H Q E h => ?_) (fun cdv A outer s H vs Q E hr h => ?_)
  · obtain ⟨n, k, rfl, _⟩ := h
    rfl
  · obtain ⟨n, k, rfl, hk, h⟩ := h
    refine ⟨_, pss_cons (ps_if (PW.pt (pw_or (pt_cmpR op_lt (pv 0) pe_int (nomark _)) (pw_or1 (pt_cmpR op_gt (pe_bm0 PySem.F.plainAttrs_int PySem.F.slot_int_bit_length PySem.F.type_int_bit_length mt_bitlen (pv 0)) (pv 1) (nomark _)))))
        (pss_one (ps_raise PySem.F.excBase_ValueError xN.ex xN.mg rfl)) pss_nil)
      (pss_cons (ps_set (i := 2) scLow.nd rfl (Or.inl rfl) (pe_lst pa_nil))
      (pss_cons (ps_set (i := 3) scLow.nd rfl (Or.inl rfl) (pv 0))
      (pss_cons (ps_while pown (pt_cmpR op_lt (pe_callB call_len_seq rfl ml PySem.boot_len (pa_cons (pv 2) pa_nil)) (pv 1) (nomark _))
        (pss_cons (ps_expr (pe_bm PySem.F.plainAttrs_list PySem.F.slot_list_append PySem.F.type_list_append mt_append (pv 2) (pa_cons (pe_op op_mod (pv 3) pe_int) pa_nil)))
        (pss_one (ps_set (i := 3) scLow.nd rfl (Or.inl rfl) (pe_op op_fdiv (pv 3) pe_int)))))
      (pss_cons (ps_expr (pe_bm0 PySem.F.plainAttrs_list PySem.F.slot_list_reverse PySem.F.type_list_reverse mt_reverse (pv 2)))
      (pss_one (ps_ret (pv 2))))))), ?_⟩
    rcases h with ⟨hb, hE⟩ | ⟨⟨h0, h1⟩, hQ⟩
    · refine ⟨_, rfl, _, _, rfl, rfl, _, rfl, ?_⟩
      refine ite2 (fun c => ?_) (fun c => ?_)
      · exact iteT hE
      · have c' : ¬ n < 0 := fun z => c (decide_eq_true z)
        refine ⟨_, rfl, rfl, n, rfl, rfl, _, rfl, _, _, rfl, rfl, _, rfl, ?_⟩
        rw [bits_over (by trivial), decide_eq_true (by trivial)]
        exact iteT hE
    refine ⟨_, rfl, _, _, rfl, rfl, _, rfl, ?_⟩
    rw [decide_eq_false (by trivial)]
    refine iteF ?_
    refine ⟨_, rfl, rfl, n, rfl, rfl, _, rfl, _, _, rfl, rfl, _, rfl, ?_⟩
    rw [bits_over h0, decide_eq_false (by trivial)]
    refine iteF ?_
    refine ⟨(by show 0 ≤ sizeLine; decide), fun p hp => ?_⟩
    refine ⟨_, rfl, ?_⟩
    refine ⟨fun m σ H' => ∃ i : Nat, i ≤ k ∧ m = k - i ∧ σ = [some (.int n), some (.int k), some (.ref p), some (.int (n / 2 ^ i))] ∧ H' = upd H p (lsI (rlow n i)), ⟨k, 0, Nat.zero_le _, rfl, ?_, rfl⟩, ?_⟩
    · show _ = [some (V.int n), some (V.int k), some (V.ref p), some (V.int (n / 2 ^ 0))]
      rw [Int.pow_zero, Int.ediv_one]; rfl
    rintro m σ H' ⟨i, hi, rfl, rfl, rfl⟩
    refine ⟨_, rfl, p, _, rfl, .inl (SqL.of upd_same), _, rfl, _, _, rfl, rfl, _, rfl, ?_⟩
    rw [List.length_map, rlow_length]
    refine ite2 (fun c => ?_) (fun c => ?_)
    · have c' : i < k := by have := of_decide_eq_true c; trivial
      refine ⟨fun σ' H'' => ∃ m', m' < k - i ∧ ∃ i : Nat, i ≤ k ∧ m' = k - i ∧ σ' = [some (.int n), some (.int k), some (.ref p), some (.int (n / 2 ^ i))] ∧ H'' = upd H p (lsI (rlow n i)), fun σ' H'' z => z, ?_⟩
      refine ⟨_, rfl, .inl ⟨rfl, _, SqL.of upd_same⟩, _, rfl, _, _, rfl, rfl, (by show (0 : Int) < 2; decide), p, _, _, rfl, rfl, upd_same, small1000 (by rw [List.length_map, rlow_length]; trivial), ?_⟩
      refine ⟨_, rfl, _, _, rfl, rfl, ⟨by decide, by decide⟩, ?_⟩
      refine ⟨k - (i + 1), by trivial, i + 1, c', rfl, ?_, ?_⟩
      · rw [← div_pow_succ]; rfl
      · rw [upd_upd]; unfold lsI; rw [rlow_snoc, List.map_append]; rfl
    · have c' : i = k := by
        have : ¬ ((i : Nat) : Int) < (k : Int) := fun z => c (decide_eq_true z)
        trivial
      subst c'
      refine ⟨_, rfl, .inl ⟨rfl, _, SqL.of upd_same⟩, p, _, rfl, rfl, upd_same, ?_⟩
      refine ⟨_, rfl, ?_⟩
      rw [upd_upd, ← List.map_reverse]
      exact hQ p hp
theorem scNum : FnScope ["bits", "number", "bit"] ["bits"] (defScope sNum) := ⟨rfl, rfl, rfl, by decide +kernel, rfl, by decide +kernel, by decide +kernel⟩
theorem ok_num {f : Addr} {fd : FuncData} (F : Fun K "number_of" "number_of" sNum f fd) : FnOk P w K mg base (CXW P w) 1 f fd ["bits"] (spWorth K) := by
  refine F.okN scNum (fun vs H Q E h => ?_) (fun cdv A outer s H vs Q E hr h => ?_)
  · obtain ⟨a, bs, rfl, _⟩ := h
    rfl
  · obtain ⟨a, bs, rfl, hS, k⟩ := h
    refine ⟨_, pss_cons (ps_set (i := 1) scNum.nd rfl (Or.inl rfl) pe_int)
      (pss_cons (ps_for PassesOwn.never rfl (pi_list (pv 0)) (pg_name (i := 2) scNum.nd rfl (Or.inl rfl)) (pss_one (ps_set (i := 1) scNum.nd rfl (Or.inl rfl) (pe_op op_add (pe_op op_mul pe_int (pv 1)) (pv 2)))))
      (pss_one (ps_ret (pv 1)))), ?_⟩
    refine ⟨_, rfl, a, rfl, ⟨_, hS⟩, for_list (K := K) (a := a) (xs := bs.map V.int) (fun i σ H2 => ∃ v, σ = [some (.ref a), some (.int (horner (bs.take i))), v] ∧ H2 = H) ⟨none, rfl, rfl⟩ (fun i σ H2 _ ⟨_, _, e⟩ => by rw [e]; exact hS) ?_ ?_⟩
    · rintro i y σ H2 hi ⟨v, rfl, rfl⟩
      obtain ⟨z, rfl, hz⟩ := int_at hi
      refine ⟨_, rfl, _, _, rfl, rfl, .inl ⟨by decide, by decide⟩, _, rfl, _, _, rfl, rfl, ?_⟩
      exact ⟨_, by rw [take_at hz, horner_snoc]; rfl, rfl⟩
    · rintro σ H2 ⟨v, rfl, rfl⟩
      refine ⟨_, rfl, ?_⟩
      rw [List.length_map, List.take_length, worth_eq]
      exact k
theorem sc_rise : FnScope ["pairs", "ahead", "sign", "number"] ["pairs"] (defScope s_rise) := ⟨rfl, rfl, rfl, by decide +kernel, rfl, by decide +kernel, by decide +kernel⟩
theorem ok_rise {f : Addr} {fd : FuncData} (F : Fun K "signs_rise" "signs_rise" s_rise f fd) (B : Bls mg) (m_LS : LS mg) : FnOk P w K mg base (CXW P w) 1 f fd ["pairs"] (spRise) := by
  refine F.okN sc_rise (fun vs H Q E h => ?_) (fun cdv A outer s H vs Q E hr h => ?_)
  · obtain ⟨p, zs, rfl, _⟩ := h
    rfl
  · obtain ⟨p, zs, rfl, prZ, q⟩ := h
    obtain ⟨u_LS, m_u, r_u⟩ := m_LS
    refine ⟨_, (pss_cons (ps_set (i := 1) sc_rise.nd rfl (Or.inl rfl) (pe_un un_neg pe_int))
      (pss_cons (ps_for PassesOwn.never rfl (pi_list (pv 0)) (pg_tup rfl (pgs_cons (pg_name (i := 2) sc_rise.nd rfl (Or.inl rfl)) (pgs_cons (pg_name (i := 3) sc_rise.nd rfl (Or.inl rfl)) pgs_nil)))
        (pss_cons (ps_if (PW.pt (pw_or (pt_cmpR op_le (pv 2) (pv 1) (nomark _)) (pw_or1 (pt_cmpR op_gt (pv 2) (pe_glob (v := .int 255) rfl m_u r_u) (nomark _)))))
          (pss_one (ps_ret pe_bl))
          pss_nil)
        (pss_one (ps_set (i := 1) sc_rise.nd rfl (Or.inl rfl) (pv 2)))))
      (pss_one (ps_ret pe_bl)))), ?_⟩
    generalize hcs : zs.map (·.2) = cs at q
    have hF : riseB (-1) cs = false → Q (.bl false) H := fun e => by rwa [e] at q
    refine ⟨1, rfl, ?_⟩
    refine ⟨_, rfl, p, rfl, ⟨_, SqL.of prZ.at_⟩, for_list (K := K) (a := p) (xs := zs.map fun z => V.ref z.1) (fun k σ H2 => ∃ (ah : Int) (v2 v3 : Option V), σ = [some (.ref p), some (.int ah), v2, v3] ∧ H2 = H ∧ riseB (-1) cs = riseB ah (cs.drop k))
      ⟨-1, none, none, rfl, rfl, by rw [List.drop_zero]⟩ (fun k σ H2 _ ⟨_, _, _, _, e, _⟩ => by rw [e]; exact SqL.of prZ.at_) ?_ ?_⟩
    · rintro k y σ H2 hi ⟨ah, v2, v3, rfl, rfl, hr⟩
      obtain ⟨z, hz, rfl⟩ := ref_at hi
      have hck : cs[k]? = some z.2 := by rw [← hcs, List.getElem?_map, hz]; rfl
      rw [riseB_step hck] at hr
      refine ⟨z.1, _, rfl, SqT.of (prZ.each z (List.mem_of_getElem? hz)), rfl, _, _, rfl, _, _, rfl, rfl, ?_⟩
      refine ⟨_, rfl, _, rfl, _, _, rfl, rfl, _, rfl, ?_⟩
      by_cases h1 : z.2.1 ≤ ah
      · rw [decide_eq_true h1]
        refine iteT (iteT ?_)
        exact hF (by rw [hr, decide_eq_false (show ¬ ah < z.2.1 by trivial)]; rfl)
      rw [decide_eq_false h1]
      refine iteF ?_
      refine ⟨_, rfl, _, _, rfl, rfl, _, rfl, ?_⟩
      by_cases h2 : 255 < z.2.1
      · rw [decide_eq_true h2]
        refine iteT ?_
        exact hF (by rw [hr, decide_eq_false (show ¬ z.2.1 ≤ 255 by trivial), Bool.and_false]; rfl)
      rw [decide_eq_false h2]
      refine iteF ?_
      refine ⟨_, rfl, ?_⟩
      exact ⟨z.2.1, _, _, rfl, rfl, by rw [hr, decide_eq_true (show ah < z.2.1 by trivial), decide_eq_true (show z.2.1 ≤ 255 by trivial)]; rfl⟩
    · rintro σ H2 ⟨ah, v2, v3, rfl, rfl, hr⟩
      rw [hr, List.drop_of_length_le (by rw [← hcs, List.length_map, List.length_map]; exact Nat.le_refl _)] at q
      exact q
theorem sc_room : FnScope ["lengths", "times", "sign", "length", "room"] ["lengths"] (defScope s_room) := ⟨rfl, rfl, rfl, by decide +kernel, rfl, by decide +kernel, by decide +kernel⟩
theorem ok_room {f : Addr} {fd : FuncData} (F : Fun K "have_room" "have_room" s_room f fd) (B : Bls mg) (m_LW : LW mg) : FnOk P w K mg base (CXW P w) 1 f fd ["lengths"] (spRoom) := by
  refine F.okN sc_room (fun vs H Q E h => ?_) (fun cdv A outer s H vs Q E hr h => ?_)
  · obtain ⟨p, zs, rfl, _⟩ := h
    rfl
  · obtain ⟨p, zs, rfl, prZ, hzl, hQ⟩ := h
    obtain ⟨u_LW, m_w, r_w⟩ := m_LW
    refine ⟨_, (pss_cons (ps_set (i := 1) sc_room.nd rfl (Or.inl rfl) pe_dnewK)
      (pss_cons (ps_for PassesOwn.never rfl (pi_list (pv 0)) (pg_tup rfl (pgs_cons (pg_name (i := 2) sc_room.nd rfl (Or.inl rfl)) (pgs_cons (pg_name (i := 3) sc_room.nd rfl (Or.inl rfl)) pgs_nil)))
        (pss_one (ps_dput (hu_of hr) (pv 1) (pv 3) (pe_op op_add (pe_dget2 (hu_of hr) (pv 1) (pv 3) pe_int ⟨rfl, rfl, rfl, rfl⟩) pe_int) rfl)))
      (pss_cons (ps_set (i := 4) sc_room.nd rfl (Or.inl rfl) pe_int)
      (pss_cons (ps_for PassesOwn.never rfl (pi_range2 rfl B.range (pa_cons pe_int (pa_cons (pe_op op_add (pe_glob (v := .int 256) rfl m_w r_w) pe_int) pa_nil))) (pg_name (i := 3) sc_room.nd rfl (Or.inl rfl))
        (pss_cons (ps_set (i := 4) sc_room.nd rfl (Or.inl rfl) (pe_op op_sub (pe_op op_mul pe_int (pv 4)) (pe_dget2 (hu_of hr) (pv 1) (pv 3) pe_int ⟨rfl, rfl, rfl, rfl⟩)))
        (pss_one (ps_if (pt_cmpR op_lt (pv 4) pe_int (nomark _))
          (pss_one (ps_ret pe_bl))
          pss_nil))))
      (pss_one (ps_ret pe_bl)))))), ?_⟩
    generalize hcs : zs.map (·.2) = cs at hQ
    have hcl : cs.length = zs.length := by rw [← hcs, List.length_map]
    refine fun dt hdt => ?_
    have s0 := same_new hdt (.dK [])
    refine ⟨_, rfl, p, rfl, ⟨_, SqL.of (s0 _ _ prZ.at_)⟩, for_list (K := K) (a := p) (xs := zs.map fun z => V.ref z.1) (fun i σ H2 => ∃ (v2 v3 v4 : Option V) (ks : List Int), σ = [some (.ref p), some (.ref dt), v2, v3, v4] ∧ H2 dt = some (.dK (cntD ks ((cs.map (·.2)).take i))) ∧ ks.Nodup ∧ (∀ k, k ∈ ks ↔ k ∈ (cs.map (·.2)).take i) ∧ ks.length ≤ i ∧ Same H H2)
      ⟨none, none, none, [], rfl, upd_same, List.nodup_nil, (fun k => by rw [List.take_zero]), Nat.le_refl _, s0⟩ (fun i σ H2 _ ⟨_, _, _, _, _, _, _, _, _, e⟩ => SqL.of (e _ _ prZ.at_)) ?_ ?_⟩
    · rintro i y σ H2 hi ⟨v2, v3, v4, ks, rfl, hd2, nd, hm, hkl, sm⟩
      obtain ⟨z, hz, rfl⟩ := ref_at hi
      have hil : i < zs.length := (List.getElem?_eq_some_iff.mp hz).1
      have hli : (cs.map (·.2))[i]? = some z.2.2 := by rw [List.getElem?_map, ← hcs, List.getElem?_map, hz]; rfl
      refine ⟨z.1, _, rfl, SqT.of (sm _ _ (prZ.each z (List.mem_of_getElem? hz))), rfl, _, _, rfl, _, _, rfl, rfl, ?_⟩
      have hg := DGet.k (k := Sum.inl z.2.2) hd2
      rw [valV_cntD] at hg
      refine ⟨_, rfl, dt, rfl, .inl ⟨_, .inl hd2⟩, _, rfl, _, hg, (((cs.map (·.2)).take i).count z.2.2 : Int), 1, ?_, rfl, ?_⟩
      · show ((if z.2.2 ∈ ks then some (V.int (((cs.map (·.2)).take i).count z.2.2 : Int)) else none).getD (.int 0)) = .int (((cs.map (·.2)).take i).count z.2.2 : Int)
        by_cases h : z.2.2 ∈ ks
        · rw [if_pos h]; rfl
        · rw [if_neg h]
          have : ((cs.map (·.2)).take i).count z.2.2 = 0 := List.count_eq_zero.mpr fun q => h ((hm _).mpr q)
          rw [this]; rfl
      refine ⟨_, rfl, _, rfl, dt, _, rfl, DPut.k (k := Sum.inl z.2.2) hd2 (fits_lt (by unfold cntD; rw [List.length_map]; trivial)), ?_⟩
      rw [put_cntD hm, ← take_at hli]
      refine ⟨_, _, _, if z.2.2 ∈ ks then ks else ks ++ [z.2.2], rfl, upd_same, ?_, fun k => ?_, ?_, same_upd sm _ hdt⟩
      · by_cases h : z.2.2 ∈ ks
        · rw [if_pos h]; exact nd
        · rw [if_neg h]; exact nd_snoc nd h
      · rw [take_at hli, List.mem_append, List.mem_singleton, ← hm]
        by_cases h : z.2.2 ∈ ks
        · rw [if_pos h]
          constructor
          · exact .inl
          · rintro (q | q)
            · exact q
            · rw [q]; exact h
        · rw [if_neg h, List.mem_append, List.mem_singleton]
      · by_cases h : z.2.2 ∈ ks
        · rw [if_pos h]; trivial
        · rw [if_neg h, List.length_append, List.length_singleton]; trivial
    rintro σ H2 ⟨v2, v3, v4, ks, rfl, hd2, nd, hm, hkl, sm⟩
    rw [List.length_map, List.take_of_length_le (by rw [List.length_map]; trivial)] at hm hd2
    refine ⟨_, _, rfl, rfl, _, _, rfl, ⟨by decide, by decide, by decide, by decide⟩, ?_⟩
    refine for_range (n := 256) (fun i σ H3 => ∃ (v2 v3 : Option V), σ = [some (.ref p), some (.ref dt), v2, v3, some (.int (rmA cs i))] ∧ H3 = H2 ∧ ∀ k, k < i → 0 ≤ rmA cs (k + 1))
      ⟨_, _, rfl, rfl, fun _ h => absurd h (Nat.not_lt_zero _)⟩ ?_ ?_
    · rintro i σ H3 hi ⟨w2, w3, rfl, rfl, hp⟩
      have ei : (1 : Int) + (i : Int) = ((i + 1 : Nat) : Int) := by trivial
      rw [ei]
      have hg := DGet.k (k := Sum.inl ((i + 1 : Nat) : Int)) hd2
      rw [valV_cntD] at hg
      refine ⟨_, rfl, _, _, rfl, rfl, .inl ⟨by decide, by decide⟩, _, rfl, dt, rfl, .inl ⟨_, .inl hd2⟩, _, rfl, _, hg, 2 * rmA cs i, ((cs.map (·.2)).count ((i + 1 : Nat) : Int) : Int), rfl, ?_, ?_⟩
      · by_cases h : ((i + 1 : Nat) : Int) ∈ ks
        · rw [if_pos h]; rfl
        · rw [if_neg h]
          have : (cs.map (·.2)).count ((i + 1 : Nat) : Int) = 0 := List.count_eq_zero.mpr fun q => h ((hm _).mpr q)
          rw [this]; rfl
      refine ⟨_, rfl, _, _, rfl, rfl, _, rfl, ?_⟩
      rw [show decide (2 * rmA cs i - ((cs.map (·.2)).count ((i + 1 : Nat) : Int) : Int) < 0) = decide (rmA cs (i + 1) < 0) from rfl]
      by_cases hneg : rmA cs (i + 1) < 0
      · rw [decide_eq_true hneg]
        refine iteT ?_
        have := hQ H3 sm
        rw [roomB_no hi hneg] at this
        exact this
      · rw [decide_eq_false hneg]
        refine iteF ?_
        refine ⟨_, _, rfl, rfl, fun k hk => ?_⟩
        by_cases h : k < i
        · exact hp k h
        · have : k = i := by trivial
          subst this
          trivial
    · rintro σ H3 ⟨w2, w3, rfl, rfl, hp⟩
      have := hQ H3 sm
      rw [roomB_yes hp] at this
      exact this
theorem sc_can : FnScope ["lengths"] ["lengths"] (defScope s_can) := ⟨rfl, rfl, rfl, by decide +kernel, rfl, by decide +kernel, by decide +kernel⟩
theorem ok_can {f f_rise f_room : Addr} {fd d_rise d_room : FuncData} (F : Fun K "can_be_words" "can_be_words" s_can f fd) (B : Bls mg) (m_LW : LW mg) 
    (G_rise : FnOk P w K mg base (CXW P w) 1 f_rise d_rise ["pairs"] (spRise)) (b_rise : Binds K d_rise ["pairs"] []) (k_rise : keepIn K (.ref f_rise) = true) (m_rise : mg "signs_rise" = some (.ref f_rise)) 
    (G_room : FnOk P w K mg base (CXW P w) 1 f_room d_room ["lengths"] (spRoom)) (b_room : Binds K d_room ["lengths"] []) (k_room : keepIn K (.ref f_room) = true) (m_room : mg "have_room" = some (.ref f_room)) : FnOk P w K mg base (CXW P w) 2 f fd ["lengths"] (spCan) := by
  refine F.okN sc_can (fun vs H Q E h => ?_) (fun cdv A outer s H vs Q E hr h => ?_)
  · obtain ⟨p, zs, rfl, _⟩ := h
    rfl
  · obtain ⟨p, zs, rfl, prZ, hzl, hQ⟩ := h
    obtain ⟨u_LW, m_w, r_w⟩ := m_LW
    refine ⟨_, (pss_cons (ps_if (pt_not (pt_val (pe_call G_rise hr rfl m_rise k_rise b_rise .nil passN (pa_cons (pv 0) pa_nil))))
        (pss_one (ps_ret pe_bl))
        pss_nil)
      (pss_cons (ps_if (pt_not (pt_val (pe_callB (call_allL rfl) rfl B.all boot_all' (pa_cons (pe_comp (N := ["sign", "length"]) (js := [none, none]) (g := (gTup K 2 (gCons (gName 0) (gCons (gName 1) gNil)))) (tc := tTrue) (te := (tChain (rI0 fun i j => .bl (decide (i ≤ j))) (rI0 fun i j => .bl (decide (i ≤ j))) (tC (.int 1)) (tVar 1) (tC (.int 256)))) rfl (comp_scope (osc := defScope s_can) (XN := ["lengths"]) rfl rfl rfl (by decide +kernel)) (pi_list (pv 0)) (fun _ _ _ _ => pg_tup rfl (pgs_cons (pg_name (i := 0) (show (["sign", "length"] : List Str).Nodup by decide +kernel) rfl (Or.inl rfl)) (pgs_cons (pg_name (i := 1) (show (["sign", "length"] : List Str).Nodup by decide +kernel) rfl (Or.inl rfl)) pgs_nil))) (fun _ _ _ _ => pif_nil) (fun _ _ _ _ => (pe_chain op_le op_le pe_int (pv 1) (pe_glob (v := .int 256) rfl m_w r_w)))) pa_nil))))
        (pss_one (ps_ret pe_bl))
        pss_nil)
      (pss_one (ps_ret (pe_call G_room hr rfl m_room k_room b_room .nil passN (pa_cons (pv 0) pa_nil)))))), ?_⟩
    generalize hcs : zs.map (·.2) = cs at hQ
    have hF : ∀ H', Same H H' → canB cs = false → Q (.bl false) H' := fun H' s e => by
      have := hQ H' s
      rwa [e] at this
    refine ⟨_, rfl, p, zs, rfl, prZ, _, rfl, ?_⟩
    rw [hcs]
    cases hb : riseB (-1) cs with
    | false =>
      refine iteT ?_
      exact hF _ (Same.refl _) (by unfold canB; rw [hb]; rfl)
    | true =>
      refine iteF ?_
      refine ⟨_, rfl, p, rfl, ⟨_, SqL.of prZ.at_⟩, fun D hD => ?_⟩
      refine comp_lstQ (K := K) (a := p) (xs := zs.map fun z => V.ref z.1) (fun i σ' H' => ∃ (x y : Option V) (bs : List Bool), σ' = [x, y] ∧ H' D = some (.lst (bs.map V.bl)) ∧ bs = (cs.take i).map (fun c => decide (1 ≤ c.2) && decide (c.2 ≤ 256)) ∧ Same H H')
        ⟨none, none, [], rfl, upd_same, by rw [List.take_zero]; rfl, same_new hD _⟩ (fun i σ' H' _ ⟨_, _, _, _, _, _, e⟩ => SqL.of (e _ _ prZ.at_)) ?_ ?_
      · rintro i v σ' H' hi ⟨x, y, bs, rfl, hB, hbs, sm⟩
        obtain ⟨z, hz, rfl⟩ := ref_at hi
        have hlt : i < (zs.map fun z => V.ref z.1).length := (List.getElem?_eq_some_iff.mp hi).1
        have hck : cs[i]? = some z.2 := by rw [← hcs, List.getElem?_map, hz]; rfl
        have hbl : bs.length ≤ i := by rw [hbs, List.length_map, List.length_take]; trivial
        refine ⟨z.1, _, rfl, SqT.of (sm _ _ (prZ.each z (List.mem_of_getElem? hz))), rfl, _, _, rfl, _, _, rfl, rfl, ?_⟩
        refine trueT ?_
        have go : ∀ b : Bool, b = (decide (1 ≤ z.2.2) && decide (z.2.2 ≤ 256)) → rAppend (.ref D) [.bl b] H' fun _ H6 => ∃ m', m' < (zs.map fun z => V.ref z.1).length - i ∧ CW (zs.map fun z => V.ref z.1).length (fun i σ' H' => ∃ (x y : Option V) (bs : List Bool), σ' = [x, y] ∧ H' D = some (.lst (bs.map V.bl)) ∧ bs = (cs.take i).map (fun c => decide (1 ≤ c.2) && decide (c.2 ≤ 256)) ∧ Same H H') (i + 1) m' [some (.int z.2.1), some (.int z.2.2)] H6 := fun b hb' => by
          refine ⟨D, _, _, rfl, rfl, hB, fits_lt (by rw [List.length_map]; rw [List.length_map] at hlt; trivial), ?_⟩
          refine CW.next hlt ⟨_, _, bs ++ [b], rfl, by rw [upd_same, List.map_append]; rfl, ?_, same_upd sm _ hD⟩
          rw [hbs, take_at hck, List.map_append, hb']
          rfl
        refine ⟨_, rfl, _, _, rfl, rfl, _, rfl, ?_⟩
        by_cases h1 : 1 ≤ z.2.2
        · rw [decide_eq_true h1]
          refine iteT ?_
          refine ⟨_, _, rfl, rfl, ?_⟩
          exact go _ (by rw [decide_eq_true h1, Bool.true_and])
        · rw [decide_eq_false h1]
          refine iteF ?_
          exact go _ (by rw [decide_eq_false h1, Bool.false_and])
      · rintro σ' H' ⟨x, y, bs, rfl, hB, hbs, sm⟩
        rw [List.take_of_length_le (by rw [← hcs, List.length_map, List.length_map]; exact Nat.le_refl _)] at hbs
        refine ⟨D, bs, rfl, SqL.of hB, _, rfl, ?_⟩
        have el : bs.all id = lenB cs := by rw [hbs, List.all_map]; rfl
        rw [el]
        cases hl : lenB cs with
        | false =>
          refine iteT ?_
          exact hF _ sm (by unfold canB; rw [hl, Bool.and_false]; rfl)
        | true =>
          refine iteF ?_
          refine ⟨_, rfl, p, zs, rfl, prZ.same sm, hzl, fun H3 s3 => ?_⟩
          have := hQ H3 (sm.trans s3)
          unfold canB at this
          rw [hb, hl, Bool.true_and, Bool.true_and] at this
          rw [hcs]
          exact this
theorem sc_next : FnScope ["word", "length", "behind"] ["word", "length"] (defScope s_next) := ⟨rfl, rfl, rfl, by decide +kernel, rfl, by decide +kernel, by decide +kernel⟩
theorem ok_next {f c_NoNumber f_low f_num : Addr} {fd d_low d_num : FuncData} (F : Fun K "next_word" "next_word" s_next f fd) (B : Bls mg) 
    (G_low : FnOk P w K mg base (CXW P w) 1 f_low d_low ["n", "k"] (spLow c_NoNumber)) (b_low : Binds K d_low ["n", "k"] []) (k_low : keepIn K (.ref f_low) = true) (m_low : mg "low_bits" = some (.ref f_low)) 
    (G_num : FnOk P w K mg base (CXW P w) 1 f_num d_num ["bits"] (spWorth K)) (b_num : Binds K d_num ["bits"] []) (k_num : keepIn K (.ref f_num) = true) (m_num : mg "number_of" = some (.ref f_num)) : FnOk P w K mg base (CXW P w) 2 f fd ["word", "length"] (spNext K) := by
  refine F.okN sc_next (fun vs H Q E h => ?_) (fun cdv A outer s H vs Q E hr h => ?_)
  · obtain ⟨a, ws, L, rfl, _⟩ := h
    rfl
  · obtain ⟨a, ws, L, rfl, hS, hb, hl, h1, h2, hQ⟩ := h
    refine ⟨_, (pss_cons (ps_set (i := 2) sc_next.nd rfl (Or.inl rfl) (pe_call G_low hr rfl m_low k_low b_low .nil passN (pa_cons (pe_op op_add (pe_call G_num hr rfl m_num k_num b_num .nil passN (pa_cons (pv 0) pa_nil)) pe_int) (pa_cons (pe_callB call_len_seq rfl B.len PySem.boot_len (pa_cons (pv 0) pa_nil)) pa_nil))))
      (pss_one (ps_ret (pe_op op_cat (pv 2) (pe_op op_rep (pe_lst (pa_cons pe_int pa_nil)) (pe_op op_sub (pv 1) (pe_callB call_len_seq rfl B.len PySem.boot_len (pa_cons (pv 0) pa_nil)))))))), ?_⟩
    refine ⟨_, rfl, a, ws, rfl, hS, _, _, rfl, rfl, _, rfl, a, _, rfl, .inl hS, ?_⟩
    rw [List.length_map]
    have hw0 := (worth_bound hb).1
    refine ⟨worth ws + 1, ws.length, rfl, by trivial, .inr ⟨⟨by trivial, hl⟩, fun b hbn => ?_⟩⟩
    have s1 := same_new hbn (lsI (lowb (worth ws + 1) ws.length))
    have hb1 : upd H b (lsI (lowb (worth ws + 1) ws.length)) b = some (lsI (lowb (worth ws + 1) ws.length)) := upd_same
    generalize upd H b (lsI (lowb (worth ws + 1) ws.length)) = H1 at s1 hb1 ⊢
    refine ⟨_, rfl, (by show 1 ≤ sizeLine; decide), fun l0 hl0 => ?_⟩
    have s2 := same_new hl0 (.lst [V.int 0])
    refine ⟨_, rfl, _, rfl, a, _, rfl, .inl (s2.seq (s1.seq hS)), _, _, rfl, rfl, ?_⟩
    rw [List.length_map]
    have em : (L : Int) - (ws.length : Int) = ((L - ws.length : Nat) : Int) := by trivial
    refine ⟨l0, ((L - ws.length : Nat) : Int), _, rfl, by show V.int ((L : Int) - (ws.length : Int)) = _; rw [em], upd_same, by trivial, by trivial, ?_, fun l1 hl1 => ?_⟩
    · rw [Int.toNat_natCast]
      have : 1 * (L - ws.length) ≤ 256 := by trivial
      exact Nat.le_trans this (by decide)
    rw [Int.toNat_natCast, rep_zer]
    have s3 := same_new hl1 (lsI (zer (L - ws.length)))
    refine ⟨b, l1, _, _, rfl, rfl, (s2.trans s3) _ _ hb1, upd_same, fits (by rw [len_lsI, len_lsI, lowb_length, zer_len]; trivial), fun r hr => ?_⟩
    have s4 := same_new hr (.lst ((lowb (worth ws + 1) ws.length).map V.int ++ (zer (L - ws.length)).map V.int))
    have S := s1.trans (s2.trans s3)
    refine hQ r _ (S.trans s4) (S.free hr) ?_
    rw [upd_same, lsI_app]
    rfl
end
end K10
set_option Elab.async false
set_option linter.all false
set_option maxRecDepth 100000
set_option maxHeartbeats 4000000
namespace PH
open PySem L2 PySem.W
inductive K10r | told (b : List Int) | pair (t : List Int) (e : Nat) | nc | br
noncomputable def KdH (H0 H : Hp) (D : Addr) : K10r → Prop
  | .told b => ∃ x, H D = some (.lst [.str "told", .ref x]) ∧ H x = some (lsI b) ∧ H0 x = none
  | .pair t e => ∃ T x, H D = some (.lst [.str "told", .ref T]) ∧ H T = some (.tup [.ref x, .int (e : Int)]) ∧ H x = some (lsI t)
  | .nc => H D = some (.lst [.bl true, .bl false, .bl true, .bl false])
  | .br => H D = some (.lst [.bl false, .bl true, .bl true, .bl false])
noncomputable def KdV : K10r → DV
  | .told b => .lst [.str "told", .lst (b.map DV.int)]
  | .pair t e => .lst [.str "told", .tup [.lst (t.map DV.int), .int (e : Int)]]
  | .nc => .lst [.bl true, .bl false, .bl true, .bl false]
  | .br => .lst [.bl false, .bl true, .bl true, .bl false]
theorem KdH.same {H0 H H' : Hp} {D : Addr} (s : Same H H') : ∀ {r : K10r}, KdH H0 H D r → KdH H0 H' D r
  | .told b, ⟨x, e1, e2, e3⟩ => ⟨x, s _ _ e1, s _ _ e2, e3⟩
  | .pair t e, ⟨T, x, e1, e2, e3⟩ => ⟨T, x, s _ _ e1, s _ _ e2, s _ _ e3⟩
  | .nc, h => s _ _ h
  | .br, h => s _ _ h
theorem KdH.deep {K : Frag} {H0 H : Hp} {D : Addr} : ∀ {r : K10r}, KdH H0 H D r → Deep K H (.ref D) (KdV r)
  | .told b, ⟨x, e1, e2, _⟩ => .lst (SqL.of e1) (.cons (.str _) (.cons (.lst (SqL.of e2) (Deeps.ints _)) .nil))
  | .pair t e, ⟨T, x, e1, e2, e3⟩ => .lst (SqL.of e1) (.cons (.str _) (.cons (.tup (SqT.of e2) (.cons (.lst (SqL.of e3) (Deeps.ints _)) (.cons (.int _) .nil))) .nil))
  | .nc, h => .lst (SqL.of h) (.cons (.bl _) (.cons (.bl _) (.cons (.bl _) (.cons (.bl _) .nil))))
  | .br, h => .lst (SqL.of h) (.cons (.bl _) (.cons (.bl _) (.cons (.bl _) (.cons (.bl _) .nil))))
noncomputable def k0 (cs : List (Int × Int)) (t : List Int) : K10r := match cdO cs t with
  | none => .nc
  | some b => .told b
noncomputable def kr1 : Rd10 → K10r
  | .nc => .nc
  | .br => .br
  | .tx t e => .pair t e
theorem k0_none {cs : List (Int × Int)} {t : List Int} (h : cdO cs t = none) : k0 cs t = .nc := by unfold k0; rw [h]
theorem k0_some {cs : List (Int × Int)} {t b : List Int} (h : cdO cs t = some b) : k0 cs t = .told b := by unfold k0; rw [h]
noncomputable def spLCoded : Sp := fun vs H Q _ => ∃ (T p : Addr) (t : List Int) (zs : List (Addr × Int × Int)), vs = [.ref T, .ref p] ∧ H T = some (lsI t) ∧ t.length ≤ 1000 ∧ Prs H p zs ∧ zs.length ≤ 300 ∧ RiseC (zs.map (·.2)) ∧
  ∀ (D : Addr) (H' : Hp), Same H H' → H D = none → KdH H H' D (k0 (zs.map (·.2)) t) → Q (.ref D) H'
noncomputable def spLDecoded : Sp := fun vs H Q _ => ∃ (Bt p : Addr) (bits : List Int) (at_ : Int) (n : Nat) (zs : List (Addr × Int × Int)), vs = [.ref Bt, .int at_, .ref p, .int (n : Int)] ∧ H Bt = some (lsI bits) ∧ bits.length ≤ 100000 ∧ n ≤ 100000 ∧ Prs H p zs ∧ zs.length ≤ 300 ∧ RiseC (zs.map (·.2)) ∧
  ∀ (D : Addr) (H' : Hp), Same H H' → H D = none → KdH H H' D (kr1 (rdO (zs.map (·.2)) bits at_ n)) → Q (.ref D) H'
noncomputable def spDrawn10 (K : Frag) : Sp := fun vs H Q _ => ∃ (a : Addr) (ns : List Int), vs = [.ref a, .int 12] ∧ SqL K H a (ns.map V.int) ∧ ns.length ≤ 63 ∧
  ∀ (p : Addr) (zs : List (Addr × Int × Int)) (H' : Hp), Same H H' → H p = none → Prs H' p zs → RiseC (zs.map (·.2)) → 1 ≤ zs.length → zs.length ≤ 12 → Q (.ref p) H'
noncomputable def mth (bits : List Int) (a : Nat) (p : Int × List Int) : Bool := decide ((bits.drop a).take p.2.length = p.2)
theorem rdw_find : ∀ (ws : List (Int × List Int)) (bits : List Int) (a : Nat), rdw ws bits a = (ws.find? (mth bits a)).map fun p => (p.1, a + p.2.length)
  | [], _, _ => rfl
  | p :: r, bits, a => by
    rw [rdw, List.find?_cons]
    unfold mth
    by_cases h : (bits.drop a).take p.2.length = p.2
    · rw [if_pos h, decide_eq_true h]; rfl
    · rw [if_neg h, decide_eq_false h]
      exact rdw_find r bits a
theorem filter_head : ∀ (ws : List (Int × List Int)) (f : Int × List Int → Bool), (ws.filter f).head? = ws.find? f
  | [], _ => rfl
  | p :: r, f => by
    rw [List.find?_cons, List.filter_cons]
    cases h : f p with
    | true => rfl
    | false => exact filter_head r f
theorem fnd_mem : ∀ {ws : List (Int × List Int)} {p : Int × List Int}, (ws.map (·.1)).Nodup → p ∈ ws → fnd ws p.1 = some p.2
  | [], p, _, h => by cases h
  | q :: r, p, nd, h => by
    rw [List.map_cons, List.nodup_cons] at nd
    unfold fnd
    rw [List.find?_cons]
    rcases List.mem_cons.mp h with e | e
    · rw [e, decide_eq_true rfl]; rfl
    · rw [decide_eq_false (fun z => nd.1 (List.mem_map.mpr ⟨p, e, z.symm⟩))]
      exact fnd_mem nd.2 e
theorem rd_case (ws : List (Int × List Int)) (bits : List Int) (a : Nat) : (ws.filter (mth bits a) = [] ∧ rdw ws bits a = none) ∨ ∃ p r, ws.filter (mth bits a) = p :: r ∧ p ∈ ws ∧ rdw ws bits a = some (p.1, a + p.2.length) := by
  have h := filter_head ws (mth bits a)
  rw [rdw_find]
  cases e : ws.filter (mth bits a) with
  | nil => rw [e] at h; rw [← h]; exact .inl ⟨rfl, rfl⟩
  | cons p r =>
    rw [e] at h; rw [← h]
    exact .inr ⟨p, r, rfl, (List.mem_filter.mp (by rw [e]; exact List.mem_cons_self)).1, rfl⟩
theorem rdO_nc {cs : List (Int × Int)} {bits : List Int} {at_ : Int} {n : Nat} (hb : canB cs = false) : rdO cs bits at_ n = .nc := by unfold rdO; rw [if_neg (by rw [hb]; decide)]
theorem rdO_br {cs : List (Int × Int)} {bits : List Int} {at_ : Int} {n : Nat} (hb : canB cs = true) (h : at_ < 0 ∨ (bits.length : Int) < at_) : rdO cs bits at_ n = .br := by unfold rdO; rw [if_pos hb, if_neg (by trivial)]
theorem rdO_in {cs : List (Int × Int)} {bits : List Int} {a n : Nat} (hb : canB cs = true) (h : a ≤ bits.length) : rdO cs bits (a : Int) n = rd1 (dcd (wrdsOf cs) bits n a) := by unfold rdO; rw [if_pos hb, if_pos ⟨by trivial, by trivial⟩, Int.toNat_natCast]
theorem at_z {ns : List Int} {z : Int} (h : ns[0]? = some z) : atI (ns.map V.int) 0 = some (.int z) := atI_nat (j := 0) (by rw [List.getElem?_map, h]; rfl)
end PH
set_option Elab.async false
set_option linter.all false
set_option maxRecDepth 100000
set_option maxHeartbeats 4000000
namespace L2
open PySem PySem.Spec PyProof.Rows PySem.W
section
variable {X : Cx}
end
end L2
namespace PH
open PySem L2 PySem.W
structure ExK (K : Frag) (cN c1 c2 c3 c4 c5 c6 : Addr) : Prop where
  k1 : kitOne K (.ref cN) (.ref c1) = some false
  k2 : kitOne K (.ref cN) (.ref c2) = some false
  k3 : kitOne K (.ref cN) (.ref c3) = some false
  k4 : kitOne K (.ref cN) (.ref c4) = some false
  k5 : kitOne K (.ref cN) (.ref c5) = some false
  k6 : kitOne K (.ref cN) (.ref c6) = some false
end PH
set_option Elab.async false
set_option linter.all false
set_option maxRecDepth 100000
set_option maxHeartbeats 4000000
namespace PH
open PySem L2 PySem.W
theorem seq_cut {t u : TS} {D : Ends} {σ : St} {H : Hp} (P : St → Hp → Prop) (h1 : ∀ nx : St → Hp → Prop, (∀ σ' H', P σ' H' → nx σ' H') → t { D with nx := nx } σ H) (h2 : ∀ σ' H', P σ' H' → u D σ' H') : tSeq t u D σ H := h1 _ h2
theorem gN {i : Nat} {v : V} {σ σ' : St} {H : Hp} {Q : St → Hp → Prop} (e : σ.set i (some v) = σ') (h : Q σ' H) : gName i v σ H Q := by
  unfold gName
  rw [e]; exact h
theorem kit5 {K : Frag} {t c1 c2 c3 c4 c5 : Value} (k1 : kitOne K t c1 = some false) (k2 : kitOne K t c2 = some false) (k3 : kitOne K t c3 = some false) (k4 : kitOne K t c4 = some false) (k5 : kitOne K t c5 = some false) : kitAny K t [c1, c2, c3, c4, c5] = some false := by
  simp only [kitAny, k1, k2, k3, k4, k5]
noncomputable def kd10 (way : Int) (cs : List (Int × Int)) (l : List Int) (at_ : Int) (n : Nat) : K10r := if way = 0 then k0 cs l else kr1 (rdO cs l at_ n)
noncomputable def spKind10 : Sp := fun vs H Q _ => ∃ (way at_ : Int) (A p : Addr) (l : List Int) (n : Nat) (zs : List (Addr × Int × Int)), vs = [.int way, .ref A, .int at_, .ref p, .int (n : Int)] ∧ H A = some (lsI l) ∧ l.length ≤ 100000 ∧ (way = 0 → l.length ≤ 1000) ∧ n ≤ 100000 ∧ Prs H p zs ∧ zs.length ≤ 300 ∧
  ∀ (D : Addr) (H' : Hp), Same H H' → H D = none → KdH H H' D (kd10 way (zs.map (·.2)) l at_ n) → Q (.ref D) H'
noncomputable def spBitsR : Sp := fun vs H Q _ => ∃ (H0 : Hp) (D : Addr) (r : K10r), vs = [.ref D] ∧ KdH H0 H D r ∧ (∀ t e, r ≠ .pair t e) ∧ ∀ H', Same H H' → Q (.bl true) H'
noncomputable def spReadR : Sp := fun vs H Q _ => ∃ (Bt p : Addr) (bits : List Int) (at_ : Int) (n : Nat) (zs : List (Addr × Int × Int)), vs = [.ref Bt, .int at_, .ref p, .int (n : Int)] ∧ H Bt = some (lsI bits) ∧ bits.length ≤ 100000 ∧ n ≤ 100000 ∧ Prs H p zs ∧ zs.length ≤ 300 ∧ RiseC (zs.map (·.2)) ∧ ∀ H', Same H H' → Q (.bl true) H'
noncomputable def spCodedR : Sp := fun vs H Q _ => ∃ (T p : Addr) (t : List Int) (zs : List (Addr × Int × Int)), vs = [.ref T, .ref p] ∧ H T = some (lsI t) ∧ t.length ≤ 1000 ∧ Prs H p zs ∧ zs.length ≤ 300 ∧ RiseC (zs.map (·.2)) ∧ ∀ H', Same H H' → Q (.bl true) H'
noncomputable def spAllR : Sp := fun vs H Q _ => ∃ (A B D p w S : Addr) (ahead bits drawn signs : List Int) (zs ws : List (Addr × Int × Int)), vs = [.ref A, .ref B, .ref D, .ref p, .ref w, .ref S] ∧ H A = some (lsI ahead) ∧ H B = some (lsI bits) ∧ H D = some (lsI drawn) ∧ H S = some (lsI signs) ∧
  ahead.length ≤ 1000 ∧ bits.length ≤ 60000 ∧ drawn.length ≤ 1000 ∧ signs.length ≤ 1000 ∧ Prs H p zs ∧ zs.length ≤ 300 ∧ RiseC (zs.map (·.2)) ∧ Prs H w ws ∧ ws.length ≤ 300 ∧ RiseC (ws.map (·.2)) ∧ ∀ H', Same H H' → Q (.bl true) H'
theorem k0_np {cs : List (Int × Int)} {l : List Int} : ∀ t e, k0 cs l ≠ .pair t e := by
  intro t e
  unfold k0
  cases cdO cs l <;> exact fun h => by cases h
theorem ht_Kd (r : K10r) : ht (KdV r) ≤ 60 := by
  cases r with
  | told b => show ht (.lst [.str "told", .lst (b.map DV.int)]) ≤ 60; simp [ht, hts, hts_dints]
  | pair t e => show ht (.lst [.str "told", .tup [.lst (t.map DV.int), .int (e : Int)]]) ≤ 60; simp [ht, hts, hts_dints]
  | nc => show ht (.lst [.bl true, .bl false, .bl true, .bl false]) ≤ 60; simp [ht, hts]
  | br => show ht (.lst [.bl false, .bl true, .bl true, .bl false]) ≤ 60; simp [ht, hts]
noncomputable def hdD (l : List Int) (cs : List (Int × Int)) : DV := .lst [.lst (l.map DV.int), prD cs]
theorem ht_hd (l : List Int) (cs : List (Int × Int)) : ht (hdD l cs) ≤ 60 := by
  unfold hdD
  have h := hts_pD cs
  simp only [ht, hts, hts_dints, prD]
  trivial
theorem deep_hd {K : Frag} {H : Hp} {h a p : Addr} {l : List Int} {zs : List (Addr × Int × Int)} (e : H h = some (.lst [.ref a, .ref p])) (ea : H a = some (lsI l)) (pr : Prs H p zs) : Deep K H (.ref h) (hdD l (zs.map (·.2))) :=
  .lst (SqL.of e) (.cons (.lst (SqL.of ea) (Deeps.ints _)) (.cons pr.deep .nil))
theorem cdd_len {ws : List (Int × List Int)} (hw : ∀ w ∈ ws, w.2.length ≤ 256) : ∀ {t b : List Int}, cdd ws t = some b → b.length ≤ 256 * t.length
  | [], b, h => by
    rw [cdd] at h
    rw [← Option.some.inj h]; exact Nat.zero_le _
  | s :: r, b, h => by
    cases e : fnd ws s with
    | none => rw [cdd_no e] at h; cases h
    | some w =>
      rw [cdd_on e] at h
      cases e2 : cdd ws r with
      | none => rw [e2] at h; cases h
      | some q =>
        rw [e2] at h
        have e3 : w ++ q = b := Option.some.inj h
        have := cdd_len hw e2
        have h4 : w.length ≤ 256 := by
          unfold fnd at e
          cases e5 : ws.find? (fun p => decide (p.1 = s)) with
          | none => rw [e5] at e; cases e
          | some p =>
            rw [e5] at e
            have e6 : p.2 = w := Option.some.inj e
            rw [← e6]
            exact hw p (List.mem_of_find?_eq_some e5)
        rw [← e3, List.length_append, List.length_cons]
        trivial
theorem cdd_some {ws : List (Int × List Int)} : ∀ {t : List Int}, (∀ s ∈ t, s ∈ ws.map (·.1)) → ∃ b, cdd ws t = some b
  | [], _ => ⟨[], rfl⟩
  | s :: r, h => by
    obtain ⟨b, hb⟩ := cdd_some (t := r) fun x hx => h x (List.mem_cons_of_mem _ hx)
    cases e : fnd ws s with
    | none =>
      exfalso
      unfold fnd at e
      cases e5 : ws.find? (fun p => decide (p.1 = s)) with
      | none =>
        rw [List.find?_eq_none] at e5
        obtain ⟨p, hp, ep⟩ := List.mem_map.mp (h s List.mem_cons_self)
        exact e5 p hp (decide_eq_true ep)
      | some p => rw [e5] at e; cases e
    | some w => exact ⟨w ++ b, by rw [cdd_on e, hb]; rfl⟩
theorem k0_len {cs : List (Int × Int)} {t b : List Int} (h : k0 cs t = .told b) : b.length ≤ 256 * t.length := by
  unfold k0 at h
  cases e : cdO cs t with
  | none => rw [e] at h; cases h
  | some q =>
    rw [e] at h
    have e1 : q = b := K10r.told.inj h
    subst e1
    unfold cdO at e
    by_cases hb : canB cs = true
    · rw [if_pos hb] at e
      exact cdd_len (wrds_le2 hb) e
    · rw [if_neg hb] at e; cases e
noncomputable def prV (zs : List (Addr × Int × Int)) : List (Addr × Int × V) := zs.map fun z => (z.1, z.2.1, V.int z.2.2)
theorem val_pr {zs : List (Addr × Int × Int)} (nd : (zs.map fun z => z.2.1).Nodup) (s : Int) : (s ∉ (zs.map (·.2)).map (·.1) ∧ valV (putP [] (prV zs)) (Sum.inl s) = none) ∨ (s ∈ (zs.map (·.2)).map (·.1) ∧ ∃ v, valV (putP [] (prV zs)) (Sum.inl s) = some v) := by
  have hv := valV_putP (prV zs) [] s (by unfold prV; rw [List.map_map]; exact nd)
  have h1 : (prV zs).find? (fun z => decide (z.2.1 = s)) = (zs.find? (fun w => decide (w.2.1 = s))).map fun w => (w.1, w.2.1, V.int w.2.2) := by
    unfold prV; rw [List.find?_map]; rfl
  rw [h1] at hv
  rw [hv]
  cases q : zs.find? (fun w => decide (w.2.1 = s)) with
  | none =>
    refine .inl ⟨fun hm => ?_, rfl⟩
    rw [List.map_map] at hm
    obtain ⟨z, hz, e⟩ := List.mem_map.mp hm
    rw [List.find?_eq_none] at q
    exact q z hz (decide_eq_true e)
  | some w =>
    refine .inr ⟨?_, _, rfl⟩
    have e : w.2.1 = s := by simpa using List.find?_some q
    rw [List.map_map, ← e]
    exact List.mem_map.mpr ⟨w, List.mem_of_find?_eq_some q, rfl⟩
theorem RiseC.nd {zs : List (Addr × Int × Int)} (h : RiseC (zs.map (·.2))) : (zs.map fun z => z.2.1).Nodup := by
  have := h.1
  rw [List.map_map] at this
  exact this.imp fun h => Int.ne_of_lt h
theorem free_num : ∀ (n : Nat) (ks : List Int), ks.length < n → ∃ i : Nat, i < n ∧ (i : Int) ∉ ks
  | 0, ks, h => absurd h (Nat.not_lt_zero _)
  | n + 1, ks, h => by
    by_cases hm : (n : Int) ∈ ks
    · have hl := List.length_erase_of_mem hm
      have hp := List.length_pos_of_mem hm
      obtain ⟨i, hi, hn⟩ := free_num n (ks.erase (n : Int)) (by trivial)
      exact ⟨i, by trivial, fun hk => hn ((List.mem_erase_of_ne (by trivial)).mpr hk)⟩
    · exact ⟨n, by trivial, hm⟩
noncomputable def Kd (ps : List Addr) (H H' : Hp) : Prop := ∀ b u, b ∉ ps → H b = some u → H' b = some u
theorem Kd.of {ps : List Addr} {H H' : Hp} (s : Same H H') : Kd ps H H' := fun b u _ h => s b u h
theorem Kd.refl {ps : List Addr} {H : Hp} : Kd ps H H := fun _ _ _ h => h
theorem Kd.trans {ps : List Addr} {H H1 H2 : Hp} (a : Kd ps H H1) (b : Kd ps H1 H2) : Kd ps H H2 := fun q u hq h => b q u hq (a q u hq h)
theorem Kd.draw {ps : List Addr} {H : Hp} {p : Addr} (hp : p ∈ ps) (o : HO) : Kd ps H (upd H p o) := fun q u hq h => by
  rw [upd_ne (fun e : q = p => hq (e ▸ hp))]; exact h
theorem Kd.bits {ps : List Addr} {H H' : Hp} {p : Addr} (hp : p ∈ ps) (k : ∀ q o, q ≠ p → H q = some o → H' q = some o) : Kd ps H H' := fun q u hq h => k q u (fun e => hq (e ▸ hp)) h
theorem Kd.upd {ps : List Addr} {H H' : Hp} (k : Kd ps H H') {q : Addr} (u : HO) (hq : H q = none) : Kd ps H (upd H' q u) := fun b w hb e => by
  rw [upd_ne (fun z => by rw [z, hq] at e; cases e)]; exact k b w hb e
theorem Kd.free {ps : List Addr} {D : Addr} {H H' : Hp} (k : Kd ps H H') (dk : Dks ps D H') {q : Addr} (hq : H' q = none) : H q = none := by
  cases e : H q with
  | none => rfl
  | some u =>
    have := k q u (fun hp => (dk.ne hq).1 q hp rfl) e
    rw [hq] at this; cases this
theorem Prs.kd {ps : List Addr} {D : Addr} {H H' : Hp} {p : Addr} {zs : List (Addr × Int × Int)} (h : Prs H p zs) (dk : Dks ps D H) (k : Kd ps H H') : Prs H' p zs := by
  refine ⟨k _ _ (fun hp => ?_) h.at_, fun z hz => k _ _ (fun hp => ?_) (h.each z hz)⟩
  · obtain ⟨_, a, b, c, e⟩ := dk.each p hp
    rw [h.at_] at e
    have e2 : (zs.map fun z => V.ref z.1) = [.int a, .int b, .int c] := HO.lst.inj (Option.some.inj e)
    cases zs with
    | nil => cases e2
    | cons z r =>
      have := List.cons.inj e2
      cases this.1
  · obtain ⟨_, a, b, c, e⟩ := dk.each z.1 hp
    rw [h.each z hz] at e
    cases e
theorem cut_last10 (xs : List V) : cutV xs none (some (-1)) = xs.take (xs.length - 1) := by
  unfold cutV
  rw [HT.sIx_none, List.drop_zero, Nat.sub_zero]
  congr 1
  show (if (-1 : Int) < 0 then ((-1 : Int) + (xs.length : Int)).toNat else min (-1 : Int).toNat xs.length) = xs.length - 1
  rw [if_pos (by decide)]
  trivial
theorem can_nil : canB [] = true := by rw [let_can RiseC.nil]; decide +kernel
theorem Prs.nil {H : Hp} {p : Addr} (h : H p = some (.lst [])) : Prs H p [] := ⟨h, (fun _ z => by cases z)⟩
end PH
set_option Elab.async false
set_option linter.all false
set_option maxRecDepth 100000
set_option maxHeartbeats 4000000
namespace K10
open PySem L2 PySem.W PH
section
variable {P : Program} {w : World} {K : PySem.W.Frag} {mg : Str → Option Value} {base : Heap}
theorem sc_words : FnScope ["lengths", "words", "word", "length", "sign"] ["lengths"] (defScope s_words) := ⟨rfl, rfl, rfl, by decide +kernel, rfl, by decide +kernel, by decide +kernel⟩
theorem ok_words {f c_NoCode f_can f_next : Addr} {fd d_can d_next : FuncData} (F : Fun K "words_by" "words_by" s_words f fd) (B : Bls mg) (X_NoCode : Ex K mg "NoCode" c_NoCode) (m_NoCode : mg "NoCode" = some (.ref c_NoCode)) 
    (G_can : FnOk P w K mg base (CXW P w) 2 f_can d_can ["lengths"] (spCan)) (b_can : Binds K d_can ["lengths"] []) (k_can : keepIn K (.ref f_can) = true) (m_can : mg "can_be_words" = some (.ref f_can)) 
    (G_next : FnOk P w K mg base (CXW P w) 2 f_next d_next ["word", "length"] (spNext K)) (b_next : Binds K d_next ["word", "length"] []) (k_next : keepIn K (.ref f_next) = true) (m_next : mg "next_word" = some (.ref f_next)) : FnOk P w K mg base (CXW P w) 3 f fd ["lengths"] (spWords c_NoCode) := by
  refine F.okX sc_words (fun vs H Q E h => ?_) (fun cdv A outer s H vs Q E hr h => ?_)
  · obtain ⟨p, zs, rfl, _⟩ := h
    rfl
  · obtain ⟨p, zs, rfl, prZ, hzl, hE, hQ⟩ := h
    refine ⟨_, (pss_cons (ps_if (pt_not (pt_val (pe_call G_can hr rfl m_can k_can b_can .nil passW (pa_cons (pv 0) pa_nil))))
        (pss_one (ps_raise PySem.F.excBase_ValueError X_NoCode.ex X_NoCode.mg rfl))
        pss_nil)
      (pss_cons (ps_set (i := 1) sc_words.nd rfl (Or.inr rfl) pe_dnewK)
      (pss_cons (ps_set (i := 2) sc_words.nd rfl (Or.inl rfl) (pe_lst pa_nil))
      (pss_cons (ps_for pown rfl (pi_list (pe_callB call_sortedT rfl B.sorted boot_sorted' (pa_cons (pe_comp (N := ["sign", "length"]) (js := [none, none]) (g := (gTup K 2 (gCons (gName 0) (gCons (gName 1) gNil)))) (tc := tTrue) (te := (tTup (tCons (tVar 1) (tCons (tVar 0) tNil)))) rfl (comp_scope (osc := defScope s_words) (XN := ["lengths", "words", "word", "length", "sign"]) rfl rfl rfl (by decide +kernel)) (pi_list (pv 0)) (fun _ _ _ _ => pg_tup rfl (pgs_cons (pg_name (i := 0) (show (["sign", "length"] : List Str).Nodup by decide +kernel) rfl (Or.inl rfl)) (pgs_cons (pg_name (i := 1) (show (["sign", "length"] : List Str).Nodup by decide +kernel) rfl (Or.inl rfl)) pgs_nil))) (fun _ _ _ _ => pif_nil) (fun _ _ _ _ => (pe_tup (pa_cons (pv 1) (pa_cons (pv 0) pa_nil))))) pa_nil))) (pg_tup rfl (pgs_cons (pg_name (i := 3) sc_words.nd rfl (Or.inl rfl)) (pgs_cons (pg_name (i := 4) sc_words.nd rfl (Or.inl rfl)) pgs_nil)))
        (pss_cons (ps_if (pt_cmpR op_eq (pe_callB call_lenD rfl B.len PySem.boot_len (pa_cons (pv 1) pa_nil)) pe_int (nomark _))
          (pss_one (ps_set (i := 2) sc_words.nd rfl (Or.inl rfl) (pe_op op_rep (pe_lst (pa_cons pe_int pa_nil)) (pv 3))))
          (pss_one (ps_set (i := 2) sc_words.nd rfl (Or.inl rfl) (pe_call G_next hr rfl m_next k_next b_next .nil passW (pa_cons (pv 2) (pa_cons (pv 3) pa_nil))))))
        (pss_one (ps_dput (hu_of hr) (pv 1) (pv 4) (pv 2) rfl))))
      (pss_one (ps_ret (pe_comp (N := ["sign", "length", "words"]) (js := [none, none, some 1]) (g := (gTup K 2 (gCons (gName 0) (gCons (gName 1) gNil)))) (tc := tTrue) (te := (tTup (tCons (tVar 0) (tCons (tDGet (tVar 2) (tVar 0)) tNil)))) rfl (comp_scope (osc := defScope s_words) (XN := ["lengths", "words", "word", "length", "sign"]) rfl rfl rfl (by decide +kernel)) (pi_list (pv 0)) (fun _ _ _ _ => pg_tup rfl (pgs_cons (pg_name (i := 0) (show (["sign", "length", "words"] : List Str).Nodup by decide +kernel) rfl (Or.inl rfl)) (pgs_cons (pg_name (i := 1) (show (["sign", "length", "words"] : List Str).Nodup by decide +kernel) rfl (Or.inl rfl)) pgs_nil))) (fun _ _ _ _ => pif_nil) (fun _ _ _ _ => (pe_tup (pa_cons (pv 0) (pa_cons (pe_dget (hu_of hr) (pv 2) (pv 0) (fun _ _ => rfl)) pa_nil))))))))))), ?_⟩
    generalize hcs : zs.map (·.2) = cs at hE hQ
    have hcl : cs.length = zs.length := by rw [← hcs, List.length_map]
    refine ⟨_, rfl, p, zs, rfl, prZ, hzl, fun H1 s1 => ⟨_, rfl, ?_⟩⟩
    rw [hcs]
    cases hb : canB cs with
    | false =>
      refine iteT ?_
      exact hE hb _ s1
    | true =>
      refine iteF ?_
      obtain ⟨hlen, hsum⟩ := can_lens hb
      have hsg := can_signs hb
      have hup := lens_up cs hlen
      have hsl : (stOf cs).length = zs.length := by unfold stOf; rw [srt_len, List.length_map, hcl]
      refine fun dt hdt => ?_
      have s2 := s1.trans (same_new hdt (.dK []))
      have hdH : H dt = none := s1.free hdt
      refine ⟨(by show 0 ≤ sizeLine; decide), fun w0 hw0 => ?_⟩
      have s3 := s2.trans (same_new hw0 (.lst []))
      have hd3 : upd (upd H1 dt (.dK [])) w0 (.lst []) dt = some (.dK []) := (same_new hw0 _) _ _ upd_same
      generalize upd (upd H1 dt (.dK [])) w0 (.lst []) = H3 at s3 hd3 ⊢
      refine ⟨_, rfl, p, rfl, ⟨_, SqL.of (s3 _ _ prZ.at_)⟩, fun D hD => ?_⟩
      refine comp_lstQ (K := K) (a := p) (xs := zs.map fun z => V.ref z.1) (fun i σ' H' => ∃ (x y : Option V) (th : List (Addr × Int × Int)), σ' = [x, y] ∧ Prs H' D th ∧ th.map (·.2) = (cs.map swp).take i ∧ th.length ≤ i ∧ Same H3 H')
        ⟨none, none, [], rfl, ⟨upd_same, (fun _ z => by cases z)⟩, by rw [List.take_zero]; rfl, Nat.le_refl _, same_new hD _⟩ (fun i σ' H' _ ⟨_, _, _, _, _, _, _, e⟩ => SqL.of (e _ _ (s3 _ _ prZ.at_))) ?_ ?_
      · rintro i v σ' H' hi ⟨x, y, th, rfl, prT, hth, htl, sm⟩
        obtain ⟨z, hz, rfl⟩ := ref_at hi
        have hlt : i < (zs.map fun z => V.ref z.1).length := (List.getElem?_eq_some_iff.mp hi).1
        have hil : i < zs.length := (List.getElem?_eq_some_iff.mp hz).1
        have hck : (cs.map swp)[i]? = some (swp z.2) := by rw [List.getElem?_map, ← hcs, List.getElem?_map, hz]; rfl
        refine ⟨z.1, _, rfl, SqT.of (sm _ _ (s3 _ _ (prZ.each z (List.mem_of_getElem? hz)))), rfl, _, _, rfl, _, _, rfl, rfl, ?_⟩
        refine trueT ?_
        refine ⟨_, rfl, _, rfl, (by show 2 ≤ sizeLine; decide), fun t ht => ?_⟩
        have st := same_new ht (.tup [.int z.2.2, .int z.2.1])
        refine ⟨D, _, _, rfl, rfl, st _ _ prT.at_, fits_lt (by rw [List.length_map]; trivial), ?_⟩
        refine CW.next hlt ⟨_, _, th ++ [(t, z.2.2, z.2.1)], rfl, (prT.same st).app upd_same, ?_, by rw [List.length_append, List.length_singleton]; trivial, same_upd (sm.trans st) _ hD⟩
        rw [List.map_append, hth, take_at hck]; rfl
      rintro σ' H4 ⟨x, y, th, rfl, prT, hth, htl, sm⟩
      rw [List.length_map, List.take_of_length_le (by rw [List.length_map]; trivial)] at hth
      refine ⟨D, th, rfl, SqL.of prT.at_, (fun z hz => SqT.of (prT.each z hz)), fun tz' q hp hs hq => ?_⟩
      have est : tz'.map (·.2) = stOf cs := by unfold stOf; rw [← hth]; exact srt_eq (hp.map _) hs
      have prQ : Prs (upd H4 q (.lst (tz'.map fun z => V.ref z.1))) q tz' := ⟨upd_same, fun z hz => (same_new hq _) _ _ (prT.each z (hp.mem_iff.mp hz))⟩
      have s5 := s3.trans (sm.trans (same_new hq (.lst (tz'.map fun z => V.ref z.1))))
      have hd5 := (same_new hq (.lst (tz'.map fun z => V.ref z.1))) _ _ (sm _ _ hd3)
      generalize upd H4 q (.lst (tz'.map fun z => V.ref z.1)) = H5 at prQ s5 hd5 ⊢
      have nqd : q ≠ dt := fun e => by have := prQ.at_; rw [e, hd5] at this; cases this
      have nzd : ∀ z ∈ tz', z.1 ≠ dt := fun z hz e => by have := prQ.each z hz; rw [e, hd5] at this; cases this
      have kS : ∀ {H' : Hp}, Kb dt H5 H' → Same H H' := fun {H'} k b u e => k b u (fun c => by rw [c, hdH] at e; cases e) (s5 b u e)
      refine ⟨q, rfl, ⟨_, SqL.of prQ.at_⟩, for_list (K := K) (a := q) (xs := tz'.map fun z => V.ref z.1) (fun i σ H' => ∃ (es : List (Int × Addr × List Int)) (v2 v3 v4 : Option V), σ = [some (.ref p), some (.ref dt), v2, v3, v4] ∧ H' dt = some (.dK (dW es)) ∧ es.map (·.1) = ((stOf cs).take i).map (·.2) ∧ (∀ e ∈ es, H' e.2.1 = some (lsI e.2.2) ∧ H e.2.1 = none) ∧ (es.map (·.2.1)).Nodup ∧ Kb dt H5 H' ∧ ((i = 0 ∧ es = []) ∨ (∃ es' s b w, es = es' ++ [(s, b, w)] ∧ v2 = some (.ref b) ∧ isBits w ∧ w.length ≤ 256 ∧ Up w.length ((lensOf cs).drop i) ∧ tk w + sP ((lensOf cs).drop i) ≤ 2 ^ 256 ∧ wds (lensOf cs) = es.map (·.2.2) ++ wdsN w ((lensOf cs).drop i))))
        ⟨[], _, _, _, rfl, hd5, by rw [List.take_zero]; rfl, (fun _ z => by cases z), List.nodup_nil, Kb.refl _ _, .inl ⟨rfl, rfl⟩⟩ (fun i σ H' _ ⟨_, _, _, _, _, _, _, _, _, k, _⟩ => SqL.of (k _ _ nqd prQ.at_)) ?_ ?_⟩
      · rintro i y σ H6 hi ⟨es, v2, v3, v4, rfl, hd2, hes, hev, hnd, kb, htail⟩
        obtain ⟨z, hz, rfl⟩ := ref_at hi
        have hzm := List.mem_of_getElem? hz
        have hst : (stOf cs)[i]? = some z.2 := by rw [← est, List.getElem?_map, hz]; rfl
        have hil : i < (stOf cs).length := (List.getElem?_eq_some_iff.mp hst).1
        have hz1 : 1 ≤ z.2.1 ∧ z.2.1 ≤ 256 := by
          have hm := List.mem_of_getElem? hst
          have := (srt_perm (cs.map swp)).mem_iff.mp hm
          obtain ⟨c, hc, e⟩ := List.mem_map.mp this
          have := hlen c hc
          rw [← e]; exact this
        obtain ⟨l, hl⟩ : ∃ l : Nat, z.2.1 = (l : Int) := ⟨z.2.1.toNat, by trivial⟩
        have hli : (lensOf cs)[i]? = some l := by
          unfold lensOf
          rw [List.getElem?_map, hst]
          show some z.2.1.toNat = some l
          rw [hl, Int.toNat_natCast]
        have hld : (lensOf cs).drop i = l :: (lensOf cs).drop (i + 1) := by
          obtain ⟨h1, h2⟩ := List.getElem?_eq_some_iff.mp hli
          rw [List.drop_eq_getElem_cons h1, h2]
        have hel : es.length = i := by
          have := congrArg List.length hes
          rw [List.length_map, List.length_map, List.length_take] at this
          trivial
        have hSH := kS kb
        refine ⟨z.1, _, rfl, SqT.of (kb _ _ (nzd z hzm) (prQ.each z hzm)), rfl, _, _, rfl, _, _, rfl, rfl, ?_⟩
        refine ⟨_, rfl, dt, _, rfl, hd2, rfl, _, rfl, ?_⟩
        rw [dW_len, hel, hl]
        rcases htail with ⟨h0, hnil⟩ | ⟨es', s', b, w, hes', hv2, hwb, hwl, hwu, hwt, hwd⟩
        · rw [decide_eq_true (show V.int (i : Int) = V.int 0 by rw [h0]; rfl)]
          refine iteT ?_
          refine ⟨(by show 1 ≤ sizeLine; decide), fun l0 hl0 => ?_⟩
          have t0 := same_new hl0 (.lst [V.int 0])
          refine ⟨_, rfl, l0, _, _, rfl, rfl, upd_same, by trivial, by trivial, ?_, fun b hbn => ?_⟩
          · rw [Int.toNat_natCast]
            have : 1 * l ≤ 256 := by trivial
            exact Nat.le_trans this (by decide)
          rw [Int.toNat_natCast, rep_zer]
          have t1 := same_new hbn (lsI (zer l))
          have hB : upd (upd H6 l0 (.lst [V.int 0])) b (lsI (zer l)) b = some (lsI (zer l)) := upd_same
          have S7 := t0.trans t1
          have hB2 : H6 b = none := t0.free hbn
          have hBH : H b = none := hSH.free hB2
          have hD7 := S7 _ _ hd2
          rw [show HO.lst ((zer l).map V.int) = lsI (zer l) from rfl]
          generalize upd (upd H6 l0 (.lst [V.int 0])) b (lsI (zer l)) = H7 at hB S7 hD7 ⊢
          have hnew : z.2.2 ∉ es.map (·.1) := by
            rw [hes]
            intro c
            have hn := hsg
            rw [show (stOf cs).map (·.2) = ((stOf cs).take i).map (·.2) ++ ((stOf cs).drop i).map (·.2) by rw [← List.map_append, List.take_append_drop], List.nodup_append] at hn
            have hd' : z.2.2 ∈ ((stOf cs).drop i).map (·.2) := List.mem_map.mpr ⟨z.2, List.mem_iff_getElem?.mpr ⟨0, by rw [List.getElem?_drop, Nat.add_zero]; exact hst⟩, rfl⟩
            exact hn.2.2 _ c _ hd' rfl
          have hbd : b ≠ dt := fun e => by rw [e, hD7] at hB; cases hB
          refine ⟨_, rfl, _, rfl, _, rfl, dt, _, rfl, DPut.k (k := Sum.inl z.2.2) hD7 (fits_lt (by rw [dW_len]; trivial)), ?_⟩
          rw [putK_dW (w := zer l) hnew]
          refine ⟨es ++ [(z.2.2, b, zer l)], _, _, _, rfl, upd_same, ?_, ?_, ?_, (kb.trans (Kb.of S7)).trans (Kb.put dt _ _), .inr ⟨es, z.2.2, b, zer l, rfl, rfl, zer_bits l, (by rw [zer_len]; trivial), ?_, ?_, ?_⟩⟩
          · rw [List.map_append, hes, take_at hst, List.map_append]; rfl
          · intro e he
            rcases List.mem_append.mp he with q | q
            · have nq : e.2.1 ≠ dt := fun c => by have := (hev e q).1; rw [c, hd2] at this; cases this
              exact ⟨by rw [upd_ne nq]; exact S7 _ _ (hev e q).1, (hev e q).2⟩
            · have : e = (z.2.2, b, zer l) := by simpa using q
              subst this
              exact ⟨by rw [upd_ne hbd]; exact hB, hBH⟩
          · rw [List.map_append, List.nodup_append]
            refine ⟨hnd, by simp, fun x hx y hy c => ?_⟩
            have hy' : y = b := by simpa using hy
            obtain ⟨e, he, rfl⟩ := List.mem_map.mp hx
            have := (hev e he).1
            rw [c, hy', hB2] at this; cases this
          · have := hup
            rw [show lensOf cs = l :: (lensOf cs).drop (i + 1) by rw [← hld, h0, List.drop_zero]] at this
            rw [zer_len]
            exact this.2.2
          · have := hsum
            rw [show lensOf cs = l :: (lensOf cs).drop (i + 1) by rw [← hld, h0, List.drop_zero], sP_cons] at this
            rw [tk_zer]
            exact this
          · rw [hnil]
            conv => lhs; rw [show lensOf cs = l :: (lensOf cs).drop (i + 1) by rw [← hld, h0, List.drop_zero]]
            rfl
        · have hi0 : i ≠ 0 := fun c => by rw [hes', List.length_append, List.length_singleton] at hel; trivial
          rw [decide_eq_false (show ¬ V.int (i : Int) = V.int 0 from fun c => by have := V.int.inj c; trivial)]
          refine iteF ?_
          subst hv2
          rw [hld] at hwu hwt hwd
          have hbm : (s', b, w) ∈ es := by rw [hes']; exact List.mem_append_right _ List.mem_cons_self
          refine ⟨_, rfl, _, rfl, b, w, l, rfl, SqL.of (hev _ hbm).1, hwb, room_at hwb hwl hwt, hwu.1, hwu.2.1, fun b2 H7 S7 hB2 hB => ?_⟩
          have hBH : H b2 = none := hSH.free hB2
          have hD7 := S7 _ _ hd2
          have hnew : z.2.2 ∉ es.map (·.1) := by
            rw [hes]
            intro c
            have hn := hsg
            rw [show (stOf cs).map (·.2) = ((stOf cs).take i).map (·.2) ++ ((stOf cs).drop i).map (·.2) by rw [← List.map_append, List.take_append_drop], List.nodup_append] at hn
            have hd' : z.2.2 ∈ ((stOf cs).drop i).map (·.2) := List.mem_map.mpr ⟨z.2, List.mem_iff_getElem?.mpr ⟨0, by rw [List.getElem?_drop, Nat.add_zero]; exact hst⟩, rfl⟩
            exact hn.2.2 _ c _ hd' rfl
          have hbd : b2 ≠ dt := fun e => by rw [e, hD7] at hB; cases hB
          refine ⟨_, rfl, _, rfl, _, rfl, dt, _, rfl, DPut.k (k := Sum.inl z.2.2) hD7 (fits_lt (by rw [dW_len]; trivial)), ?_⟩
          rw [putK_dW (w := nw w l) hnew]
          refine ⟨es ++ [(z.2.2, b2, nw w l)], _, _, _, rfl, upd_same, ?_, ?_, ?_, (kb.trans (Kb.of S7)).trans (Kb.put dt _ _), .inr ⟨es, z.2.2, b2, nw w l, rfl, rfl, nw_bits w l, (by rw [nw_len hwu.1]; exact hwu.2.1), ?_, ?_, ?_⟩⟩
          · rw [List.map_append, hes, take_at hst, List.map_append]; rfl
          · intro e he
            rcases List.mem_append.mp he with q | q
            · have nq : e.2.1 ≠ dt := fun c => by have := (hev e q).1; rw [c, hd2] at this; cases this
              exact ⟨by rw [upd_ne nq]; exact S7 _ _ (hev e q).1, (hev e q).2⟩
            · have : e = (z.2.2, b2, nw w l) := by simpa using q
              subst this
              exact ⟨by rw [upd_ne hbd]; exact hB, hBH⟩
          · rw [List.map_append, List.nodup_append]
            refine ⟨hnd, by simp, fun x hx y hy c => ?_⟩
            have hy' : y = b2 := by simpa using hy
            obtain ⟨e, he, rfl⟩ := List.mem_map.mp hx
            have := (hev e he).1
            rw [c, hy', hB2] at this; cases this
          · rw [nw_len hwu.1]
            exact hwu.2.2
          · exact room_on hwb hwu.1 hwu.2.1 hwt
          · rw [hwd, List.map_append, List.append_assoc]; rfl
      · rintro σ H6 ⟨es, v2, v3, v4, rfl, hd2, hes, hev, hnd, kb, htail⟩
        have htl' : tz'.length = (stOf cs).length := by rw [← est, List.length_map]
        have hll : (lensOf cs).length = (stOf cs).length := by unfold lensOf; rw [List.length_map]
        rw [List.length_map, htl', List.take_length] at hes
        have hbits : es.map (·.2.2) = wds (lensOf cs) := by
          rcases htail with ⟨h0, hnil⟩ | ⟨_, _, _, w, _, _, _, _, _, _, hwd⟩
          · rw [List.length_map, htl', ← hll] at h0
            rw [hnil, List.eq_nil_of_length_eq_zero h0]; rfl
          · rw [hwd, List.length_map, htl', ← hll, List.drop_length]
            show _ = _ ++ []
            rw [List.append_nil]
        have hw : es.map (fun e => (e.1, e.2.2)) = wof cs := by
          unfold wof
          rw [← hes, ← hbits, zip_two]
        have hcan := hb
        unfold canB at hcan
        rw [Bool.and_eq_true, Bool.and_eq_true] at hcan
        have hcn := (riseB_lt hcan.1.1).2
        have hfind : ∀ c ∈ cs, ∃ e ∈ es, es.find? (fun e => decide (e.1 = c.1)) = some e ∧ e.1 = c.1 := fun c hc => by
          have hm : c.1 ∈ es.map (·.1) := by
            rw [hes]
            have : swp c ∈ stOf cs := (srt_perm (cs.map swp)).mem_iff.mpr (List.mem_map.mpr ⟨c, hc, rfl⟩)
            exact List.mem_map.mpr ⟨swp c, this, rfl⟩
          obtain ⟨e0, h0, h1⟩ := List.mem_map.mp hm
          cases hf : es.find? (fun e => decide (e.1 = c.1)) with
          | none =>
            have := List.find?_eq_none.mp hf e0 h0
            simp [h1] at this
          | some e => exact ⟨e, List.mem_of_find?_eq_some hf, rfl, by simpa using List.find?_some hf⟩
        have sH6 := kS kb
        refine ⟨_, rfl, p, rfl, ⟨_, SqL.of (sH6 _ _ prZ.at_)⟩, fun R hR => ?_⟩
        have hRH : H R = none := sH6.free hR
        have nRd : dt ≠ R := ne_of_none hd2 hR
        refine comp_lst (K := K) (a := p) (xs := zs.map fun z => V.ref z.1) (fun i σ' H' => ∃ (x y : Option V) (ws : List (Addr × Int × Addr × List Int)), σ' = [x, y, some (.ref dt)] ∧ Wrs H' R ws ∧ ws.map (fun w => (w.2.1, w.2.2.2)) = (wrdsOf cs).take i ∧ ws.length ≤ i ∧ (∀ w ∈ ws, ∃ e ∈ es, e.1 = w.2.1 ∧ e.2.1 = w.2.2.1) ∧ Same H6 H')
          ⟨none, none, [], rfl, ⟨upd_same, (fun _ z => by cases z)⟩, by rw [List.take_zero]; rfl, Nat.le_refl _, (fun _ z => by cases z), same_new hR _⟩ (fun i σ' H' _ ⟨_, _, _, _, _, _, _, _, e⟩ => SqL.of (e _ _ (sH6 _ _ prZ.at_))) ?_ ?_
        · rintro i v σ' H' hi ⟨x, y, ws, rfl, wr, hws, hwl, hwe, sm'⟩
          obtain ⟨z, hz, rfl⟩ := ref_at hi
          have hzm := List.mem_of_getElem? hz
          have hil : i < zs.length := (List.getElem?_eq_some_iff.mp hz).1
          have hlt : i < (zs.map fun z => V.ref z.1).length := (List.getElem?_eq_some_iff.mp hi).1
          have hck : cs[i]? = some z.2 := by rw [← hcs, List.getElem?_map, hz]; rfl
          obtain ⟨e, he, hf, hes1⟩ := hfind z.2 (List.mem_of_getElem? hck)
          refine ⟨z.1, _, rfl, SqT.of (sm' _ _ (sH6 _ _ (prZ.each z hzm))), rfl, _, _, rfl, _, _, rfl, rfl, ?_⟩
          refine trueT ?_
          have hg := DGet.k (k := Sum.inl z.2.1) (sm' _ _ hd2)
          rw [valV_dW, hf] at hg
          refine ⟨_, rfl, _, rfl, _, rfl, dt, _, rfl, hg, (by show 2 ≤ sizeLine; decide), fun t ht => ?_⟩
          have st := same_new ht (.tup [.int z.2.1, .ref e.2.1])
          refine ⟨R, _, _, rfl, rfl, st _ _ wr.at_, fits_lt (by rw [List.length_map]; trivial), ?_⟩
          have nR : ∀ b xs, upd H' t (.tup [.int z.2.1, .ref e.2.1]) b = some (.tup xs) → b ≠ R := fun b xs q c => by
            rw [c, st _ _ wr.at_] at q; cases q
          have nB : ∀ w ∈ ws, w.2.2.1 ≠ R := fun w hw c => by
            obtain ⟨e', he', _, q⟩ := hwe w hw
            have := (hev e' he').1
            rw [q, c, hR] at this; cases this
          refine CW.next hlt ⟨_, _, ws ++ [(t, z.2.1, e.2.1, e.2.2)], rfl, ⟨by rw [upd_same, List.map_append]; rfl, fun w hw => ?_⟩, ?_, by rw [List.length_append, List.length_singleton]; trivial, fun w hw => ?_, same_upd (sm'.trans st) _ hR⟩
          · rcases List.mem_append.mp hw with q | q
            · have q1 := st _ _ (wr.each w q).1
              exact ⟨by rw [upd_ne (nR _ _ q1)]; exact q1, by rw [upd_ne (nB w q)]; exact st _ _ (wr.each w q).2⟩
            · have : w = (t, z.2.1, e.2.1, e.2.2) := by simpa using q
              subst this
              have neR : e.2.1 ≠ R := fun c => by have := (hev e he).1; rw [c, hR] at this; cases this
              exact ⟨by rw [upd_ne (nR t _ upd_same)]; exact upd_same, by rw [upd_ne neR]; exact st _ _ (sm' _ _ (hev e he).1)⟩
          · have hwi : (wrdsOf cs)[i]? = some (z.2.1, e.2.2) := by
              unfold wrdsOf
              rw [List.getElem?_map, hck, ← hw]
              show some (z.2.1, look (es.map fun e => (e.1, e.2.2)) z.2.1) = _
              rw [look_es es hf]
            rw [List.map_append, hws, take_at hwi]; rfl
          · rcases List.mem_append.mp hw with q | q
            · exact hwe w q
            · have : w = (t, z.2.1, e.2.1, e.2.2) := by simpa using q
              subst this
              exact ⟨e, he, hes1, rfl⟩
        · rintro σ' H' ⟨x, y, ws, rfl, wr, hws, hwl, hwe, sm'⟩
          rw [List.length_map, List.take_of_length_le (by unfold wrdsOf; rw [List.length_map]; trivial)] at hws
          refine hQ hb R ws H' (sH6.trans sm') hRH wr (fun w hw => ?_) ?_ hws
          · obtain ⟨e, he, _, q⟩ := hwe w hw
            rw [← q]; exact (hev e he).2
          · have hsn : (ws.map (·.2.1)).Nodup := by
              have : ws.map (·.2.1) = cs.map (·.1) := by
                have := congrArg (List.map (·.1)) hws
                unfold wrdsOf at this
                rw [List.map_map, List.map_map] at this
                exact this
              rw [this]; exact hcn
            have inj : ∀ e ∈ es, ∀ e' ∈ es, e.2.1 = e'.2.1 → e.1 = e'.1 := fun e he e' he' c => by
              have := nodup_inj hnd he he' c
              rw [this]
            rw [List.Nodup, List.pairwise_map] at hsn ⊢
            refine hsn.imp_of_mem fun {w w'} hw hw' hne c => ?_
            obtain ⟨e, he, q1, q2⟩ := hwe w hw
            obtain ⟨e', he', q1', q2'⟩ := hwe w' hw'
            exact hne (by rw [← q1, ← q1']; exact inj e he e' he' (by rw [q2, q2', c]))
end
end K10
set_option Elab.async false
set_option linter.all false
set_option maxRecDepth 100000
set_option maxHeartbeats 4000000
namespace K10
open PySem L2 PySem.W PH
section
variable {P : Program} {w : World} {K : PySem.W.Frag} {mg : Str → Option Value} {base : Heap}
theorem sc_coded : FnScope ["text", "lengths", "words", "bits", "sign"] ["text", "lengths"] (defScope s_coded) := ⟨rfl, rfl, rfl, by decide +kernel, rfl, by decide +kernel, by decide +kernel⟩
theorem ok_coded {f c_NoCode f_words : Addr} {fd d_words : FuncData} (F : Fun K "coded" "coded" s_coded f fd) (B : Bls mg) (X_NoCode : Ex K mg "NoCode" c_NoCode) (m_NoCode : mg "NoCode" = some (.ref c_NoCode)) 
    (G_words : FnOk P w K mg base (CXW P w) 3 f_words d_words ["lengths"] (spWords c_NoCode)) (b_words : Binds K d_words ["lengths"] []) (k_words : keepIn K (.ref f_words) = true) (m_words : mg "words_by" = some (.ref f_words)) : FnOk P w K mg base (CXW P w) 4 f fd ["text", "lengths"] (spCoded c_NoCode) := by
  refine F.okX sc_coded (fun vs H Q E h => ?_) (fun cdv A outer s H vs Q E hr h => ?_)
  · obtain ⟨T, p, t, zs, rfl, _⟩ := h
    rfl
  · obtain ⟨T, p, t, zs, rfl, hT, htl, pr, hzl, hE, hQ⟩ := h
    refine ⟨_, (pss_cons (ps_set (i := 2) sc_coded.nd rfl (Or.inl rfl) (pe_callTy (call_dictP rfl) rfl B.dict boot_dictP (pa_cons (pe_call G_words hr rfl m_words k_words b_words .nil passW (pa_cons (pv 1) pa_nil)) pa_nil)))
      (pss_cons (ps_set (i := 3) sc_coded.nd rfl (Or.inl rfl) (pe_lst pa_nil))
      (pss_cons (ps_for pown rfl (pi_list (pv 0)) (pg_name (i := 4) sc_coded.nd rfl (Or.inl rfl))
        (pss_cons (ps_if (pt_cmp (pc_dnotin (hu_of hr) (pv 4) (pv 2)))
          (pss_one (ps_raise PySem.F.excBase_ValueError X_NoCode.ex X_NoCode.mg rfl))
          pss_nil)
        (pss_one (ps_expr (pe_bm PySem.F.plainAttrs_list PySem.F.slot_list_extend PySem.F.type_list_extend mt_extend (pv 3) (pa_cons (pe_dget (hu_of hr) (pv 2) (pv 4) (fun _ _ => rfl)) pa_nil))))))
      (pss_one (ps_ret (pv 3)))))), ?_⟩
    refine ⟨_, rfl, p, zs, rfl, pr, hzl, (fun hb H1 s1 => hE (by unfold cdO; rw [if_neg (by rw [hb]; decide)]) H1 s1), fun hb r ws H1 s1 hr0 wr hnew hnd hm => ?_⟩
    have hm' : wdM ws = wrdsOf (zs.map (·.2)) := hm
    have nd : (ws.map fun w => w.2.1).Nodup := can_nd (wrds_keys _) hm' (can_keys hb)
    have hcd : cdO (zs.map (·.2)) t = cdd (wdM ws) t := by unfold cdO; rw [if_pos hb, hm']
    rw [hcd] at hE hQ
    have hwl : ∀ w ∈ ws, w.2.2.2.length ≤ 256 := fun w hw => wrds_le2 hb (w.2.1, w.2.2.2) (by rw [← hm']; exact List.mem_map.mpr ⟨w, hw, rfl⟩)
    refine ⟨r, wdV ws, rfl, (by unfold wdV; rw [List.map_map]; exact SqL.of wr.at_), (fun z hz => by
      obtain ⟨w, hw, rfl⟩ := List.mem_map.mp hz
      exact SqT.of (wr.each w hw).1), fun dt hdt => ?_⟩
    have udt := same_new hdt (.dK (putP [] (wdV ws)))
    have edt : upd H1 dt (.dK (putP [] (wdV ws))) dt = some (.dK (putP [] (wdV ws))) := upd_same
    generalize upd H1 dt (.dK (putP [] (wdV ws))) = H2 at udt edt ⊢
    have s2 := s1.trans udt
    refine ⟨(by show 0 ≤ sizeLine; decide), fun B_ hB => ?_⟩
    have u3 := same_new hB (.lst [])
    have eB : upd H2 B_ (.lst []) B_ = some (lsI []) := upd_same
    have hBH : H B_ = none := s2.free hB
    generalize upd H2 B_ (.lst []) = H3 at u3 eB ⊢
    refine ⟨_, rfl, T, rfl, ⟨_, SqL.of (u3 _ _ (s2 _ _ hT))⟩, for_list (K := K) (a := T) (xs := t.map V.int) (fun i σ H' => ∃ (bs : List Int) (v4 : Option V), σ = [some (.ref T), some (.ref p), some (.ref dt), some (.ref B_), v4] ∧ H' B_ = some (lsI bs) ∧ cdd (wdM ws) t = (cdd (wdM ws) (t.drop i)).map (bs ++ ·) ∧ bs.length ≤ 256 * i ∧ Same H2 H')
      ⟨[], none, rfl, eB, by rw [List.drop_zero]; cases cdd (wdM ws) t <;> rfl, Nat.zero_le _, u3⟩ (fun i σ H' _ ⟨_, _, _, _, _, _, e⟩ => SqL.of (e _ _ (s2 _ _ hT))) ?_ ?_⟩
    · rintro i y σ H' hi ⟨bs, v4, rfl, hB', hcd', hbl, sm⟩
      obtain ⟨s, rfl, hs⟩ := int_at hi
      have hil : i < t.length := (List.getElem?_eq_some_iff.mp hs).1
      rw [dropH_at hs] at hcd'
      have hd' := sm _ _ edt
      rcases val_wd nd s with ⟨f1, f2⟩ | ⟨w, hw, f1, f2⟩
      · refine ⟨_, rfl, _, rfl, dt, _, rfl, DGet.k (k := Sum.inl s) hd', _, rfl, ?_⟩
        rw [f2]
        refine iteT ?_
        rw [cdd_no f1] at hcd'
        exact hE hcd' H' (s2.trans sm)
      · refine ⟨_, rfl, _, rfl, dt, _, rfl, DGet.k (k := Sum.inl s) hd', _, rfl, ?_⟩
        rw [f2]
        refine iteF ?_
        have hwB : H' w.2.2.1 = some (lsI w.2.2.2) := sm _ _ (udt _ _ (wr.each w hw).2)
        have hg := DGet.k (k := Sum.inl s) hd'
        rw [f2] at hg
        have hwn := hwl w hw
        have hnB : w.2.2.1 ≠ B_ := fun e => by
          have := udt _ _ (wr.each w hw).2
          rw [e, hB] at this; cases this
        refine ⟨_, rfl, .inl ⟨rfl, _, SqL.of hB'⟩, _, rfl, _, rfl, dt, _, rfl, hg, B_, w.2.2.1, _, _, rfl, rfl, hB', hwB, fits (by rw [List.length_map, List.length_map]; trivial), ?_⟩
        refine ⟨bs ++ w.2.2.2, _, rfl, by rw [upd_same]; unfold lsI; rw [List.map_append], ?_, by rw [List.length_append]; trivial, same_upd sm _ hB⟩
        rw [hcd', cdd_on f1, Option.map_map]
        congr 1
        funext q
        exact (List.append_assoc _ _ _).symm
    · rintro σ H' ⟨bs, v4, rfl, hB', hcd', hbl, sm⟩
      rw [List.length_map, List.drop_length] at hcd'
      refine ⟨_, rfl, ?_⟩
      refine hQ bs ?_ B_ H' (s2.trans sm) hBH hB'
      rw [hcd']
      show some (bs ++ []) = _
      rw [List.append_nil]
end
end K10
set_option Elab.async false
set_option linter.all false
set_option maxRecDepth 100000
set_option maxHeartbeats 4000000
namespace K10
open PySem L2 PySem.W PH
section
variable {P : Program} {w : World} {K : PySem.W.Frag} {mg : Str → Option Value} {base : Heap}
theorem sc_readw : FnScope ["bits", "at", "words", "sign", "word", "behind"] ["bits", "at", "words"] (defScope s_readw) := ⟨rfl, rfl, rfl, by decide +kernel, rfl, by decide +kernel, by decide +kernel⟩
theorem ok_readw {f c_Broken : Addr} {fd : FuncData} (F : Fun K "read_word" "read_word" s_readw f fd) (B : Bls mg) (X_Broken : Ex K mg "Broken" c_Broken) (m_Broken : mg "Broken" = some (.ref c_Broken)) : FnOk P w K mg base (CXW P w) 1 f fd ["bits", "at", "words"] (spReadW c_Broken) := by
  refine F.okX sc_readw (fun vs H Q E h => ?_) (fun cdv A outer s H vs Q E hr h => ?_)
  · obtain ⟨Bt, W, bits, a, ws, rfl, _⟩ := h
    rfl
  · obtain ⟨Bt, W, bits, a, ws, rfl, hBt, wr, hwl, hE, hQ⟩ := h
    refine ⟨_, (pss_cons (ps_for pown rfl (pi_list (pv 2)) (pg_tup rfl (pgs_cons (pg_name (i := 3) sc_readw.nd rfl (Or.inl rfl)) (pgs_cons (pg_name (i := 4) sc_readw.nd rfl (Or.inl rfl)) pgs_nil)))
        (pss_cons (ps_set (i := 5) sc_readw.nd rfl (Or.inl rfl) (pe_op op_add (pv 1) (pe_callB call_len_seq rfl B.len PySem.boot_len (pa_cons (pv 4) pa_nil))))
        (pss_one (ps_if (pt_cmpR (op_eqL (units_of hr)) (pe_slice sl_list (pv 0) (po_some (pv 1)) (po_some (pv 5))) (pv 4) (nomark _))
          (pss_one (ps_ret (pe_tup (pa_cons (pv 3) (pa_cons (pv 5) pa_nil)))))
          pss_nil))))
      (pss_one (ps_raise PySem.F.excBase_ValueError X_Broken.ex X_Broken.mg rfl))), ?_⟩
    refine ⟨_, rfl, W, rfl, ⟨_, SqL.of wr.at_⟩, for_list (K := K) (a := W) (xs := ws.map fun w => V.ref w.1) (fun i σ H' => ∃ (v3 v4 v5 : Option V), σ = [some (.ref Bt), some (.int (a : Int)), some (.ref W), v3, v4, v5] ∧ rdw (wdM ws) bits a = rdw ((wdM ws).drop i) bits a ∧ Same H H')
      ⟨none, none, none, rfl, by rw [List.drop_zero], Same.refl _⟩ (fun i σ H' _ ⟨_, _, _, _, _, e⟩ => SqL.of (e _ _ wr.at_)) ?_ ?_⟩
    · rintro i y σ H' hi ⟨v3, v4, v5, rfl, hrd, sm⟩
      have hlt : i < (ws.map fun w => V.ref w.1).length := (List.getElem?_eq_some_iff.mp hi).1
      have hil : i < ws.length := by rw [List.length_map] at hlt; exact hlt
      obtain ⟨z, hz⟩ : ∃ z, ws[i]? = some z := ⟨_, List.getElem?_eq_getElem hil⟩
      rw [List.getElem?_map, hz] at hi
      have ey : V.ref z.1 = y := Option.some.inj hi
      subst ey
      have he := wr.each z (List.mem_of_getElem? hz)
      have hzm : (wdM ws)[i]? = some (z.2.1, z.2.2.2) := by unfold wdM; rw [List.getElem?_map, hz]; rfl
      rw [dropH_at hzm, rdw] at hrd
      have hzw : H' z.2.2.1 = some (lsI z.2.2.2) := sm _ _ he.2
      refine ⟨z.1, _, rfl, SqT.of (sm _ _ he.1), rfl, _, _, rfl, _, _, rfl, rfl, ?_⟩
      refine ⟨_, rfl, _, rfl, z.2.2.1, _, rfl, .inl (SqL.of hzw), _, _, rfl, rfl, ?_⟩
      refine gNam (v' := V.int ((a + z.2.2.2.length : Nat) : Int)) (congrArg V.int (by rw [List.length_map]; trivial)) ?_
      refine ⟨_, rfl, _, rfl, _, rfl, _, rfl, _, rfl, Bt, _, rfl, SqL.of (sm _ _ hBt), fun q hq => ?_⟩
      have ec : HO.lst (cutV (bits.map V.int) (some (a : Int)) (some ((a + z.2.2.2.length : Nat) : Int))) = lsI ((bits.drop a).take z.2.2.2.length) := by
        have := cut_two bits a (a + z.2.2.2.length)
        rw [show a + z.2.2.2.length - a = z.2.2.2.length by trivial] at this
        exact congrArg HO.lst this
      rw [ec]
      have uq := same_new hq (lsI ((bits.drop a).take z.2.2.2.length))
      have eq : upd H' q (lsI ((bits.drop a).take z.2.2.2.length)) q = some (lsI ((bits.drop a).take z.2.2.2.length)) := upd_same
      generalize upd H' q (lsI ((bits.drop a).take z.2.2.2.length)) = H2 at uq eq ⊢
      refine ⟨_, rfl, q, z.2.2.1, _, _, rfl, rfl, SqL.of eq, SqL.of (uq _ _ hzw), _, rfl, ?_⟩
      by_cases hm : (bits.drop a).take z.2.2.2.length = z.2.2.2
      · rw [decide_eq_true hm]
        refine iteT ?_
        have hrd' : rdw (wdM ws) bits a = some (z.2.1, a + z.2.2.2.length) := by rw [hrd]; exact if_pos hm
        refine ⟨_, rfl, _, rfl, (by show 2 ≤ sizeLine; decide), fun T hT => ?_⟩
        exact hQ _ hrd' T _ (sm.trans (uq.trans (same_new hT _))) upd_same
      · rw [decide_eq_false hm]
        refine iteF ?_
        exact ⟨_, _, _, rfl, by rw [hrd]; exact if_neg hm, sm.trans uq⟩
    · rintro σ H' ⟨v3, v4, v5, rfl, hrd, sm⟩
      rw [List.length_map, show ws.length = (wdM ws).length by unfold wdM; rw [List.length_map], List.drop_length, rdw] at hrd
      exact hE hrd H' sm
end
end K10
set_option Elab.async false
set_option linter.all false
set_option maxRecDepth 100000
set_option maxHeartbeats 4000000
namespace K10
open PySem L2 PySem.W PH
section
variable {P : Program} {w : World} {K : PySem.W.Frag} {mg : Str → Option Value} {base : Heap}
theorem sc_decoded : FnScope ["bits", "at", "lengths", "many", "words", "text", "behind", "found"] ["bits", "at", "lengths", "many"] (defScope s_decoded) := ⟨rfl, rfl, rfl, by decide +kernel, rfl, by decide +kernel, by decide +kernel⟩
theorem ok_decoded {f c_Broken c_NoCode f_words f_readw : Addr} {fd d_words d_readw : FuncData} (F : Fun K "decoded" "decoded" s_decoded f fd) (B : Bls mg) (X_Broken : Ex K mg "Broken" c_Broken) (m_Broken : mg "Broken" = some (.ref c_Broken)) 
    (G_words : FnOk P w K mg base (CXW P w) 3 f_words d_words ["lengths"] (spWords c_NoCode)) (b_words : Binds K d_words ["lengths"] []) (k_words : keepIn K (.ref f_words) = true) (m_words : mg "words_by" = some (.ref f_words)) 
    (G_readw : FnOk P w K mg base (CXW P w) 1 f_readw d_readw ["bits", "at", "words"] (spReadW c_Broken)) (b_readw : Binds K d_readw ["bits", "at", "words"] []) (k_readw : keepIn K (.ref f_readw) = true) (m_readw : mg "read_word" = some (.ref f_readw)) : FnOk P w K mg base (CXW P w) 4 f fd ["bits", "at", "lengths", "many"] (spDecoded c_NoCode c_Broken) := by
  refine F.okX sc_decoded (fun vs H Q E h => ?_) (fun cdv A outer s H vs Q E hr h => ?_)
  · obtain ⟨Bt, p, bits, at_, n, zs, rfl, _⟩ := h
    rfl
  · obtain ⟨Bt, p, bits, at_, n, zs, rfl, hBt, hbl, hnl, pr, hzl, hE1, hE2, hQ⟩ := h
    refine ⟨_, (pss_cons (ps_set (i := 4) sc_decoded.nd rfl (Or.inl rfl) (pe_call G_words hr rfl m_words k_words b_words .nil passW (pa_cons (pv 2) pa_nil)))
      (pss_cons (ps_if (PW.pt (pw_or (pt_cmpR op_lt (pv 1) pe_int (nomark _)) (pw_or1 (pt_cmpR op_gt (pv 1) (pe_callB call_len_seq rfl B.len PySem.boot_len (pa_cons (pv 0) pa_nil)) (nomark _)))))
        (pss_one (ps_raise PySem.F.excBase_ValueError X_Broken.ex X_Broken.mg rfl))
        pss_nil)
      (pss_cons (ps_set (i := 5) sc_decoded.nd rfl (Or.inl rfl) (pe_lst pa_nil))
      (pss_cons (ps_set (i := 6) sc_decoded.nd rfl (Or.inl rfl) (pv 1))
      (pss_cons (ps_while pown (pt_cmpR op_lt (pe_callB call_len_seq rfl B.len PySem.boot_len (pa_cons (pv 5) pa_nil)) (pv 3) (nomark _))
        (pss_cons (ps_set (i := 7) sc_decoded.nd rfl (Or.inl rfl) (pe_call G_readw (hr.mono (show 1 ≤ 3 by decide)) rfl m_readw k_readw b_readw .nil passW (pa_cons (pv 0) (pa_cons (pv 6) (pa_cons (pv 4) pa_nil)))))
        (pss_cons (ps_expr (pe_bm PySem.F.plainAttrs_list PySem.F.slot_list_append PySem.F.type_list_append mt_append (pv 5) (pa_cons (pe_ix ix_tup (pv 7) pe_int (fun _ _ => rfl)) pa_nil)))
        (pss_one (ps_set (i := 6) sc_decoded.nd rfl (Or.inl rfl) (pe_ix ix_tup (pv 7) pe_int (fun _ _ => rfl)))))))
      (pss_one (ps_ret (pe_tup (pa_cons (pv 5) (pa_cons (pv 6) pa_nil)))))))))), ?_⟩
    have hrdO : ∀ hb : canB (zs.map (·.2)) = true, rdO (zs.map (·.2)) bits at_ n = if 0 ≤ at_ ∧ at_ ≤ ((bits.length : Nat) : Int) then rd1 (dcd (wrdsOf (zs.map (·.2))) bits n at_.toNat) else Rd10.br := fun hb => by unfold rdO; rw [if_pos hb]
    refine ⟨_, rfl, p, zs, rfl, pr, hzl, (fun hb H1 s1 => hE1 (by unfold rdO; rw [if_neg (by rw [hb]; decide)]) H1 s1), fun hb W ws H1 s1 hW0 wr hnew hnd hm => ?_⟩
    have hm' : wdM ws = wrdsOf (zs.map (·.2)) := hm
    rw [hrdO hb, ← hm'] at hE2 hQ
    refine ⟨_, rfl, _, _, rfl, rfl, _, rfl, ?_⟩
    by_cases h0 : at_ < 0
    · rw [decide_eq_true h0]
      refine iteT (iteT ?_)
      exact hE2 (if_neg (by trivial)) H1 s1
    rw [decide_eq_false h0]
    refine iteF ?_
    refine ⟨_, rfl, _, rfl, Bt, _, rfl, .inl (SqL.of (s1 _ _ hBt)), _, _, rfl, rfl, _, rfl, ?_⟩
    rw [List.length_map]
    by_cases h1 : ((bits.length : Nat) : Int) < at_
    · rw [decide_eq_true h1]
      refine iteT ?_
      exact hE2 (if_neg (by trivial)) H1 s1
    rw [decide_eq_false h1]
    refine iteF ?_
    obtain ⟨a0, ea⟩ : ∃ a0 : Nat, at_ = (a0 : Int) := ⟨at_.toNat, by trivial⟩
    subst ea
    rw [if_pos ⟨by trivial, by trivial⟩, Int.toNat_natCast] at hE2 hQ
    have hws : ws.length ≤ 300 := by
      have := congrArg List.length hm'
      unfold wdM wrdsOf at this
      rw [List.length_map, List.length_map, List.length_map] at this
      trivial
    refine ⟨(by show 0 ≤ sizeLine; decide), fun X_ hX => ?_⟩
    have u2 := same_new hX (.lst [])
    have eX : upd H1 X_ (.lst []) X_ = some (lsI []) := upd_same
    have hXH : H X_ = none := s1.free hX
    generalize upd H1 X_ (.lst []) = H2 at u2 eX ⊢
    refine ⟨_, rfl, ?_⟩
    refine ⟨fun mm σ H' => ∃ (tx : List Int) (b : Nat) (v7 : Option V), mm = n - tx.length ∧ σ = [some (.ref Bt), some (.int (a0 : Int)), some (.ref p), some (.int (n : Int)), some (.ref W), some (.ref X_), some (.int (b : Int)), v7] ∧ H' X_ = some (lsI tx) ∧ tx.length ≤ n ∧ dcd (wdM ws) bits n a0 = (dcd (wdM ws) bits (n - tx.length) b).map (fun q => (tx ++ q.1, q.2)) ∧ Same H1 H',
      ⟨_, [], a0, none, rfl, rfl, eX, Nat.zero_le _, by cases dcd (wdM ws) bits n a0 <;> rfl, u2⟩, ?_⟩
    rintro mm σ H' ⟨tx, b, v7, rfl, rfl, hX', htl, hdc, sm⟩
    refine ⟨_, rfl, X_, _, rfl, .inl (SqL.of hX'), _, rfl, _, _, rfl, rfl, _, rfl, ?_⟩
    rw [List.length_map]
    by_cases hlt : tx.length < n
    rotate_left
    · rw [decide_eq_false (show ¬ ((tx.length : Nat) : Int) < (n : Int) by trivial)]
      refine iteF ?_
      rw [show n - tx.length = 0 by trivial, dcd] at hdc
      refine ⟨_, rfl, _, rfl, (by show 2 ≤ sizeLine; decide), fun T hT => ?_⟩
      have u := same_new hT (.tup [V.ref X_, V.int (b : Int)])
      have e1 : dcd (wdM ws) bits n a0 = some (tx, b) := by
        rw [hdc]
        show some (tx ++ [], b) = _
        rw [List.append_nil]
      exact hQ tx b (by rw [e1]; rfl) T X_ _ (s1.trans (sm.trans u)) hXH upd_same (u _ _ hX')
    rw [decide_eq_true (show ((tx.length : Nat) : Int) < (n : Int) by trivial)]
    refine iteT ?_
    refine ⟨fun σ' H'' => ∃ m', m' < n - tx.length ∧ ∃ (tx : List Int) (b : Nat) (v7 : Option V), m' = n - tx.length ∧ σ' = [some (.ref Bt), some (.int (a0 : Int)), some (.ref p), some (.int (n : Int)), some (.ref W), some (.ref X_), some (.int (b : Int)), v7] ∧ H'' X_ = some (lsI tx) ∧ tx.length ≤ n ∧ dcd (wdM ws) bits n a0 = (dcd (wdM ws) bits (n - tx.length) b).map (fun q => (tx ++ q.1, q.2)) ∧ Same H1 H'', fun σ' H'' z => z, ?_⟩
    obtain ⟨k, ek⟩ : ∃ k, n - tx.length = k + 1 := ⟨n - tx.length - 1, by trivial⟩
    rw [ek] at hdc
    refine ⟨_, rfl, _, rfl, _, rfl, Bt, W, bits, b, ws, rfl, sm _ _ (s1 _ _ hBt), wr.same sm, hws, (fun hr H3 s3 => ?_), fun r hr T H3 s3 hT => ?_⟩
    · rw [dcd_no hr] at hdc
      exact hE2 (by rw [hdc]; rfl) H3 (s1.trans (sm.trans s3))
    rw [dcd_on hr] at hdc
    have hX3 := s3 _ _ hX'
    refine ⟨_, rfl, .inl ⟨rfl, _, SqL.of hX3⟩, _, rfl, T, _, _, _, rfl, rfl, SqT.of hT, rfl, X_, _, _, rfl, rfl, hX3, fits_lt (by rw [List.length_map]; trivial), ?_⟩
    have sm4 := same_upd (sm.trans s3) (.lst (tx.map V.int ++ [V.int r.1])) hX
    have hX4 : upd H3 X_ (.lst (tx.map V.int ++ [V.int r.1])) X_ = some (lsI (tx ++ [r.1])) := by rw [upd_same, lsI_app1]
    have hT4 : upd H3 X_ (.lst (tx.map V.int ++ [V.int r.1])) T = some (.tup [V.int r.1, V.int (r.2 : Int)]) := by rw [upd_ne (fun e => by rw [e, hX3] at hT; cases hT)]; exact hT
    generalize upd H3 X_ (.lst (tx.map V.int ++ [V.int r.1])) = H4 at sm4 hX4 hT4 ⊢
    refine ⟨_, rfl, T, _, _, _, rfl, rfl, SqT.of hT4, rfl, ?_⟩
    refine ⟨n - (tx.length + 1), by trivial, tx ++ [r.1], r.2, _, by rw [List.length_append]; rfl, rfl, hX4, by rw [List.length_append, List.length_singleton]; trivial, ?_, sm4⟩
    rw [hdc, Option.map_map, List.length_append, List.length_singleton, show n - (tx.length + 1) = k by trivial]
    congr 1
    funext q
    show (tx ++ r.1 :: q.1, q.2) = (tx ++ [r.1] ++ q.1, q.2)
    rw [List.append_assoc]; rfl
end
end K10
set_option Elab.async false
set_option linter.all false
set_option maxRecDepth 100000
set_option maxHeartbeats 4000000
namespace K10
open PySem L2 PySem.W PH
section
variable {P : Program} {w : World} {K : PySem.W.Frag} {mg : Str → Option Value} {base : Heap}
theorem scDraw : FnScope ["deck", "many", "found", "number"] ["deck", "many"] (defScope sDraw) := ⟨rfl, rfl, rfl, by decide +kernel, rfl, by decide +kernel, by decide +kernel⟩
theorem ok_draw {f : Addr} {fd : FuncData} (F : Fun K "_law_draw" "_law_draw" sDraw f fd) : FnOk P w K mg base (CXW P w) 1 f fd ["deck", "many"] spDraw := by
  refine F.okN scDraw (fun vs H Q E h => ?_) (fun cdv A outer s H vs Q E hr h => ?_)
  · obtain ⟨p, a, b, c, many, rfl, _⟩ := h
    rfl
  · obtain ⟨p, a, b, c, many, rfl, hp, h0, h1, k⟩ := h
    refine ⟨_, pss_cons (ps_if (pt_cmpR op_eq (pe_ix ix_list (pv 0) pe_int (fun _ _ => rfl)) pe_int (nomark _))
        (pss_cons (ps_set (i := 2) scDraw.nd rfl (Or.inl rfl) (pe_op op_mod (pe_ix ix_list (pv 0) pe_int (fun _ _ => rfl)) (pv 1)))
        (pss_cons (ps_asg (pe_op op_fdiv (pe_ix ix_list (pv 0) pe_int (fun _ _ => rfl)) (pv 1)) (pg_sub (pv 0) pe_int set_list))
        (pss_one (ps_ret (pv 2))))) pss_nil)
      (pss_cons (ps_asg (pe_op op_add (pe_ix ix_list (pv 0) pe_int (fun _ _ => rfl)) pe_int) (pg_sub (pv 0) pe_int set_list))
      (pss_cons (ps_set (i := 3) scDraw.nd rfl (Or.inl rfl) (pe_op op_mod (pe_op op_add (pe_op op_mul (pe_op op_mod (pe_ix ix_list (pv 0) pe_int (fun _ _ => rfl)) pe_int) pe_int) (pe_op op_mul (pe_ix ix_list (pv 0) pe_int (fun _ _ => rfl)) pe_int)) pe_int))
      (pss_cons (ps_set (i := 3) scDraw.nd rfl (Or.inl rfl) (pe_op op_mod (pe_op op_mul (pv 3) (pv 3)) pe_int))
      (pss_one (ps_ret (pe_op op_mod (pe_op op_fdiv (pe_op op_mod (pe_op op_add (pe_op op_mul (pv 3) pe_int) (pe_ix ix_list (pv 0) pe_int (fun _ _ => rfl))) pe_int) pe_int) (pv 1))))))), ?_⟩
    refine ⟨_, rfl, p, _, _, _, rfl, rfl, SqL.of hp, rfl, rfl, _, rfl, ?_⟩
    refine ite2 (fun _ => ?_) (fun _ => ?_)
    · refine ⟨_, rfl, p, _, _, _, rfl, rfl, SqL.of hp, rfl, _, rfl, _, _, rfl, rfl, h0, ?_⟩
      refine ⟨_, rfl, p, _, _, _, rfl, rfl, SqL.of hp, rfl, _, rfl, _, _, rfl, rfl, ⟨h0, h1⟩, _, rfl, p, _, _, _, rfl, rfl, hp, rfl, ?_⟩
      refine ⟨_, rfl, ?_⟩
      exact k _ _ _ (Int.emod_nonneg _ (by trivial)) (Int.emod_lt_of_pos _ h0)
    · have hp2 : ∀ c', upd H p (deckO a b c') p = some (deckO a b c') := fun c' => upd_same
      refine ⟨_, rfl, p, _, _, _, rfl, rfl, SqL.of hp, rfl, _, _, rfl, rfl, _, rfl, p, _, _, _, rfl, rfl, hp, rfl, ?_⟩
      refine ⟨_, rfl, p, _, _, _, rfl, rfl, SqL.of (hp2 _), rfl, _, _, rfl, rfl, (by show (0 : Int) < 1000000007; decide), _, _, rfl, rfl, .inr ⟨by decide, by decide⟩, _, rfl, p, _, _, _, rfl, rfl, SqL.of (hp2 _), rfl, _, _, rfl, rfl, .inr ⟨by decide, by decide⟩, _, _, rfl, rfl, _, _, rfl, rfl, (by show (0 : Int) < 1000000009; decide), ?_⟩
      refine ⟨_, rfl, _, rfl, _, _, rfl, rfl, .inl ⟨?_, ?_⟩, _, _, rfl, rfl, (by show (0 : Int) < 998244353; decide), ?_⟩
      · exact Int.lt_of_lt_of_le (by decide) (Int.emod_nonneg _ (by decide))
      · exact Int.lt_trans (Int.emod_lt_of_pos _ (by decide)) (by decide)
      refine ⟨_, rfl, _, _, rfl, rfl, .inr ⟨by decide, by decide⟩, _, rfl, p, _, _, _, rfl, rfl, SqL.of (hp2 _), rfl, _, _, rfl, rfl, _, _, rfl, rfl, (by show (0 : Int) < 754974721; decide), _, _, rfl, rfl, ⟨by decide, by decide⟩, _, rfl, _, _, rfl, rfl, h0, ?_⟩
      exact k _ _ _ (Int.emod_nonneg _ (by trivial)) (Int.emod_lt_of_pos _ h0)
theorem scDecks : FnScope ["script", "cells"] ["script"] (defScope sDecks) := ⟨rfl, rfl, rfl, by decide +kernel, rfl, by decide +kernel, by decide +kernel⟩
theorem ok_decks {f : Addr} {fd : FuncData} (F : Fun K "_law_decks" "_law_decks" sDecks f fd) (ml : mg "len" = none) (mr : mg "range" = none) : FnOk P w K mg base (CXW P w) 1 f fd ["script"] (spDecks K) := by
  refine F.okN scDecks (fun vs H Q E h => ?_) (fun cdv A outer s H vs Q E hr h => ?_)
  · obtain ⟨a, ns, rfl, _⟩ := h
    rfl
  · obtain ⟨a, ns, rfl, hS, h63, k⟩ := h
    refine ⟨_, pss_cons (ps_set (i := 1) scDecks.nd rfl (Or.inr rfl) (pe_slice sl_list (pv 0) po_none (po_some pe_int)))
      (pss_cons (ps_if (pt_cmpR (op_eqL (units_of hr)) (pv 1) (pe_lst pa_nil) (nomark _)) (pss_one (ps_set (i := 1) scDecks.nd rfl (Or.inr rfl) (pe_lst (pa_cons pe_int pa_nil)))) pss_nil)
      (pss_one (ps_ret (pe_comp (N := ["k", "cells", "script"]) (js := [none, some 1, some 0]) (te := teDecks K) rfl (comp_scope (osc := defScope sDecks) (XN := ["script", "cells"]) rfl rfl rfl (by decide +kernel))
        (pi_range1 rfl mr (pa_cons (pe_callB call_len_seq rfl ml PySem.boot_len (pa_cons (pv 1) pa_nil)) pa_nil))
        (fun _ _ _ _ => pg_name (i := 0) (show (["k", "cells", "script"] : List Str).Nodup by decide +kernel) rfl (Or.inl rfl)) (fun _ _ _ _ => pif_nil)
        (fun _ _ _ _ => pe_lst (pa_cons (pe_ix ix_list (pv 1) (pv 0) (fun _ _ => rfl)) (pa_cons (pe_op op_mod (pe_callB call_len_seq rfl ml PySem.boot_len (pa_cons (pv 2) pa_nil)) pe_int) (pa_cons (pe_op op_mul pe_int (pv 0)) pa_nil)))))))), ?_⟩
    -- behind the cells: any list of 1 to 63 ints
    have main : ∀ (pc : Addr) (cs : List Int) (H1 : Hp), H1 pc = some (lsI cs) → 1 ≤ cs.length → cs.length ≤ 63 → Same H H1 →
        tRet (tComp [none, some 1, some 0] (iRng1 (tCons (tCB (rLen K) (tCons (tVar 1) tNil)) tNil)) (gName 0) tTrue (teDecks K)) { nx := fun _ H' => Q .non H', rt := Q } [some (.ref a), some (.ref pc)] H1 := by
      intro pc cs H1 hpc c1 c2 sm
      refine ⟨_, rfl, pc, _, rfl, .inl (SqL.of hpc), _, rfl, ?_, ?_, fun D hD => ?_⟩
      · rw [List.length_map]; trivial
      · rw [List.length_map]; trivial
      have hDc : pc ≠ D := ne_of_none hpc hD
      have hD0 : H D = none := sm.free hD
      rw [List.length_map, Int.toNat_natCast]
      refine comp_rng (fun i σ' H' => ∃ (ps : List Addr) (x : Option V), σ' = [x, some (.ref pc), some (.ref a)] ∧ ps.length = i ∧ H' D = some (.lst (ps.map V.ref)) ∧ (∀ p ∈ ps, H p = none ∧ p ≠ D ∧ ∃ a b c, H' p = some (deckO a b c)) ∧ ps.Nodup ∧ Same H1 H')
        ⟨[], none, rfl, rfl, upd_same, (fun _ z => nomatch z), List.nodup_nil, same_new hD _⟩ ?_ ?_
      · rintro i σ' H' hi ⟨ps, x, rfl, hl, hD', hps, nd, sm'⟩
        refine nameT ?_
        have hci : cs[i]? = some cs[i] := List.getElem?_eq_getElem hi
        have hat : atI (cs.map V.int) ((0 : Int) + (i : Int)) = some (.int cs[i]) := by
          rw [Int.zero_add]
          exact atI_nat (by rw [List.getElem?_map, hci]; rfl)
        refine ⟨_, rfl, _, rfl, pc, _, _, _, rfl, rfl, SqL.of (sm' _ _ hpc), hat, _, rfl, a, _, rfl, .inl (sm'.seq (sm.seq hS)), _, _, rfl, rfl, (by show (0 : Int) < 2; decide), _, rfl, _, _, rfl, rfl, .inl ⟨by decide, by decide⟩, (by show 3 ≤ sizeLine; decide), fun p hp => ?_⟩
        have hpD : p ≠ D := (ne_of_none hD' hp).symm
        refine ⟨D, _, _, rfl, rfl, by rw [upd_ne hpD.symm]; exact hD', small1000 (by rw [List.length_map]; trivial), ?_⟩
        have hp1 : H p = none := sm.free (sm'.free hp)
        refine CW.next hi ⟨ps ++ [p], _, rfl, by rw [List.length_append, hl]; rfl, ?_, ?_, ?_, fun b o e => ?_⟩
        · rw [upd_same, List.map_append]; rfl
        · intro q hq
          rcases List.mem_append.mp hq with hq | hq
          · obtain ⟨z1, z2, a', b', c', z3⟩ := hps q hq
            exact ⟨z1, z2, a', b', c', by rw [upd_ne z2, upd_ne (ne_of_none z3 hp)]; exact z3⟩
          · have : q = p := by simpa using hq
            subst this
            exact ⟨hp1, hpD, _, _, _, by rw [upd_ne hpD, upd_same]; rfl⟩
        · rw [List.nodup_append]
          refine ⟨nd, List.nodup_cons.mpr ⟨(fun z => nomatch z), List.nodup_nil⟩, fun q hq r hr' z => ?_⟩
          have : r = p := by simpa using hr'
          obtain ⟨_, _, _, _, _, z3⟩ := hps q hq
          rw [z, this, hp] at z3; cases z3
        · have hbD : b ≠ D := ne_of_none e hD
          have e' := sm' b o e
          rw [upd_ne hbD, upd_ne (ne_of_none e' hp)]; exact e'
      · rintro σ' H' ⟨ps, x, rfl, hl, hD', hps, nd, sm'⟩
        exact k D ps H' hD0 hD' (by trivial) (by trivial) hps nd (sm.trans sm')
    refine ⟨_, rfl, _, rfl, a, _, rfl, hS, fun pc hpc => ?_⟩
    have ecut : cutV (ns.map V.int) none (some 63) = ns.map V.int := by
      have := cut_to (α := Int) (f := V.int) ns 63
      rw [List.take_of_length_le h63] at this
      exact this
    rw [ecut]
    have sm1 : Same H (upd H pc (.lst (ns.map V.int))) := same_new hpc _
    refine ⟨_, rfl, (by show 0 ≤ sizeLine; decide), fun p2 hp2 => ?_⟩
    have sm2 := sm1.trans (same_new hp2 (.lst []))
    have e1 : upd (upd H pc (.lst (ns.map V.int))) p2 (.lst []) pc = some (.lst (ns.map V.int)) := by rw [upd_ne (ne_of_none upd_same hp2), upd_same]
    refine ⟨pc, p2, ns, [], rfl, rfl, SqL.of e1, SqL.of upd_same, _, rfl, ?_⟩
    refine ite2 (fun c => ?_) (fun c => ?_)
    · refine ⟨(by show 1 ≤ sizeLine; decide), fun p3 hp3 => ?_⟩
      exact main p3 [0] _ upd_same (by decide) (by decide) (sm2.trans (same_new hp3 _))
    · have hne : ns ≠ [] := fun z => c (by rw [z]; rfl)
      exact main pc ns _ e1 (by cases ns with | nil => exact absurd rfl hne | cons _ _ => exact Nat.succ_le_succ (Nat.zero_le _)) h63 sm2
theorem sc_drawn : FnScope ["script", "most", "lengths", "sign", "deck"] ["script", "most"] (defScope s_drawn) := ⟨rfl, rfl, rfl, by decide +kernel, rfl, by decide +kernel, by decide +kernel⟩
theorem ok_drawn {f f_draw f_decks : Addr} {fd d_draw d_decks : FuncData} (F : Fun K "_law_drawn_lengths" "_law_drawn_lengths" s_drawn f fd) (B : Bls mg) 
    (G_draw : FnOk P w K mg base (CXW P w) 1 f_draw d_draw ["deck", "many"] (spDraw)) (b_draw : Binds K d_draw ["deck", "many"] []) (k_draw : keepIn K (.ref f_draw) = true) (m_draw : mg "_law_draw" = some (.ref f_draw)) 
    (G_decks : FnOk P w K mg base (CXW P w) 1 f_decks d_decks ["script"] (spDecks K)) (b_decks : Binds K d_decks ["script"] []) (k_decks : keepIn K (.ref f_decks) = true) (m_decks : mg "_law_decks" = some (.ref f_decks)) : FnOk P w K mg base (CXW P w) 2 f fd ["script", "most"] (spDrawn10 K) := by
  refine F.okN sc_drawn (fun vs H Q E h => ?_) (fun cdv A outer s H vs Q E hr h => ?_)
  · obtain ⟨a, ns, rfl, _⟩ := h
    rfl
  · obtain ⟨a, ns, rfl, hS, h63, hQ⟩ := h
    refine ⟨_, (pss_cons (ps_set (i := 2) sc_drawn.nd rfl (Or.inl rfl) (pe_lst pa_nil))
      (pss_cons (ps_set (i := 3) sc_drawn.nd rfl (Or.inl rfl) (pe_un un_neg pe_int))
      (pss_cons (ps_for PassesOwn.never rfl (pi_list (pe_slice sl_list (pe_call G_decks hr rfl m_decks k_decks b_decks .nil passN (pa_cons (pv 0) pa_nil)) po_none (po_some (pv 1)))) (pg_name (i := 4) sc_drawn.nd rfl (Or.inl rfl))
        (pss_cons (ps_set (i := 3) sc_drawn.nd rfl (Or.inl rfl) (pe_op op_add (pe_op op_add (pv 3) pe_int) (pe_call G_draw hr rfl m_draw k_draw b_draw .nil passN (pa_cons (pv 4) (pa_cons pe_int pa_nil)))))
        (pss_one (ps_expr (pe_bm PySem.F.plainAttrs_list PySem.F.slot_list_append PySem.F.type_list_append mt_append (pv 2) (pa_cons (pe_tup (pa_cons (pv 3) (pa_cons (pe_op op_add pe_int (pe_call G_draw hr rfl m_draw k_draw b_draw .nil passN (pa_cons (pv 4) (pa_cons (pe_ix ix_list (pe_lst (pa_cons pe_int (pa_cons pe_int (pa_cons pe_int (pa_cons pe_int pa_nil))))) (pe_call G_draw hr rfl m_draw k_draw b_draw .nil passN (pa_cons (pv 4) (pa_cons pe_int pa_nil))) (fun _ _ => rfl)) pa_nil)))) pa_nil))) pa_nil))))))
      (pss_one (ps_ret (pv 2)))))), ?_⟩
    refine ⟨(by show 0 ≤ sizeLine; decide), fun C hC => ?_⟩
    refine ⟨1, rfl, ?_⟩
    refine ⟨_, rfl, a, ns, rfl, (same_new hC _).seq hS, h63, fun D ps H1 hD hD1 p1 p2 hps nd s1 => ?_⟩
    have dk0 : Dks ps D H1 := Dks.of hD1 hps
    have sH1 : Same H H1 := (same_new hC (.lst [])).trans s1
    have hC1 : H1 C = some (.lst []) := s1 _ _ upd_same
    refine ⟨_, rfl, _, rfl, D, _, rfl, SqL.of hD1, fun D2 hD2 => ?_⟩
    have ect : cutV (ps.map V.ref) none (some 12) = (ps.take 12).map V.ref := by rw [List.map_take]; exact cutv_to _ 12
    rw [ect]
    have dk1 := dk0.take (k := 12) hD2
    have fp : ∀ p ∈ ps.take 12, H p = none ∧ p ≠ C := fun p hp => by
      have := (hps p (List.mem_of_mem_take hp)).1
      refine ⟨(same_new hC (.lst [])).free this, fun z => ?_⟩
      rw [z, upd_same] at this; cases this
    have nCD : D2 ≠ C := (ne_of_none hC1 hD2).symm
    have nCp : ∀ p ∈ ps.take 12, p ≠ C := fun p hp => (fp p hp).2
    have s2 := same_new hD2 (.lst ((ps.take 12).map V.ref))
    have sH2 := sH1.trans s2
    have hC2 := s2 _ _ hC1
    have ql1 : 1 ≤ (ps.take 12).length := by rw [List.length_take]; trivial
    have ql2 : (ps.take 12).length ≤ 12 := by rw [List.length_take]; trivial
    generalize ps.take 12 = qs at dk1 fp nCp sH2 hC2 ql1 ql2 ⊢
    generalize upd H1 D2 (.lst (qs.map V.ref)) = H2 at dk1 sH2 hC2 ⊢
    refine ⟨D2, rfl, ⟨_, SqL.of dk1.at_⟩, for_list (K := K) (a := D2) (xs := qs.map V.ref) (fun i σ H3 => ∃ (zs : List (Addr × Int × Int)) (sg : Int) (v3 : Option V), σ = [some (.ref a), some (.int 12), some (.ref C), some (.int sg), v3] ∧ Prs H3 C zs ∧ RiseC (zs.map (·.2)) ∧ (∀ c ∈ zs.map (·.2), c.1 ≤ sg) ∧ -1 ≤ sg ∧ sg ≤ 4 * i - 1 ∧ zs.length = i ∧ Dks qs D2 H3 ∧ Same H H3)
      ⟨[], -1, none, rfl, ⟨hC2, (fun _ z => by cases z)⟩, ⟨List.Pairwise.nil, (fun _ z => by cases z)⟩, (fun _ z => by cases z), by trivial, by trivial, rfl, dk1, sH2⟩ (fun i σ H3 _ ⟨_, _, _, _, _, _, _, _, _, _, e, _⟩ => SqL.of e.at_) ?_ ?_⟩
    · rintro i y σ H3 hi ⟨zs, sg, v3, rfl, prC, hri, hlt, sg0, sg1, hzl, dk3, sm3⟩
      have hil : i < qs.length := by have := (List.getElem?_eq_some_iff.mp hi).1; rwa [List.length_map] at this
      obtain ⟨p, rfl, hpm⟩ : ∃ p, y = V.ref p ∧ p ∈ qs := by
        have := List.mem_of_getElem? hi
        obtain ⟨p, hp, e⟩ := List.mem_map.mp this
        exact ⟨p, e.symm, hp⟩
      have npC : C ≠ p := (nCp p hpm).symm
      obtain ⟨_, da, db, dc, hdk⟩ := dk3.each p hpm
      have hpH := (fp p hpm).1
      refine ⟨_, rfl, _, _, rfl, rfl, _, rfl, p, da, db, dc, 4, rfl, hdk, by decide, by decide, fun r1 a1 c1 r10 r11 => ⟨_, _, rfl, rfl, ?_⟩⟩
      have dk4 := dk3.draw hpm a1 db c1
      have prC4 := prC.other (ys := [.int a1, .int db, .int c1]) hdk npC
      have sm4 := same_upd sm3 (deckO a1 db c1) hpH
      have hp4 : upd H3 p (deckO a1 db c1) p = some (deckO a1 db c1) := upd_same
      rw [show upd H3 p (.lst [.int a1, .int db, .int c1]) = upd H3 p (deckO a1 db c1) from rfl] at prC4
      generalize upd H3 p (deckO a1 db c1) = H4 at dk4 prC4 sm4 hp4 ⊢
      refine ⟨_, rfl, .inl ⟨rfl, _, SqL.of prC4.at_⟩, _, rfl, _, rfl, (by show 4 ≤ sizeLine; decide), fun l1 hl1 => ?_⟩
      have sl1 := same_new hl1 (.lst [.int 6, .int 12, .int 12, .int 257])
      refine ⟨_, rfl, p, a1, db, c1, 4, rfl, sl1 _ _ hp4, by decide, by decide, fun r2 a2 c2 r20 r21 => ?_⟩
      have nl1p : l1 ≠ p := (ne_of_none hp4 hl1).symm
      obtain ⟨wd, hwd, wd0, wd1⟩ : ∃ wd : Int, atI [V.int 6, V.int 12, V.int 12, V.int 257] r2 = some (.int wd) ∧ 1 ≤ wd ∧ wd < 1073741824 := by
        have hr : r2 = 0 ∨ r2 = 1 ∨ r2 = 2 ∨ r2 = 3 := by trivial
        rcases hr with rfl | rfl | rfl | rfl
        · exact ⟨6, rfl, by decide, by decide⟩
        · exact ⟨12, rfl, by decide, by decide⟩
        · exact ⟨12, rfl, by decide, by decide⟩
        · exact ⟨257, rfl, by decide, by decide⟩
      refine ⟨l1, _, _, _, rfl, rfl, SqL.of (by rw [upd_ne nl1p, upd_same]), hwd, ?_⟩
      have dk5 := (dk4.same sl1).draw hpm a2 db c2
      have prC5 := (prC4.same sl1).other (ys := [.int a2, .int db, .int c2]) (sl1 _ _ hp4) npC
      have sm5 := same_upd (sm4.trans sl1) (deckO a2 db c2) hpH
      have hp5 : upd (upd H4 l1 (.lst [.int 6, .int 12, .int 12, .int 257])) p (deckO a2 db c2) p = some (deckO a2 db c2) := upd_same
      rw [show upd (upd H4 l1 (.lst [.int 6, .int 12, .int 12, .int 257])) p (.lst [.int a2, .int db, .int c2]) = upd (upd H4 l1 (.lst [.int 6, .int 12, .int 12, .int 257])) p (deckO a2 db c2) from rfl] at prC5
      refine ⟨p, a2, db, c2, wd, rfl, hp5, by trivial, by trivial, fun r3 a3 c3 r30 r31 => ⟨_, _, rfl, rfl, ?_⟩⟩
      generalize upd (upd H4 l1 (.lst [.int 6, .int 12, .int 12, .int 257])) p (deckO a2 db c2) = H5 at dk5 prC5 sm5 hp5 ⊢
      have dk6 := dk5.draw hpm a3 db c3
      have prC6 := prC5.other (ys := [.int a3, .int db, .int c3]) hp5 npC
      have sm6 := same_upd sm5 (deckO a3 db c3) hpH
      rw [show upd H5 p (.lst [.int a3, .int db, .int c3]) = upd H5 p (deckO a3 db c3) from rfl] at prC6
      generalize upd H5 p (deckO a3 db c3) = H6 at dk6 prC6 sm6 ⊢
      have hm : 1 ≤ 1 + r3 := by trivial
      refine ⟨(by show 2 ≤ sizeLine; decide), fun t ht => ?_⟩
      have st := same_new ht (.tup [.int (sg + 1 + r1), .int (1 + r3)])
      refine ⟨C, _, _, rfl, rfl, st _ _ prC6.at_, fits_lt (by rw [List.length_map]; trivial), ?_⟩
      refine ⟨zs ++ [(t, sg + 1 + r1, 1 + r3)], sg + 1 + r1, _, rfl, (prC6.same st).app upd_same, ?_, ?_, by trivial, by trivial, by rw [List.length_append, List.length_singleton]; trivial, (dk6.same st).other nCD nCp, same_upd (sm6.trans st) _ hC⟩
      · rw [List.map_append]
        exact hri.app (fun c hc => by have := hlt c hc; trivial) (by trivial) (by trivial) hm
      · intro c hc
        rw [List.map_append] at hc
        rcases List.mem_append.mp hc with q | q
        · have := hlt c q; trivial
        · have : c = (sg + 1 + r1, 1 + r3) := by simpa using q
          subst this
          exact Int.le_refl _
    · rintro σ H3 ⟨zs, sg, v3, rfl, prC, hri, hlt, sg0, sg1, hzl, dk3, sm3⟩
      rw [List.length_map] at hzl
      refine ⟨_, rfl, ?_⟩
      exact hQ C zs H3 sm3 hC prC hri (by trivial) (by trivial)
theorem scBits : FnScope ["deck", "most"] ["deck", "most"] (defScope sBits) := ⟨rfl, rfl, rfl, by decide +kernel, rfl, by decide +kernel, by decide +kernel⟩
theorem ok_bits {f g : Addr} {fd gd : FuncData} (F : Fun K "_law_bits" "_law_bits" sBits f fd) (G : FnOk P w K mg base (CXW P w) 1 g gd ["deck", "many"] spDraw) (bG : Binds K gd ["deck", "many"] []) (kG : keepIn K (.ref g) = true) (mG : mg "_law_draw" = some (.ref g)) (mr : mg "range" = none) :
    FnOk P w K mg base (CXW P w) 2 f fd ["deck", "most"] spBits := by
  refine F.okN scBits (fun vs H Q E h => ?_) (fun cdv A outer s H vs Q E hr h => ?_)
  · obtain ⟨p, a, b, c, most, rfl, _⟩ := h
    rfl
  · obtain ⟨p, a, b, c, most, rfl, hp, h0, h1, k⟩ := h
    refine ⟨_, pss_one (ps_ret (pe_comp (N := ["k", "deck"]) (js := [none, some 0]) rfl (comp_scope (osc := defScope sBits) (XN := ["deck", "most"]) rfl rfl rfl (by decide +kernel))
      (pi_range1 rfl mr (pa_cons (pe_call G hr rfl mG kG bG .nil passN (pa_cons (pv 0) (pa_cons (pe_op op_add (pv 1) pe_int) pa_nil))) pa_nil))
      (fun _ _ _ _ => pg_name (i := 0) (show (["k", "deck"] : List Str).Nodup by decide +kernel) rfl (Or.inl rfl)) (fun _ _ _ _ => pif_nil)
      (fun _ _ _ _ => pe_call G hr rfl mG kG bG .nil passN (pa_cons (pv 1) (pa_cons pe_int pa_nil))))), ?_⟩
    refine ⟨_, rfl, _, rfl, _, _, rfl, rfl, p, a, b, c, most + 1, rfl, hp, by trivial, by trivial, fun r a1 c1 r0 r1 => ?_⟩
    refine ⟨r, rfl, by trivial, by trivial, fun D hD => ?_⟩
    have hD0 : H D = none := by
      cases q : H D with
      | none => rfl
      | some o =>
        by_cases z : D = p
        · rw [z, upd_same] at hD; cases hD
        · rw [upd_ne z, q] at hD; cases hD
    have hDp : D ≠ p := fun z => by rw [z, hp] at hD0; cases hD0
    refine comp_rng (fun i σ' H' => ∃ (bs : List Int) (a' c' : Int) (x : Option V), σ' = [x, some (.ref p)] ∧ isBits bs ∧ bs.length = i ∧ H' D = some (lsI bs) ∧ H' p = some (deckO a' b c') ∧ (∀ q o, q ≠ p → H q = some o → H' q = some o))
      ⟨[], a1, c1, none, rfl, (fun _ z => nomatch z), rfl, upd_same, by rw [upd_ne (Ne.symm hDp), upd_same], fun q o hq e => by rw [upd_ne (ne_of_none e hD0), upd_ne hq]; exact e⟩ ?_ ?_
    · rintro i σ' H' hi ⟨bs, a', c', x, rfl, hb, hl, hD', hp', kp⟩
      refine nameT ?_
      refine ⟨_, rfl, p, a', b, c', 2, rfl, hp', by decide, by decide, fun r a2 c2 r0 r1 => ?_⟩
      have hD2 : upd H' p (deckO a2 b c2) D = some (lsI bs) := by rw [upd_ne hDp]; exact hD'
      refine ⟨D, _, _, rfl, rfl, hD2, small1000 (by rw [List.length_map]; trivial), ?_⟩
      refine CW.next hi ⟨bs ++ [r], a2, c2, _, rfl, ?_, by rw [List.length_append, hl]; rfl, ?_, ?_, fun q o hq e => ?_⟩
      · intro z hz
        rcases List.mem_append.mp hz with hz | hz
        · exact hb z hz
        · have : z = r := by simpa using hz
          trivial
      · rw [upd_same]; unfold lsI; rw [List.map_append]; rfl
      · rw [upd_ne (Ne.symm hDp), upd_same]
      · rw [upd_ne (ne_of_none e hD0), upd_ne hq]; exact kp q o hq e
    · rintro σ' H' ⟨bs, a', c', x, rfl, hb, hl, hD', hp', kp⟩
      exact k D bs a' c' H' hb (by trivial) hD0 hD' hp' kp
end
end K10
set_option Elab.async false
set_option linter.all false
set_option maxRecDepth 100000
set_option maxHeartbeats 4000000
namespace K10
open PySem L2 PySem.W PH
section
variable {P : Program} {w : World} {K : PySem.W.Frag} {mg : Str → Option Value} {base : Heap}
theorem sc_let : FnScope ["lengths", "whole", "total", "sign", "length", "part", "k"] ["lengths"] (defScope s_let) := ⟨rfl, rfl, rfl, by decide +kernel, rfl, by decide +kernel, by decide +kernel⟩
theorem ok_let {f : Addr} {fd : FuncData} (F : Fun K "_law_let" "_law_let" s_let f fd) (B : Bls mg) : FnOk P w K mg base (CXW P w) 1 f fd ["lengths"] (spLet) := by
  refine F.okN sc_let (fun vs H Q E h => ?_) (fun cdv A outer s H vs Q E hr h => ?_)
  · obtain ⟨p, zs, rfl, _⟩ := h
    rfl
  · obtain ⟨p, zs, rfl, prZ, h300, h1, hQ⟩ := h
    refine ⟨_, (pss_cons (ps_if (pt_cmpR op_gt (pe_callB (call_maxL rfl) rfl B.max boot_max' (pa_cons (pe_op op_cat (pe_lst (pa_cons pe_int pa_nil)) (pe_comp (N := ["sign", "length"]) (js := [none, none]) (g := (gTup K 2 (gCons (gName 0) (gCons (gName 1) gNil)))) (tc := tTrue) (te := (tVar 1)) rfl (comp_scope (osc := defScope s_let) (XN := ["lengths", "whole", "total", "sign", "length", "part", "k"]) rfl rfl rfl (by decide +kernel)) (pi_list (pv 0)) (fun _ _ _ _ => pg_tup rfl (pgs_cons (pg_name (i := 0) (show (["sign", "length"] : List Str).Nodup by decide +kernel) rfl (Or.inl rfl)) (pgs_cons (pg_name (i := 1) (show (["sign", "length"] : List Str).Nodup by decide +kernel) rfl (Or.inl rfl)) pgs_nil))) (fun _ _ _ _ => pif_nil) (fun _ _ _ _ => (pv 1)))) pa_nil)) pe_int (nomark _))
        (pss_one (ps_ret pe_bl))
        pss_nil)
      (pss_cons (ps_set (i := 1) sc_let.nd rfl (Or.inl rfl) (pe_op op_mulB (pe_op op_mulB (pe_op op_mulB (pe_op op_pow pe_int pe_int) (pe_op op_pow pe_int pe_int)) (pe_op op_pow pe_int pe_int)) (pe_op op_pow pe_int pe_int)))
      (pss_cons (ps_set (i := 2) sc_let.nd rfl (Or.inl rfl) pe_int)
      (pss_cons (ps_for PassesOwn.never rfl (pi_list (pv 0)) (pg_tup rfl (pgs_cons (pg_name (i := 3) sc_let.nd rfl (Or.inl rfl)) (pgs_cons (pg_name (i := 4) sc_let.nd rfl (Or.inl rfl)) pgs_nil)))
        (pss_cons (ps_set (i := 5) sc_let.nd rfl (Or.inl rfl) (pv 1))
        (pss_cons (ps_for PassesOwn.never rfl (pi_range1 rfl B.range (pa_cons (pv 4) pa_nil)) (pg_name (i := 6) sc_let.nd rfl (Or.inl rfl))
          (pss_one (ps_set (i := 5) sc_let.nd rfl (Or.inl rfl) (pe_op op_fdiv (pv 5) pe_int))))
        (pss_one (ps_set (i := 2) sc_let.nd rfl (Or.inl rfl) (pe_op op_add (pv 2) (pv 5)))))))
      (pss_one (ps_ret (pe_cmpR op_le (pv 2) (pv 1) (nomark _)))))))), ?_⟩
    generalize hcs : zs.map (·.2) = cs at hQ h1
    have hcl : cs.length = zs.length := by rw [← hcs, List.length_map]
    refine ⟨(by show 1 ≤ sizeLine; decide), fun l0 hl0 => ?_⟩
    have t0 := same_new hl0 (.lst [V.int 0])
    refine ⟨_, rfl, p, rfl, ⟨_, SqL.of (t0 _ _ prZ.at_)⟩, fun D hD => ?_⟩
    have t1 := same_new hD (.lst [])
    refine comp_lstQ (K := K) (a := p) (xs := zs.map fun z => V.ref z.1) (fun i σ' H' => ∃ (x y : Option V) (ls : List Int), σ' = [x, y] ∧ H' D = some (lsI ls) ∧ ls = (cs.take i).map (·.2) ∧ H' l0 = some (.lst [V.int 0]) ∧ Same H H')
      ⟨none, none, [], rfl, upd_same, by rw [List.take_zero]; rfl, t1 _ _ upd_same, t0.trans t1⟩ (fun i σ' H' _ ⟨_, _, _, _, _, _, _, e⟩ => SqL.of (e _ _ prZ.at_)) ?_ ?_
    · rintro i v σ' H' hi ⟨x, y, ls, rfl, hB, hls, h0, sm⟩
      obtain ⟨z, hz, rfl⟩ := ref_at hi
      have hlt : i < (zs.map fun z => V.ref z.1).length := (List.getElem?_eq_some_iff.mp hi).1
      have hck : cs[i]? = some z.2 := by rw [← hcs, List.getElem?_map, hz]; rfl
      have hbl : ls.length ≤ i := by rw [hls, List.length_map, List.length_take]; trivial
      have nD0 : l0 ≠ D := ne_of_none (show upd H l0 (.lst [V.int 0]) l0 = some _ from upd_same) hD
      refine ⟨z.1, _, rfl, SqT.of (sm _ _ (prZ.each z (List.mem_of_getElem? hz))), rfl, _, _, rfl, _, _, rfl, rfl, ?_⟩
      refine trueT ?_
      refine ⟨_, rfl, D, _, _, rfl, rfl, hB, fits_lt (by rw [List.length_map]; rw [List.length_map] at hlt; trivial), ?_⟩
      refine CW.next hlt ⟨_, _, ls ++ [z.2.2], rfl, by rw [upd_same]; unfold lsI; rw [List.map_append]; rfl, ?_, by rw [upd_ne nD0]; exact h0, same_upd sm _ (t0.free hD)⟩
      rw [hls, take_at hck, List.map_append]
      rfl
    rintro σ' H' ⟨x, y, ls, rfl, hB, hls, h0, sm⟩
    rw [List.length_map, ← hcl, List.take_length] at hls
    refine ⟨l0, D, _, _, rfl, rfl, h0, hB, fits (by rw [List.length_map, hls, List.length_map, List.length_singleton]; trivial), fun q hq => ?_⟩
    have s3 := same_new hq (.lst ([V.int 0] ++ ls.map V.int))
    have smq := sm.trans s3
    have hq3 : upd H' q (.lst ([V.int 0] ++ ls.map V.int)) q = some (lsI (0 :: ls)) := upd_same
    generalize upd H' q (.lst ([V.int 0] ++ ls.map V.int)) = H3 at hq3 smq ⊢
    refine ⟨q, 0 :: ls, rfl, SqL.of hq3, by rw [List.length_cons]; trivial, fun m hm hmx => ?_⟩
    refine ⟨_, _, rfl, rfl, _, rfl, ?_⟩
    have hle : (∀ c ∈ cs, c.2 ≤ 256) ↔ m ≤ 256 := by
      constructor
      · intro h
        rcases List.mem_cons.mp hm with e | e
        · trivial
        · rw [hls] at e
          obtain ⟨c, hc, rfl⟩ := List.mem_map.mp e
          exact h c hc
      · intro h c hc
        have := hmx c.2 (List.mem_cons_of_mem _ (by rw [hls]; exact List.mem_map.mpr ⟨c, hc, rfl⟩))
        trivial
    refine ite2 (fun c => ?_) (fun c => ?_)
    · have c' : 256 < m := of_decide_eq_true c
      have hf : letB cs = false := by
        unfold letB
        have : (cs.all fun c => decide (c.2 ≤ 256)) = false := by
          cases e : cs.all fun c => decide (c.2 ≤ 256) with
          | false => rfl
          | true =>
            have := hle.mp fun c hc => of_decide_eq_true (List.all_eq_true.mp e c hc)
            trivial
        rw [this]; rfl
      have := hQ _ smq
      rw [hf] at this
      exact this
    · have c' : m ≤ 256 := by
        have : ¬ 256 < m := fun z => c (decide_eq_true z)
        trivial
      have hb := hle.mpr c'
      have h256 : ∀ l ∈ cs.map (·.2), 1 ≤ l ∧ l ≤ 256 := fun l hl => by
        obtain ⟨c, hc, rfl⟩ := List.mem_map.mp hl
        exact ⟨h1 c hc, hb c hc⟩
      have hlet : letB cs = decide (sP ((cs.map (·.2)).map Int.toNat) ≤ 2 ^ 256) := by
        unfold letB
        rw [List.all_eq_true.mpr (fun c hc => decide_eq_true (hb c hc)), Bool.true_and, roomB_sP h256]
      have p64 : CPow 2 64 := ⟨by decide, by decide, by decide⟩
      refine ⟨_, _, rfl, rfl, p64, _, _, rfl, rfl, p64, _, _, rfl, rfl, mulB_ok (by decide +kernel) (by decide +kernel), _, _, rfl, rfl, p64, _, _, rfl, rfl, mulB_ok (by decide +kernel) (by decide +kernel), _, _, rfl, rfl, p64, _, _, rfl, rfl, mulB_ok (by decide +kernel) (by decide +kernel), ?_⟩
      have hw : ((2 : Int) ^ (64 : Int).toNat * 2 ^ (64 : Int).toNat * 2 ^ (64 : Int).toNat * 2 ^ (64 : Int).toNat) = 2 ^ 256 := by decide +kernel
      refine gNam (v' := V.int (2 ^ 256)) (by show V.int (2 ^ 256) = V.int ((2 : Int) ^ (64 : Int).toNat * 2 ^ (64 : Int).toNat * 2 ^ (64 : Int).toNat * 2 ^ (64 : Int).toNat); rw [hw]) ?_
      generalize hW : (2 : Int) ^ 256 = W at hlet
      refine ⟨_, rfl, p, rfl, ⟨_, SqL.of (smq _ _ prZ.at_)⟩, for_list (K := K) (a := p) (xs := zs.map fun z => V.ref z.1) (fun i σ H2 => ∃ (v3 v4 v5 v6 : Option V), σ = [some (.ref p), some (.int W), some (.int (sP (((cs.take i).map (·.2)).map Int.toNat))), v3, v4, v5, v6] ∧ Same H H2)
        ⟨none, none, none, none, rfl, smq⟩ (fun i σ H2 _ ⟨_, _, _, _, _, e⟩ => SqL.of (e _ _ prZ.at_)) ?_ ?_⟩
      · rintro i v σ H2 hi ⟨v3, v4, v5, v6, rfl, sm2⟩
        obtain ⟨z, hz, rfl⟩ := ref_at hi
        have hck : cs[i]? = some z.2 := by rw [← hcs, List.getElem?_map, hz]; rfl
        have hcm := List.mem_of_getElem? hck
        have hz1 := h1 _ hcm
        have hz2 := hb _ hcm
        obtain ⟨l, hl⟩ : ∃ l : Nat, z.2.2 = (l : Int) := ⟨z.2.2.toNat, by trivial⟩
        refine ⟨z.1, _, rfl, SqT.of (sm2 _ _ (prZ.each z (List.mem_of_getElem? hz))), rfl, _, _, rfl, _, _, rfl, rfl, ?_⟩
        refine ⟨_, rfl, ?_⟩
        refine ⟨_, rfl, z.2.2, rfl, ?_⟩
        refine ⟨by trivial, by trivial, ?_⟩
        rw [hl, Int.toNat_natCast]
        have hl256 : l ≤ 256 := by trivial
        refine for_range (n := l) (fun k σ H3 => ∃ (v6 : Option V), σ = [some (.ref p), some (.int W), some (.int (sP (((cs.take i).map (·.2)).map Int.toNat))), some (.int z.2.1), some (.int (l : Int)), some (.int (2 ^ (256 - k))), v6] ∧ H3 = H2)
          ⟨v6, by rw [← hW]; rfl, rfl⟩ ?_ ?_
        · rintro k σ H3 hk ⟨v6, rfl, rfl⟩
          refine ⟨_, rfl, _, _, rfl, rfl, ⟨by decide, by decide⟩, ?_⟩
          refine gNam (v' := V.int (2 ^ (256 - (k + 1)))) (by show V.int (2 ^ (256 - (k + 1))) = V.int (2 ^ (256 - k) / 2); rw [half_pow (by trivial)]) ?_
          exact ⟨_, rfl, rfl⟩
        · rintro σ H3 ⟨v6, rfl, rfl⟩
          refine ⟨_, rfl, _, rfl, _, _, rfl, rfl, ?_⟩
          have eS : sP (((cs.take (i + 1)).map (·.2)).map Int.toNat) = sP (((cs.take i).map (·.2)).map Int.toNat) + 2 ^ (256 - l) := by
            rw [take_at hck, List.map_append, List.map_append]
            show sP (_ ++ [z.2.2.toNat]) = _
            rw [sP_snoc, hl, Int.toNat_natCast]
          refine gNam (v' := V.int (sP (((cs.take (i + 1)).map (·.2)).map Int.toNat))) (by rw [eS]) ?_
          exact ⟨_, _, _, _, rfl, sm2⟩
      · rintro σ H2 ⟨v3, v4, v5, v6, rfl, sm2⟩
        rw [List.length_map, ← hcl, List.take_length]
        refine ⟨_, rfl, _, rfl, _, _, rfl, rfl, ?_⟩
        have := hQ _ sm2
        rw [hlet] at this
        exact this
end
end K10
set_option Elab.async false
set_option linter.all false
set_option maxRecDepth 100000
set_option maxHeartbeats 4000000
namespace K10
open PySem L2 PySem.W PH
section
variable {P : Program} {w : World} {K : PySem.W.Frag} {mg : Str → Option Value} {base : Heap}
theorem sc_lwords : FnScope ["lengths", "found", "bits", "length", "sign", "at"] ["lengths"] (defScope s_lwords) := ⟨rfl, rfl, rfl, by decide +kernel, rfl, by decide +kernel, by decide +kernel⟩
theorem ok_lwords {f : Addr} {fd : FuncData} (F : Fun K "_law_words" "_law_words" s_lwords f fd) (B : Bls mg) : FnOk P w K mg base (CXW P w) 1 f fd ["lengths"] (spLWords) := by
  refine F.okN sc_lwords (fun vs H Q E h => ?_) (fun cdv A outer s H vs Q E hr h => ?_)
  · obtain ⟨p, zs, rfl, _⟩ := h
    rfl
  · obtain ⟨p, zs, rfl, prZ, hzl, hb, hQ⟩ := h
    refine ⟨_, (pss_cons (ps_set (i := 1) sc_lwords.nd rfl (Or.inl rfl) (pe_lst pa_nil))
      (pss_cons (ps_set (i := 2) sc_lwords.nd rfl (Or.inl rfl) (pe_lst pa_nil))
      (pss_cons (ps_for PassesOwn.never rfl (pi_list (pe_callB call_sortedT rfl B.sorted boot_sorted' (pa_cons (pe_comp (N := ["sign", "length"]) (js := [none, none]) (g := (gTup K 2 (gCons (gName 0) (gCons (gName 1) gNil)))) (tc := tTrue) (te := (tTup (tCons (tVar 1) (tCons (tVar 0) tNil)))) rfl (comp_scope (osc := defScope s_lwords) (XN := ["lengths", "found", "bits", "length", "sign", "at"]) rfl rfl rfl (by decide +kernel)) (pi_list (pv 0)) (fun _ _ _ _ => pg_tup rfl (pgs_cons (pg_name (i := 0) (show (["sign", "length"] : List Str).Nodup by decide +kernel) rfl (Or.inl rfl)) (pgs_cons (pg_name (i := 1) (show (["sign", "length"] : List Str).Nodup by decide +kernel) rfl (Or.inl rfl)) pgs_nil))) (fun _ _ _ _ => pif_nil) (fun _ _ _ _ => (pe_tup (pa_cons (pv 1) (pa_cons (pv 0) pa_nil))))) pa_nil))) (pg_tup rfl (pgs_cons (pg_name (i := 3) sc_lwords.nd rfl (Or.inl rfl)) (pgs_cons (pg_name (i := 4) sc_lwords.nd rfl (Or.inl rfl)) pgs_nil)))
        (pss_cons (ps_if (pt_cmpR (op_eqD (units_of hr)) (pv 1) (pe_lst pa_nil) (nomark _))
          (pss_one (ps_set (i := 2) sc_lwords.nd rfl (Or.inl rfl) (pe_op op_rep (pe_lst (pa_cons pe_int pa_nil)) (pv 3))))
          (pss_cons (ps_set (i := 2) sc_lwords.nd rfl (Or.inl rfl) (pe_callTy call_list_of rfl B.list boot_list' (pa_cons (pv 2) pa_nil)))
          (pss_cons (ps_set (i := 5) sc_lwords.nd rfl (Or.inl rfl) (pe_op op_sub (pe_callB call_len_seq rfl B.len PySem.boot_len (pa_cons (pv 2) pa_nil)) pe_int))
          (pss_cons (ps_while PassesOwn.never (pt_cmpR op_eq (pe_ix ix_list (pv 2) (pv 5) (fun _ _ => rfl)) pe_int (nomark _))
            (pss_cons (ps_asg pe_int (pg_sub (pv 2) (pv 5) set_list))
            (pss_one (ps_set (i := 5) sc_lwords.nd rfl (Or.inl rfl) (pe_op op_sub (pv 5) pe_int)))))
          (pss_cons (ps_asg pe_int (pg_sub (pv 2) (pv 5) set_list))
          (pss_one (ps_set (i := 2) sc_lwords.nd rfl (Or.inl rfl) (pe_op op_cat (pv 2) (pe_op op_rep (pe_lst (pa_cons pe_int pa_nil)) (pe_op op_sub (pv 3) (pe_callB call_len_seq rfl B.len PySem.boot_len (pa_cons (pv 2) pa_nil))))))))))))
        (pss_one (ps_expr (pe_bm PySem.F.plainAttrs_list PySem.F.slot_list_append PySem.F.type_list_append mt_append (pv 1) (pa_cons (pe_tup (pa_cons (pv 4) (pa_cons (pv 2) pa_nil))) pa_nil))))))
      (pss_one (ps_ret (pe_callB call_sortedIR rfl B.sorted boot_sorted' (pa_cons (pv 1) pa_nil))))))), ?_⟩
    generalize hcs : zs.map (·.2) = cs at hb hQ
    have hcl : cs.length = zs.length := by rw [← hcs, List.length_map]
    obtain ⟨hlen, hsum⟩ := can_lens hb
    have hsg := can_signs hb
    have hup := lens_up cs hlen
    have hsl : (stOf cs).length = zs.length := by unfold stOf; rw [srt_len, List.length_map, hcl]
    refine ⟨(by show 0 ≤ sizeLine; decide), fun F hF => ?_⟩
    have s2 := same_new hF (.lst [])
    refine ⟨(by show 0 ≤ sizeLine; decide), fun w0 hw0 => ?_⟩
    have s3 := s2.trans (same_new hw0 (.lst []))
    have hF3 : upd (upd H F (.lst [])) w0 (.lst []) F = some (.lst []) := (same_new hw0 _) _ _ upd_same
    generalize upd (upd H F (.lst [])) w0 (.lst []) = H3 at s3 hF3 ⊢
    refine ⟨_, rfl, p, rfl, ⟨_, SqL.of (s3 _ _ prZ.at_)⟩, fun D hD => ?_⟩
    refine comp_lstQ (K := K) (a := p) (xs := zs.map fun z => V.ref z.1) (fun i σ' H' => ∃ (x y : Option V) (th : List (Addr × Int × Int)), σ' = [x, y] ∧ Prs H' D th ∧ th.map (·.2) = (cs.map swp).take i ∧ th.length ≤ i ∧ Same H3 H')
      ⟨none, none, [], rfl, ⟨upd_same, (fun _ z => by cases z)⟩, by rw [List.take_zero]; rfl, Nat.le_refl _, same_new hD _⟩ (fun i σ' H' _ ⟨_, _, _, _, _, _, _, e⟩ => SqL.of (e _ _ (s3 _ _ prZ.at_))) ?_ ?_
    · rintro i v σ' H' hi ⟨x, y, th, rfl, prT, hth, htl, sm⟩
      obtain ⟨z, hz, rfl⟩ := ref_at hi
      have hlt : i < (zs.map fun z => V.ref z.1).length := (List.getElem?_eq_some_iff.mp hi).1
      have hil : i < zs.length := (List.getElem?_eq_some_iff.mp hz).1
      have hck : (cs.map swp)[i]? = some (swp z.2) := by rw [List.getElem?_map, ← hcs, List.getElem?_map, hz]; rfl
      refine ⟨z.1, _, rfl, SqT.of (sm _ _ (s3 _ _ (prZ.each z (List.mem_of_getElem? hz)))), rfl, _, _, rfl, _, _, rfl, rfl, ?_⟩
      refine trueT ?_
      refine ⟨_, rfl, _, rfl, (by show 2 ≤ sizeLine; decide), fun t ht => ?_⟩
      have st := same_new ht (.tup [.int z.2.2, .int z.2.1])
      refine ⟨D, _, _, rfl, rfl, st _ _ prT.at_, fits_lt (by rw [List.length_map]; trivial), ?_⟩
      refine CW.next hlt ⟨_, _, th ++ [(t, z.2.2, z.2.1)], rfl, (prT.same st).app upd_same, ?_, by rw [List.length_append, List.length_singleton]; trivial, same_upd (sm.trans st) _ hD⟩
      rw [List.map_append, hth, take_at hck]; rfl
    rintro σ' H4 ⟨x, y, th, rfl, prT, hth, htl, sm⟩
    rw [List.length_map, List.take_of_length_le (by rw [List.length_map]; trivial)] at hth
    refine ⟨D, th, rfl, SqL.of prT.at_, (fun z hz => SqT.of (prT.each z hz)), fun tz' q hp hs hq => ?_⟩
    have est : tz'.map (·.2) = stOf cs := by unfold stOf; rw [← hth]; exact srt_eq (hp.map _) hs
    have prQ : Prs (upd H4 q (.lst (tz'.map fun z => V.ref z.1))) q tz' := ⟨upd_same, fun z hz => (same_new hq _) _ _ (prT.each z (hp.mem_iff.mp hz))⟩
    have s5 := s3.trans (sm.trans (same_new hq (.lst (tz'.map fun z => V.ref z.1))))
    have hF5 := (same_new hq (.lst (tz'.map fun z => V.ref z.1))) _ _ (sm _ _ hF3)
    have nqF : q ≠ F := (ne_of_none (sm _ _ hF3) hq).symm
    generalize upd H4 q (.lst (tz'.map fun z => V.ref z.1)) = H5 at prQ s5 hF5 ⊢
    have nzF : ∀ z ∈ tz', z.1 ≠ F := fun z hz e => by have := prQ.each z hz; rw [e, hF5] at this; cases this
    have kS : ∀ {H' : Hp}, Kb F H5 H' → Same H H' := fun {H'} k b u e => k b u (fun c => by rw [c, hF] at e; cases e) (s5 b u e)
    refine ⟨q, rfl, ⟨_, SqL.of prQ.at_⟩, for_list (K := K) (a := q) (xs := tz'.map fun z => V.ref z.1) (fun i σ H' => ∃ (es : List (Addr × Int × Addr × List Int)) (v2 v3 v4 v5 : Option V), σ = [some (.ref p), some (.ref F), v2, v3, v4, v5] ∧ Wrs H' F es ∧ es.map (·.2.1) = ((stOf cs).take i).map (·.2) ∧ (∀ e ∈ es, e.2.2.1 ≠ F) ∧ Kb F H5 H' ∧ ((i = 0 ∧ es = []) ∨ (∃ es' t s b w, es = es' ++ [(t, s, b, w)] ∧ v2 = some (.ref b) ∧ isBits w ∧ w.length ≤ 256 ∧ Up w.length ((lensOf cs).drop i) ∧ tk w + sP ((lensOf cs).drop i) ≤ 2 ^ 256 ∧ wds (lensOf cs) = es.map (·.2.2.2) ++ wdsN w ((lensOf cs).drop i))))
      ⟨[], _, _, _, _, rfl, ⟨hF5, (fun _ z => by cases z)⟩, by rw [List.take_zero]; rfl, (fun _ z => by cases z), Kb.refl _ _, .inl ⟨rfl, rfl⟩⟩ (fun i σ H' _ ⟨_, _, _, _, _, _, _, _, _, k, _⟩ => SqL.of (k _ _ nqF prQ.at_)) ?_ ?_⟩
    · rintro i y σ H6 hi ⟨es, v2, v3, v4, v5, rfl, wr, hes, heF, kb, htail⟩
      obtain ⟨z, hz, rfl⟩ := ref_at hi
      have hzm := List.mem_of_getElem? hz
      have hst : (stOf cs)[i]? = some z.2 := by rw [← est, List.getElem?_map, hz]; rfl
      have hil : i < (stOf cs).length := (List.getElem?_eq_some_iff.mp hst).1
      have hz1 : 1 ≤ z.2.1 ∧ z.2.1 ≤ 256 := by
        have hm := List.mem_of_getElem? hst
        have := (srt_perm (cs.map swp)).mem_iff.mp hm
        obtain ⟨c, hc, e⟩ := List.mem_map.mp this
        have := hlen c hc
        rw [← e]; exact this
      obtain ⟨l, hl⟩ : ∃ l : Nat, z.2.1 = (l : Int) := ⟨z.2.1.toNat, by trivial⟩
      have hli : (lensOf cs)[i]? = some l := by
        unfold lensOf
        rw [List.getElem?_map, hst]
        show some z.2.1.toNat = some l
        rw [hl, Int.toNat_natCast]
      have hld : (lensOf cs).drop i = l :: (lensOf cs).drop (i + 1) := by
        obtain ⟨h1, h2⟩ := List.getElem?_eq_some_iff.mp hli
        rw [List.drop_eq_getElem_cons h1, h2]
      have hel : es.length = i := by
        have := congrArg List.length hes
        rw [List.length_map, List.length_map, List.length_take] at this
        trivial
      have hSH := kS kb
      -- the end of a turn
      have put : ∀ (H7 : Hp) (b : Addr) (W : List Int) (v5 : Option V), Same H6 H7 → H6 b = none → H7 b = some (lsI W) → isBits W → W.length = l → Up l ((lensOf cs).drop (i + 1)) → tk W + sP ((lensOf cs).drop (i + 1)) ≤ 2 ^ 256 → wds (lensOf cs) = es.map (·.2.2.2) ++ W :: wdsN W ((lensOf cs).drop (i + 1)) →
          ∀ t, H7 t = none → ∃ (es' : List (Addr × Int × Addr × List Int)) (w2 w3 w4 w5 : Option V), ([some (.ref p), some (.ref F), some (.ref b), some (.int z.2.1), some (.int z.2.2), v5] : St) = [some (.ref p), some (.ref F), w2, w3, w4, w5] ∧ Wrs (upd (upd H7 t (.tup [.int z.2.2, .ref b])) F (.lst ((es.map fun w => V.ref w.1) ++ [V.ref t]))) F es' ∧ es'.map (·.2.1) = ((stOf cs).take (i + 1)).map (·.2) ∧ (∀ e ∈ es', e.2.2.1 ≠ F) ∧ Kb F H5 (upd (upd H7 t (.tup [.int z.2.2, .ref b])) F (.lst ((es.map fun w => V.ref w.1) ++ [V.ref t]))) ∧ ((i + 1 = 0 ∧ es' = []) ∨ (∃ es'' t s b w, es' = es'' ++ [(t, s, b, w)] ∧ w2 = some (.ref b) ∧ isBits w ∧ w.length ≤ 256 ∧ Up w.length ((lensOf cs).drop (i + 1)) ∧ tk w + sP ((lensOf cs).drop (i + 1)) ≤ 2 ^ 256 ∧ wds (lensOf cs) = es'.map (·.2.2.2) ++ wdsN w ((lensOf cs).drop (i + 1)))) := fun H7 b W v5 s67 hb6 hb7 hWb hWl hWu hWt hWd t ht => by
        have st := same_new ht (.tup [.int z.2.2, .ref b])
        have wr7 := (wr.same s67).same st
        have nbF : b ≠ F := (ne_of_none wr.at_ hb6).symm
        refine ⟨es ++ [(t, z.2.2, b, W)], _, _, _, _, rfl, wr7.app heF upd_same (st _ _ hb7) nbF, ?_, ?_, (kb.trans (Kb.of (s67.trans st))).trans (Kb.put _ _ _), .inr ⟨es, t, z.2.2, b, W, rfl, rfl, hWb, by trivial, by rw [hWl]; exact hWu, hWt, ?_⟩⟩
        · rw [List.map_append, hes, take_at hst, List.map_append]; rfl
        · intro e he
          rcases List.mem_append.mp he with r | r
          · exact heF e r
          · have : e = (t, z.2.2, b, W) := by simpa using r
            subst this
            exact nbF
        · rw [hWd, List.map_append, List.append_assoc]; rfl
      refine ⟨z.1, _, rfl, SqT.of (kb _ _ (nzF z hzm) (prQ.each z hzm)), rfl, _, _, rfl, _, _, rfl, rfl, ?_⟩
      refine ⟨_, rfl, (by show 0 ≤ sizeLine; decide), fun e1 he1 => ?_⟩
      have s8 := same_new he1 (.lst [])
      refine ⟨_, _, (wr.same s8).deep, .lst (SqL.of upd_same) .nil, ht_wrD _, _, rfl, ?_⟩
      rw [eqD_wnil]
      rcases htail with ⟨h0, hnil⟩ | ⟨es', t', s', b, w, hes', hv2, hwb, hwl, hwu, hwt, hwd⟩
      · have e0 : (es.map fun w => (w.2.1, w.2.2.2)) = [] := by rw [hnil]; rfl
        rw [decide_eq_true e0]
        refine iteT ?_
        refine ⟨(by show 1 ≤ sizeLine; decide), fun l0 hl0 => ?_⟩
        have t0 := same_new hl0 (.lst [V.int 0])
        refine ⟨_, rfl, l0, z.2.1, _, rfl, rfl, upd_same, by trivial, by trivial, ?_, fun b hbn => ?_⟩
        · rw [show z.2.1.toNat = l by trivial]
          have : 1 * l ≤ 256 := by trivial
          exact Nat.le_trans this (by decide)
        rw [show z.2.1.toNat = l by trivial, rep_zer]
        have t1 := same_new hbn (lsI (zer l))
        have hB : upd (upd (upd H6 e1 (.lst [])) l0 (.lst [V.int 0])) b (lsI (zer l)) b = some (lsI (zer l)) := upd_same
        have S7 := s8.trans (t0.trans t1)
        have hB6 : H6 b = none := (s8.trans t0).free hbn
        rw [show HO.lst ((zer l).map V.int) = lsI (zer l) from rfl]
        generalize upd (upd (upd H6 e1 (.lst [])) l0 (.lst [V.int 0])) b (lsI (zer l)) = H7 at hB S7 ⊢
        refine ⟨_, rfl, .inl ⟨rfl, _, SqL.of (S7 _ _ wr.at_)⟩, _, rfl, _, rfl, (by show 2 ≤ sizeLine; decide), fun t ht => ?_⟩
        refine ⟨F, _, _, rfl, rfl, (same_new ht _) _ _ (S7 _ _ wr.at_), fits_lt (by rw [List.length_map]; trivial), ?_⟩
        refine put H7 b (zer l) _ S7 hB6 hB (zer_bits l) (zer_len l) ?_ ?_ ?_ t ht
        · have := hup
          rw [show lensOf cs = l :: (lensOf cs).drop (i + 1) by rw [← hld, h0, List.drop_zero]] at this
          exact this.2.2
        · have := hsum
          rw [show lensOf cs = l :: (lensOf cs).drop (i + 1) by rw [← hld, h0, List.drop_zero], sP_cons] at this
          rw [tk_zer]
          exact this
        · rw [hnil]
          conv => lhs; rw [show lensOf cs = l :: (lensOf cs).drop (i + 1) by rw [← hld, h0, List.drop_zero]]
          rfl
      · have e0 : ¬ (es.map fun w => (w.2.1, w.2.2.2)) = [] := by rw [hes']; simp
        rw [decide_eq_false e0]
        refine iteF ?_
        subst hv2
        rw [hld] at hwu hwt hwd
        have hbm : (t', s', b, w) ∈ es := by rw [hes']; exact List.mem_append_right _ List.mem_cons_self
        have hBw := (wr.each _ hbm).2
        have hroom := room_at hwb hwl hwt
        obtain ⟨u, k, hwe, hlow⟩ := carry w hwb hroom
        have hwc : w = crL u k 0 := by rw [hwe]; unfold crL; rw [List.replicate_zero, List.append_nil]
        refine ⟨_, rfl, b, _, rfl, .inl (SqL.of (s8 _ _ hBw)), fun b1 hb1 => ?_⟩
        have hb16 : H6 b1 = none := s8.free hb1
        refine ⟨_, rfl, b1, _, rfl, .inl (SqL.of upd_same), _, _, rfl, rfl, ?_⟩
        refine ⟨fun m σ H' => ∃ j, m + j = k ∧ σ = [some (.ref p), some (.ref F), some (.ref b1), some (.int z.2.1), some (.int z.2.2), some (.int ((u.length + m : Nat) : Int))] ∧ H' = upd (upd H6 e1 (.lst [])) b1 (lsI (crL u m j)), ⟨k, 0, rfl, ?_, by rw [hwc]; rfl⟩, ?_⟩
        · have : ((w.map V.int).length : Int) - 1 = ((u.length + k : Nat) : Int) := by
            rw [List.length_map, hwc, cr_len]; trivial
          show _ = _
          rw [← this]; rfl
        rintro m σ H7 ⟨j, hmj, rfl, rfl⟩
        cases m with
        | succ m =>
          refine ⟨_, rfl, _, rfl, b1, _, _, _, rfl, rfl, SqL.of upd_same, at_ints (cr_at (u := u) (m := m) (j := j)), rfl, _, rfl, ?_⟩
          refine iteT ?_
          refine ⟨fun σ' H'' => ∃ m', m' < m + 1 ∧ ∃ j, m' + j = k ∧ σ' = [some (.ref p), some (.ref F), some (.ref b1), some (.int z.2.1), some (.int z.2.2), some (.int ((u.length + m' : Nat) : Int))] ∧ H'' = upd (upd H6 e1 (.lst [])) b1 (lsI (crL u m' j)), fun σ' H'' z => z, ?_⟩
          refine ⟨_, rfl, _, rfl, b1, _, _, _, rfl, rfl, upd_same, ixN_nat (k := u.length + (m + 1)) (by rw [List.length_map, cr_len]; trivial), ?_⟩
          rw [upd_upd, cr_set]
          refine ⟨_, rfl, _, _, rfl, rfl, ?_⟩
          refine gNam (v' := V.int ((u.length + m : Nat) : Int)) (by show V.int ((u.length + m : Nat) : Int) = V.int (((u.length + (m + 1) : Nat) : Int) - 1); congr 1; trivial) ?_
          exact ⟨m, by trivial, j + 1, by trivial, rfl, rfl⟩
        | zero =>
          refine ⟨_, rfl, _, rfl, b1, _, _, _, rfl, rfl, SqL.of upd_same, at_ints (cr_at0 (u := u) (j := j)), rfl, _, rfl, ?_⟩
          refine iteF ?_
          refine ⟨_, rfl, _, rfl, b1, _, _, _, rfl, rfl, upd_same, ixN_nat (k := u.length + 0) (by rw [List.length_map, cr_len]; trivial), ?_⟩
          have hjk : j = k := by trivial
          subst hjk
          rw [upd_upd, show u.length + 0 = u.length from rfl, cr_set0, ← hlow]
          have S1 := s8.trans (same_new hb1 (lsI (lowb (worth w + 1) w.length)))
          have hB1 : upd (upd H6 e1 (.lst [])) b1 (lsI (lowb (worth w + 1) w.length)) b1 = some (lsI (lowb (worth w + 1) w.length)) := upd_same
          rw [show HO.lst ((lowb (worth w + 1) w.length).map V.int) = lsI (lowb (worth w + 1) w.length) from rfl]
          generalize upd (upd H6 e1 (.lst [])) b1 (lsI (lowb (worth w + 1) w.length)) = H7 at S1 hB1 ⊢
          refine ⟨_, rfl, (by show 1 ≤ sizeLine; decide), fun l0 hl0 => ?_⟩
          have s2' := same_new hl0 (.lst [V.int 0])
          refine ⟨_, rfl, _, rfl, b1, _, rfl, .inl (SqL.of (s2' _ _ hB1)), _, _, rfl, rfl, ?_⟩
          rw [List.length_map, lowb_length]
          have em : z.2.1 - (w.length : Int) = ((l - w.length : Nat) : Int) := by have := hwu.1; trivial
          refine ⟨l0, ((l - w.length : Nat) : Int), _, rfl, by show V.int (z.2.1 - (w.length : Int)) = _; rw [em], upd_same, by trivial, by trivial, ?_, fun l1 hl1 => ?_⟩
          · rw [Int.toNat_natCast]
            have : 1 * (l - w.length) ≤ 256 := by trivial
            exact Nat.le_trans this (by decide)
          rw [Int.toNat_natCast, rep_zer]
          have s3' := same_new hl1 (lsI (zer (l - w.length)))
          refine ⟨b1, l1, _, _, rfl, rfl, (s2'.trans s3') _ _ hB1, upd_same, fits (by rw [len_lsI, len_lsI, lowb_length, zer_len]; trivial), fun r hr => ?_⟩
          have s4' := same_new hr (lsI (nw w l))
          have S := S1.trans (s2'.trans s3')
          have hr6 : H6 r = none := S.free hr
          have S7 : Same H6 (upd (upd (upd H7 l0 (.lst [V.int 0])) l1 (lsI (zer (l - w.length)))) r (lsI (nw w l))) := S.trans s4'
          rw [show HO.lst ((lowb (worth w + 1) w.length).map V.int ++ (zer (l - w.length)).map V.int) = lsI (nw w l) by rw [lsI_app]; rfl]
          have hB7 : upd (upd (upd H7 l0 (.lst [V.int 0])) l1 (lsI (zer (l - w.length)))) r (lsI (nw w l)) r = some (lsI (nw w l)) := upd_same
          rw [show HO.lst ((zer (l - w.length)).map V.int) = lsI (zer (l - w.length)) from rfl]
          generalize upd (upd (upd H7 l0 (.lst [V.int 0])) l1 (lsI (zer (l - w.length)))) r (lsI (nw w l)) = H8 at S7 hB7 ⊢
          refine ⟨_, rfl, .inl ⟨rfl, _, SqL.of (S7 _ _ wr.at_)⟩, _, rfl, _, rfl, (by show 2 ≤ sizeLine; decide), fun t ht => ?_⟩
          refine ⟨F, _, _, rfl, rfl, (same_new ht _) _ _ (S7 _ _ wr.at_), fits_lt (by rw [List.length_map]; trivial), ?_⟩
          refine put H8 r (nw w l) _ S7 hr6 hB7 (nw_bits w l) (nw_len hwu.1) hwu.2.2 (room_on hwb hwu.1 hwu.2.1 hwt) ?_ t ht
          exact hwd
    · rintro σ H6 ⟨es, v2, v3, v4, v5, rfl, wr, hes, heF, kb, htail⟩
      have htl' : tz'.length = (stOf cs).length := by rw [← est, List.length_map]
      have hll : (lensOf cs).length = (stOf cs).length := by unfold lensOf; rw [List.length_map]
      rw [List.length_map, htl', List.take_length] at hes
      have hbits : es.map (·.2.2.2) = wds (lensOf cs) := by
        rcases htail with ⟨h0, hnil⟩ | ⟨_, _, _, _, w, _, _, _, _, _, _, hwd⟩
        · rw [List.length_map, htl', ← hll] at h0
          rw [hnil, List.eq_nil_of_length_eq_zero h0]; rfl
        · rw [hwd, List.length_map, htl', ← hll, List.drop_length]
          show _ = _ ++ []
          rw [List.append_nil]
      have hw : es.map (fun e => (e.2.1, e.2.2.2)) = wof cs := by
        unfold wof
        rw [← hes, ← hbits, zip_two]
      have hnd : (es.map (·.2.1)).Nodup := by rw [hes]; exact hsg
      have sH6 := kS kb
      refine ⟨_, rfl, F, es.map (fun e => (e.1, e.2.1, e.2.2.1)), rfl, by rw [List.map_map]; exact SqL.of wr.at_, ?_, ?_, fun zs' r hp' hs' hr => ?_⟩
      · intro z hz
        obtain ⟨e, he, rfl⟩ := List.mem_map.mp hz
        exact SqT.of (wr.each e he).1
      · intro z hz y hy e
        obtain ⟨a, ha, rfl⟩ := List.mem_map.mp hz
        obtain ⟨b, hb', rfl⟩ := List.mem_map.mp hy
        rw [key_inj hnd ha hb' e]
      obtain ⟨fs, hpf, rfl⟩ := perm_map (fun e : Addr × Int × Addr × List Int => (e.1, e.2.1, e.2.2.1)) hp' es rfl
      have sr := same_new hr (.lst ((fs.map fun e => (e.1, e.2.1, e.2.2.1)).map fun z => V.ref z.1))
      have hpw : (fs.map fun w => (w.2.1, w.2.2.2)).Perm (wof cs) := by rw [← hw]; exact hpf.map _
      refine hQ r fs _ (sH6.trans sr) (sH6.free hr) ⟨by rw [upd_same, List.map_map]; rfl, fun e he => ?_⟩ ?_ hpw
      · have := wr.each e (hpf.mem_iff.mp he)
        exact ⟨sr _ _ this.1, sr _ _ this.2⟩
      · refine words_sorted hb hpw ?_
        rw [List.map_map] at hs'
        rw [List.map_map]
        exact hs'
end
end K10
set_option Elab.async false
set_option linter.all false
set_option maxRecDepth 100000
set_option maxHeartbeats 4000000
namespace K10
open PySem L2 PySem.W PH
section
variable {P : Program} {w : World} {K : PySem.W.Frag} {mg : Str → Option Value} {base : Heap}
theorem sc_lcoded : FnScope ["text", "lengths", "words", "found", "sign"] ["text", "lengths"] (defScope s_lcoded) := ⟨rfl, rfl, rfl, by decide +kernel, rfl, by decide +kernel, by decide +kernel⟩
theorem ok_lcoded {f f_let f_lwords : Addr} {fd d_let d_lwords : FuncData} (F : Fun K "_law_coded" "_law_coded" s_lcoded f fd) (B : Bls mg) 
    (G_let : FnOk P w K mg base (CXW P w) 1 f_let d_let ["lengths"] (spLet)) (b_let : Binds K d_let ["lengths"] []) (k_let : keepIn K (.ref f_let) = true) (m_let : mg "_law_let" = some (.ref f_let)) 
    (G_lwords : FnOk P w K mg base (CXW P w) 1 f_lwords d_lwords ["lengths"] (spLWords)) (b_lwords : Binds K d_lwords ["lengths"] []) (k_lwords : keepIn K (.ref f_lwords) = true) (m_lwords : mg "_law_words" = some (.ref f_lwords)) : FnOk P w K mg base (CXW P w) 2 f fd ["text", "lengths"] (spLCoded) := by
  refine F.okN sc_lcoded (fun vs H Q E h => ?_) (fun cdv A outer s H vs Q E hr h => ?_)
  · obtain ⟨T, p, t, zs, rfl, _⟩ := h
    rfl
  · obtain ⟨T, p, t, zs, rfl, hT, htl, pr, hzl, hri, hQ⟩ := h
    refine ⟨_, (pss_cons (ps_if (pt_not (pt_val (pe_call G_let hr rfl m_let k_let b_let .nil passN (pa_cons (pv 1) pa_nil))))
        (pss_one (ps_ret (pe_lst (pa_cons pe_bl (pa_cons pe_bl (pa_cons pe_bl (pa_cons pe_bl pa_nil)))))))
        pss_nil)
      (pss_cons (ps_set (i := 2) sc_lcoded.nd rfl (Or.inl rfl) (pe_callTy (call_dictP rfl) rfl B.dict boot_dictP (pa_cons (pe_call G_lwords hr rfl m_lwords k_lwords b_lwords .nil passN (pa_cons (pv 1) pa_nil)) pa_nil)))
      (pss_cons (ps_set (i := 3) sc_lcoded.nd rfl (Or.inl rfl) (pe_lst pa_nil))
      (pss_cons (ps_for PassesOwn.never rfl (pi_list (pv 0)) (pg_name (i := 4) sc_lcoded.nd rfl (Or.inl rfl))
        (pss_cons (ps_if (pt_cmp (pc_dnotin (hu_of hr) (pv 4) (pv 2)))
          (pss_one (ps_ret (pe_lst (pa_cons pe_bl (pa_cons pe_bl (pa_cons pe_bl (pa_cons pe_bl pa_nil)))))))
          pss_nil)
        (pss_one (ps_set (i := 3) sc_lcoded.nd rfl (Or.inl rfl) (pe_op op_cat (pv 3) (pe_dget (hu_of hr) (pv 2) (pv 4) (fun _ _ => rfl)))))))
      (pss_one (ps_ret (pe_lst (pa_cons pe_str (pa_cons (pv 3) pa_nil))))))))), ?_⟩
    refine ⟨_, rfl, p, zs, rfl, pr, hzl, (fun c hc => (hri.2 c hc).2.2), fun H1 s1 => ⟨_, rfl, ?_⟩⟩
    rw [← let_can hri]
    cases hb : canB (zs.map (·.2)) with
    | false =>
      refine iteT ?_
      refine ⟨(by show 4 ≤ sizeLine; decide), fun D_ hD_ => ?_⟩
      refine hQ D_ _ (s1.trans (same_new hD_ _)) (s1.free hD_) ?_
      rw [k0_none (by unfold cdO; rw [if_neg (by rw [hb]; decide)])]
      exact upd_same
    | true =>
    refine iteF ?_
    refine ⟨_, rfl, p, zs, rfl, pr.same s1, hzl, hb, fun r ws H2 s2 hr0 wr hm _ => ?_⟩
    have hm' : wdM ws = wrdsOf (zs.map (·.2)) := hm
    have nd : (ws.map fun w => w.2.1).Nodup := can_nd (wrds_keys _) hm' (can_keys hb)
    have hcd : cdO (zs.map (·.2)) t = cdd (wdM ws) t := by unfold cdO; rw [if_pos hb, hm']
    have hwl : ∀ w ∈ ws, w.2.2.2.length ≤ 256 := fun w hw => wrds_le2 hb (w.2.1, w.2.2.2) (by rw [← hm']; exact List.mem_map.mpr ⟨w, hw, rfl⟩)
    have sA := s1.trans s2
    refine ⟨r, wdV ws, rfl, (by unfold wdV; rw [List.map_map]; exact SqL.of wr.at_), (fun z hz => by
      obtain ⟨w, hw, rfl⟩ := List.mem_map.mp hz
      exact SqT.of (wr.each w hw).1), fun dt hdt => ?_⟩
    have udt := same_new hdt (.dK (putP [] (wdV ws)))
    have edt : upd H2 dt (.dK (putP [] (wdV ws))) dt = some (.dK (putP [] (wdV ws))) := upd_same
    generalize upd H2 dt (.dK (putP [] (wdV ws))) = H3 at udt edt ⊢
    have s3 := sA.trans udt
    refine ⟨(by show 0 ≤ sizeLine; decide), fun B_ hB => ?_⟩
    have u3 := same_new hB (.lst [])
    have eB : upd H3 B_ (.lst []) B_ = some (lsI []) := upd_same
    have hBH : H B_ = none := s3.free hB
    generalize upd H3 B_ (.lst []) = H4 at u3 eB ⊢
    refine ⟨_, rfl, T, rfl, ⟨_, SqL.of (u3 _ _ (s3 _ _ hT))⟩, for_list (K := K) (a := T) (xs := t.map V.int) (fun i σ H' => ∃ (bs : List Int) (B_ : Addr) (v4 : Option V), σ = [some (.ref T), some (.ref p), some (.ref dt), some (.ref B_), v4] ∧ H' B_ = some (lsI bs) ∧ H B_ = none ∧ cdd (wdM ws) t = (cdd (wdM ws) (t.drop i)).map (bs ++ ·) ∧ bs.length ≤ 256 * i ∧ Same H3 H')
      ⟨[], B_, none, rfl, eB, hBH, by rw [List.drop_zero]; cases cdd (wdM ws) t <;> rfl, Nat.zero_le _, u3⟩ (fun i σ H' _ ⟨_, _, _, _, _, _, _, _, e⟩ => SqL.of (e _ _ (s3 _ _ hT))) ?_ ?_⟩
    · clear hBH eB u3 hB B_
      rintro i y σ H' hi ⟨bs, B_, v4, rfl, hB', hBH, hcd', hbl, sm⟩
      obtain ⟨s, rfl, hs⟩ := int_at hi
      have hil : i < t.length := (List.getElem?_eq_some_iff.mp hs).1
      rw [dropH_at hs] at hcd'
      have hd' := sm _ _ edt
      rcases val_wd nd s with ⟨f1, f2⟩ | ⟨w, hw, f1, f2⟩
      · refine ⟨_, rfl, _, rfl, dt, _, rfl, DGet.k (k := Sum.inl s) hd', _, rfl, ?_⟩
        rw [f2]
        refine iteT ?_
        rw [cdd_no f1] at hcd'
        refine ⟨(by show 4 ≤ sizeLine; decide), fun D_ hD_ => ?_⟩
        refine hQ D_ _ ((s3.trans sm).trans (same_new hD_ _)) ((s3.trans sm).free hD_) ?_
        rw [k0_none (by rw [hcd, hcd']; rfl)]
        exact upd_same
      · refine ⟨_, rfl, _, rfl, dt, _, rfl, DGet.k (k := Sum.inl s) hd', _, rfl, ?_⟩
        rw [f2]
        refine iteF ?_
        have hwB : H' w.2.2.1 = some (lsI w.2.2.2) := sm _ _ (udt _ _ (wr.each w hw).2)
        have hg := DGet.k (k := Sum.inl s) hd'
        rw [f2] at hg
        have hwn := hwl w hw
        refine ⟨_, rfl, _, rfl, _, rfl, dt, _, rfl, hg, B_, w.2.2.1, _, _, rfl, rfl, hB', hwB, fits (by rw [List.length_map, List.length_map]; trivial), fun q hq => ?_⟩
        refine ⟨bs ++ w.2.2.2, q, _, rfl, by rw [upd_same]; unfold lsI; rw [List.map_append], (s3.trans sm).free hq, ?_, by rw [List.length_append]; trivial, sm.trans (same_new hq _)⟩
        rw [hcd', cdd_on f1, Option.map_map]
        congr 1
        funext q
        exact (List.append_assoc _ _ _).symm
    · clear hBH eB u3 hB B_
      rintro σ H' ⟨bs, B_, v4, rfl, hB', hBH, hcd', hbl, sm⟩
      rw [List.length_map, List.drop_length] at hcd'
      refine ⟨_, rfl, (by show 2 ≤ sizeLine; decide), fun D_ hD_ => ?_⟩
      have u := same_new hD_ (.lst [V.str "told", V.ref B_])
      refine hQ D_ _ ((s3.trans sm).trans u) ((s3.trans sm).free hD_) ?_
      rw [k0_some (b := bs) (by rw [hcd, hcd']; show some (bs ++ []) = _; rw [List.append_nil])]
      exact ⟨B_, upd_same, u _ _ hB', hBH⟩
end
end K10
set_option Elab.async false
set_option linter.all false
set_option maxRecDepth 100000
set_option maxHeartbeats 4000000
namespace K10
open PySem L2 PySem.W PH
section
variable {P : Program} {w : World} {K : PySem.W.Frag} {mg : Str → Option Value} {base : Heap}
theorem sc_ldecoded : FnScope ["bits", "at", "lengths", "many", "words", "text", "k", "here"] ["bits", "at", "lengths", "many"] (defScope s_ldecoded) := ⟨rfl, rfl, rfl, by decide +kernel, rfl, by decide +kernel, by decide +kernel⟩
theorem ok_ldecoded {f f_let f_lwords : Addr} {fd d_let d_lwords : FuncData} (F : Fun K "_law_decoded" "_law_decoded" s_ldecoded f fd) (B : Bls mg) 
    (G_let : FnOk P w K mg base (CXW P w) 1 f_let d_let ["lengths"] (spLet)) (b_let : Binds K d_let ["lengths"] []) (k_let : keepIn K (.ref f_let) = true) (m_let : mg "_law_let" = some (.ref f_let)) 
    (G_lwords : FnOk P w K mg base (CXW P w) 1 f_lwords d_lwords ["lengths"] (spLWords)) (b_lwords : Binds K d_lwords ["lengths"] []) (k_lwords : keepIn K (.ref f_lwords) = true) (m_lwords : mg "_law_words" = some (.ref f_lwords)) : FnOk P w K mg base (CXW P w) 2 f fd ["bits", "at", "lengths", "many"] (spLDecoded) := by
  refine F.okN sc_ldecoded (fun vs H Q E h => ?_) (fun cdv A outer s H vs Q E hr h => ?_)
  · obtain ⟨Bt, p, bits, at_, n, zs, rfl, _⟩ := h
    rfl
  · obtain ⟨Bt, p, bits, at_, n, zs, rfl, hBt, hbl, hnl, pr, hzl, hri, hQ⟩ := h
    refine ⟨_, (pss_cons (ps_if (pt_not (pt_val (pe_call G_let hr rfl m_let k_let b_let .nil passN (pa_cons (pv 2) pa_nil))))
        (pss_one (ps_ret (pe_lst (pa_cons pe_bl (pa_cons pe_bl (pa_cons pe_bl (pa_cons pe_bl pa_nil)))))))
        pss_nil)
      (pss_cons (ps_set (i := 4) sc_ldecoded.nd rfl (Or.inl rfl) (pe_call G_lwords hr rfl m_lwords k_lwords b_lwords .nil passN (pa_cons (pv 2) pa_nil)))
      (pss_cons (ps_if (PW.pt (pw_or (pt_cmpR op_lt (pv 1) pe_int (nomark _)) (pw_or1 (pt_cmpR op_gt (pv 1) (pe_callB call_len_seq rfl B.len PySem.boot_len (pa_cons (pv 0) pa_nil)) (nomark _)))))
        (pss_one (ps_ret (pe_lst (pa_cons pe_bl (pa_cons pe_bl (pa_cons pe_bl (pa_cons pe_bl pa_nil)))))))
        pss_nil)
      (pss_cons (ps_set (i := 5) sc_ldecoded.nd rfl (Or.inl rfl) (pe_lst pa_nil))
      (pss_cons (ps_for PassesOwn.never rfl (pi_range1 rfl B.range (pa_cons (pv 3) pa_nil)) (pg_name (i := 6) sc_ldecoded.nd rfl (Or.inl rfl))
        (pss_cons (ps_setC (iy := 7) (N := ["sign", "word", "bits", "at"]) (js := [none, none, some 0, some 1]) (g := (gTup K 2 (gCons (gName 0) (gCons (gName 1) gNil)))) (tc := (tTest (tOp (rEqI K) (tSl (rSlL K) (tVar 2) (tPart (tVar 3)) (tPart (tOp (rI0 fun i j => .int (i + j)) (tVar 3) (tCB (rLen K) (tCons (tVar 1) tNil))))) (tVar 1)))) (te := (tVar 0)) sc_ldecoded.nd rfl rfl rfl (comp_scope (osc := defScope s_ldecoded) (XN := ["bits", "at", "lengths", "many", "words", "text", "k", "here"]) rfl rfl rfl (by decide +kernel)) (pi_list (pv 4)) (fun _ _ _ _ => pg_tup rfl (pgs_cons (pg_name (i := 0) (show (["sign", "word", "bits", "at"] : List Str).Nodup by decide +kernel) rfl (Or.inl rfl)) (pgs_cons (pg_name (i := 1) (show (["sign", "word", "bits", "at"] : List Str).Nodup by decide +kernel) rfl (Or.inl rfl)) pgs_nil))) (fun _ _ _ _ => (pif_one (pt_cmpR (op_eqL (units_of hr)) (pe_slice sl_list (pv 2) (po_some (pv 3)) (po_some (pe_op op_add (pv 3) (pe_callB call_len_seq rfl B.len PySem.boot_len (pa_cons (pv 1) pa_nil))))) (pv 1) (nomark _)))) (fun _ _ _ _ => (pv 0)))
        (pss_cons (ps_if (pt_cmpR (op_eqL (units_of hr)) (pv 7) (pe_lst pa_nil) (nomark _))
          (pss_one (ps_ret (pe_lst (pa_cons pe_bl (pa_cons pe_bl (pa_cons pe_bl (pa_cons pe_bl pa_nil)))))))
          pss_nil)
        (pss_cons (ps_expr (pe_bm PySem.F.plainAttrs_list PySem.F.slot_list_append PySem.F.type_list_append mt_append (pv 5) (pa_cons (pe_ix ix_list (pv 7) pe_int (fun _ _ => rfl)) pa_nil)))
        (pss_one (ps_set (i := 1) sc_ldecoded.nd rfl (Or.inr rfl) (pe_op op_add (pv 1) (pe_callB call_len_seq rfl B.len PySem.boot_len (pa_cons (pe_dget (hu_of hr) (pe_callTy (call_dictP rfl) rfl B.dict boot_dictP (pa_cons (pv 4) pa_nil)) (pe_ix ix_list (pv 7) pe_int (fun _ _ => rfl)) (fun _ _ => rfl)) pa_nil)))))))))
      (pss_one (ps_ret (pe_lst (pa_cons pe_str (pa_cons (pe_tup (pa_cons (pv 5) (pa_cons (pv 1) pa_nil))) pa_nil)))))))))), ?_⟩
    refine ⟨_, rfl, p, zs, rfl, pr, hzl, (fun c hc => (hri.2 c hc).2.2), fun H1 s1 => ⟨_, rfl, ?_⟩⟩
    rw [← let_can hri]
    cases hb : canB (zs.map (·.2)) with
    | false =>
      refine iteT ?_
      refine ⟨(by show 4 ≤ sizeLine; decide), fun D_ hD_ => ?_⟩
      refine hQ D_ _ (s1.trans (same_new hD_ _)) (s1.free hD_) ?_
      rw [rdO_nc hb]
      exact upd_same
    | true =>
    refine iteF ?_
    refine ⟨_, rfl, p, zs, rfl, pr.same s1, hzl, hb, fun W ws H2 s2 hr0 wr hm _ => ?_⟩
    have hm' : wdM ws = wrdsOf (zs.map (·.2)) := hm
    have nd : (ws.map fun w => w.2.1).Nodup := can_nd (wrds_keys _) hm' (can_keys hb)
    have nd' : ((wdM ws).map (·.1)).Nodup := by unfold wdM; rw [List.map_map]; exact nd
    have hws : ws.length ≤ 300 := by
      have := congrArg List.length hm'
      unfold wdM wrdsOf at this
      rw [List.length_map, List.length_map, List.length_map] at this
      trivial
    have sA := s1.trans s2
    have brk : ∀ (D_ : Addr) (H' : Hp), Same H H' → H' D_ = none → rdO (zs.map (·.2)) bits at_ n = .br → Q (.ref D_) (upd H' D_ (.lst [.bl false, .bl true, .bl true, .bl false])) := fun D_ H' s hD_ e => by
      refine hQ D_ _ (s.trans (same_new hD_ _)) (s.free hD_) ?_
      rw [e]
      exact upd_same
    refine ⟨_, rfl, _, _, rfl, rfl, _, rfl, ?_⟩
    by_cases h0 : at_ < 0
    · rw [decide_eq_true h0]
      refine iteT (iteT ?_)
      exact ⟨(by show 4 ≤ sizeLine; decide), fun D_ hD_ => brk D_ _ sA hD_ (rdO_br hb (.inl h0))⟩
    rw [decide_eq_false h0]
    refine iteF ?_
    refine ⟨_, rfl, _, rfl, Bt, _, rfl, .inl (SqL.of (sA _ _ hBt)), _, _, rfl, rfl, _, rfl, ?_⟩
    rw [List.length_map]
    by_cases h1 : ((bits.length : Nat) : Int) < at_
    · rw [decide_eq_true h1]
      refine iteT ?_
      exact ⟨(by show 4 ≤ sizeLine; decide), fun D_ hD_ => brk D_ _ sA hD_ (rdO_br hb (.inr h1))⟩
    rw [decide_eq_false h1]
    refine iteF ?_
    obtain ⟨a0, ea⟩ : ∃ a0 : Nat, at_ = (a0 : Int) := ⟨at_.toNat, by trivial⟩
    subst ea
    rw [rdO_in hb (by trivial), ← hm'] at hQ brk
    refine ⟨(by show 0 ≤ sizeLine; decide), fun X_ hX => ?_⟩
    have u2 := same_new hX (.lst [])
    have eX : upd H2 X_ (.lst []) X_ = some (lsI []) := upd_same
    have hXH : H X_ = none := sA.free hX
    generalize upd H2 X_ (.lst []) = H3 at u2 eX ⊢
    refine ⟨_, rfl, (n : Int), rfl, by trivial, by trivial, ?_⟩
    rw [Int.toNat_natCast]
    refine for_range (n := n) (fun i σ H' => ∃ (tx : List Int) (b : Nat) (v6 v7 : Option V), σ = [some (.ref Bt), some (.int (b : Int)), some (.ref p), some (.int (n : Int)), some (.ref W), some (.ref X_), v6, v7] ∧ H' X_ = some (lsI tx) ∧ tx.length = i ∧ dcd (wdM ws) bits n a0 = (dcd (wdM ws) bits (n - i) b).map (fun q => (tx ++ q.1, q.2)) ∧ Same H2 H')
      ⟨[], a0, none, none, rfl, eX, rfl, by rw [Nat.sub_zero]; cases dcd (wdM ws) bits n a0 <;> rfl, u2⟩ ?_ ?_
    · rintro i σ H' hi ⟨tx, b, v6, v7, rfl, hX', htl, hdc, sm⟩
      have wr' := wr.same sm
      refine ⟨_, rfl, W, rfl, ⟨_, SqL.of wr'.at_⟩, fun D hD => ?_⟩
      refine comp_lstQ (K := K) (a := W) (xs := ws.map fun w => V.ref w.1) (fun j σ' H4 => ∃ (v0 v1 : Option V) (hs : List Int), σ' = [v0, v1, some (.ref Bt), some (.int (b : Int))] ∧ H4 D = some (lsI hs) ∧ hs = (((wdM ws).take j).filter (mth bits b)).map (·.1) ∧ Same H' H4)
        ⟨none, none, [], rfl, upd_same, by rw [List.take_zero]; rfl, same_new hD _⟩ (fun j σ' H4 _ ⟨_, _, _, _, _, _, e⟩ => SqL.of (e _ _ wr'.at_)) ?_ ?_
      · rintro j y σ' H4 hj ⟨v0, v1, hs, rfl, hD4, hhs, sm4⟩
        have hlt : j < (ws.map fun w => V.ref w.1).length := (List.getElem?_eq_some_iff.mp hj).1
        have hjl : j < ws.length := by rw [List.length_map] at hlt; exact hlt
        obtain ⟨z, hz⟩ : ∃ z, ws[j]? = some z := ⟨_, List.getElem?_eq_getElem hjl⟩
        rw [List.getElem?_map, hz] at hj
        have ey : V.ref z.1 = y := Option.some.inj hj
        subst ey
        have he := wr'.each z (List.mem_of_getElem? hz)
        have hzm : (wdM ws)[j]? = some (z.2.1, z.2.2.2) := by unfold wdM; rw [List.getElem?_map, hz]; rfl
        have hzw : H4 z.2.2.1 = some (lsI z.2.2.2) := sm4 _ _ he.2
        have hhl : hs.length ≤ j := by
          rw [hhs, List.length_map]
          exact Nat.le_trans (List.length_filter_le _ _) (by rw [List.length_take]; trivial)
        refine ⟨z.1, _, rfl, SqT.of (sm4 _ _ he.1), rfl, _, _, rfl, _, _, rfl, rfl, ?_⟩
        refine ⟨_, rfl, _, rfl, _, rfl, _, rfl, _, rfl, z.2.2.1, _, rfl, .inl (SqL.of hzw), _, _, rfl, rfl, ((b + z.2.2.2.length : Nat) : Int), (by show V.int ((b : Int) + ((z.2.2.2.map V.int).length : Int)) = _; rw [List.length_map, Int.natCast_add]), Bt, _, rfl, SqL.of (sm4 _ _ (sm _ _ (sA _ _ hBt))), fun q hq => ?_⟩
        have ec : HO.lst (cutV (bits.map V.int) (some (b : Int)) (some ((b + z.2.2.2.length : Nat) : Int))) = lsI ((bits.drop b).take z.2.2.2.length) := by
          have := cut_two bits b (b + z.2.2.2.length)
          rw [show b + z.2.2.2.length - b = z.2.2.2.length by trivial] at this
          exact congrArg HO.lst this
        rw [ec]
        have uq := same_new hq (lsI ((bits.drop b).take z.2.2.2.length))
        have eq : upd H4 q (lsI ((bits.drop b).take z.2.2.2.length)) q = some (lsI ((bits.drop b).take z.2.2.2.length)) := upd_same
        generalize upd H4 q (lsI ((bits.drop b).take z.2.2.2.length)) = H5 at uq eq ⊢
        refine ⟨_, rfl, q, z.2.2.1, _, _, rfl, rfl, SqL.of eq, SqL.of (uq _ _ hzw), _, rfl, ?_⟩
        by_cases hm : (bits.drop b).take z.2.2.2.length = z.2.2.2
        · rw [decide_eq_true hm]
          refine iteT ?_
          refine ⟨_, rfl, D, _, _, rfl, rfl, uq _ _ hD4, fits_lt (by rw [List.length_map]; trivial), ?_⟩
          refine CW.next hlt ⟨_, _, hs ++ [z.2.1], rfl, by rw [upd_same, lsI_app1], ?_, same_upd (sm4.trans uq) _ hD⟩
          rw [hhs, take_at hzm, List.filter_append, List.map_append, List.filter_cons_of_pos (by unfold mth; exact decide_eq_true hm)]
          rfl
        · rw [decide_eq_false hm]
          refine iteF ?_
          refine CW.next hlt ⟨_, _, hs, rfl, uq _ _ hD4, ?_, sm4.trans uq⟩
          rw [hhs, take_at hzm, List.filter_append, List.map_append, List.filter_cons_of_neg (by unfold mth; rw [decide_eq_false hm]; decide)]
          exact (List.append_nil _).symm
      rintro σ' H4 ⟨v0, v1, hs, rfl, hD4, hhs, sm4⟩
      rw [List.length_map, show ws.length = (wdM ws).length by unfold wdM; rw [List.length_map], List.take_length] at hhs
      have nDX : X_ ≠ D := ne_of_none hX' hD
      refine ⟨_, rfl, (by show 0 ≤ sizeLine; decide), fun e0 he0 => ?_⟩
      have u5 := same_new he0 (.lst [])
      have ee0 : upd H4 e0 (.lst []) e0 = some (lsI []) := upd_same
      generalize upd H4 e0 (.lst []) = H5 at u5 ee0 ⊢
      have sm5 := sm4.trans u5
      have hD5 := u5 _ _ hD4
      refine ⟨D, e0, _, _, rfl, rfl, SqL.of hD5, SqL.of ee0, _, rfl, ?_⟩
      obtain ⟨k, ek⟩ : ∃ k, n - i = k + 1 := ⟨n - i - 1, by trivial⟩
      rw [ek] at hdc
      rcases rd_case (wdM ws) bits b with ⟨f1, f2⟩ | ⟨pw, rest, f1, f2, f3⟩
      · rw [f1] at hhs
        rw [hhs]
        refine iteT ?_
        rw [dcd_no f2] at hdc
        exact ⟨(by show 4 ≤ sizeLine; decide), fun D_ hD_ => brk D_ _ (sA.trans (sm.trans sm5)) hD_ (by rw [hdc]; rfl)⟩
      rw [f1] at hhs
      rw [hhs] at hD5 ⊢
      refine iteF ?_
      rw [dcd_on f3] at hdc
      have hX5 := sm5 _ _ hX'
      refine ⟨_, rfl, .inl ⟨rfl, _, SqL.of hX5⟩, _, rfl, D, _, _, _, rfl, rfl, SqL.of hD5, (at_z (show ((pw :: rest).map (·.1))[0]? = some pw.1 from rfl)), X_, _, _, rfl, rfl, hX5, fits_lt (by rw [List.length_map]; trivial), ?_⟩
      have sm6 := same_upd (sm.trans sm5) (.lst (tx.map V.int ++ [V.int pw.1])) hX
      have hX6 : upd H5 X_ (.lst (tx.map V.int ++ [V.int pw.1])) X_ = some (lsI (tx ++ [pw.1])) := by rw [upd_same, lsI_app1]
      have hD6 : upd H5 X_ (.lst (tx.map V.int ++ [V.int pw.1])) D = some (lsI (pw.1 :: rest.map (·.1))) := by rw [upd_ne nDX.symm]; exact hD5
      generalize upd H5 X_ (.lst (tx.map V.int ++ [V.int pw.1])) = H6 at sm6 hX6 hD6 ⊢
      have wr6 := wr.same sm6
      refine ⟨_, rfl, _, rfl, W, wdV ws, rfl, (by unfold wdV; rw [List.map_map]; exact SqL.of wr6.at_), (fun z hz => by
        obtain ⟨w, hw, rfl⟩ := List.mem_map.mp hz
        exact SqT.of (wr6.each w hw).1), fun dt hdt => ?_⟩
      have udt := same_new hdt (.dK (putP [] (wdV ws)))
      have edt : upd H6 dt (.dK (putP [] (wdV ws))) dt = some (.dK (putP [] (wdV ws))) := upd_same
      generalize upd H6 dt (.dK (putP [] (wdV ws))) = H7 at udt edt ⊢
      rcases val_wd nd pw.1 with ⟨g1, g2⟩ | ⟨w, hw, g1, g2⟩
      · rw [fnd_mem nd' f2] at g1; cases g1
      rw [fnd_mem nd' f2] at g1
      have ew : pw.2 = w.2.2.2 := Option.some.inj g1
      have hg := DGet.k (k := Sum.inl pw.1) edt
      rw [g2] at hg
      refine ⟨_, rfl, D, _, _, _, rfl, rfl, SqL.of (udt _ _ hD6), (at_z (show (pw.1 :: rest.map (·.1))[0]? = some pw.1 from rfl)), dt, _, rfl, hg, w.2.2.1, _, rfl, .inl (SqL.of (udt _ _ (wr6.each w hw).2)), _, _, rfl, rfl, ?_⟩
      refine gNam (v' := V.int ((b + pw.2.length : Nat) : Int)) (by show _ = V.int ((b : Int) + ((w.2.2.2.map V.int).length : Int)); rw [List.length_map, ew, Int.natCast_add]) ?_
      refine ⟨tx ++ [pw.1], b + pw.2.length, _, _, rfl, udt _ _ hX6, by rw [List.length_append, htl]; rfl, ?_, sm6.trans udt⟩
      rw [hdc, Option.map_map, show n - (i + 1) = k by trivial]
      congr 1
      funext q
      show (tx ++ pw.1 :: q.1, q.2) = (tx ++ [pw.1] ++ q.1, q.2)
      rw [List.append_assoc]; rfl
    · rintro σ H' ⟨tx, b, v6, v7, rfl, hX', htl, hdc, sm⟩
      rw [Nat.sub_self, dcd] at hdc
      refine ⟨_, rfl, _, rfl, (by show 2 ≤ sizeLine; decide), fun T hT => ⟨(by show 2 ≤ sizeLine; decide), fun D_ hD_ => ?_⟩⟩
      have u8 := same_new hT (.tup [V.ref X_, V.int (b : Int)])
      have eT : upd H' T (.tup [V.ref X_, V.int (b : Int)]) T = some (.tup [V.ref X_, V.int (b : Int)]) := upd_same
      generalize upd H' T (.tup [V.ref X_, V.int (b : Int)]) = H8 at u8 eT hD_ ⊢
      have u9 := same_new hD_ (.lst [V.str "told", V.ref T])
      have s9 := sA.trans (sm.trans u8)
      refine hQ D_ _ (s9.trans u9) (s9.free hD_) ?_
      have e1 : dcd (wdM ws) bits n a0 = some (tx, b) := by
        rw [hdc]
        show some (tx ++ [], b) = _
        rw [List.append_nil]
      rw [e1]
      exact ⟨T, X_, upd_same, u9 _ _ eT, u9 _ _ (u8 _ _ hX')⟩
end
end K10
set_option Elab.async false
set_option linter.all false
set_option maxRecDepth 100000
set_option maxHeartbeats 4000000
namespace K10
open PySem L2 PySem.W PH
section
variable {P : Program} {w : World} {K : PySem.W.Frag} {mg : Str → Option Value} {base : Heap}
theorem sc_kind : FnScope ["way", "one", "two", "lengths", "many", "caught", "found", "e", "some"] ["way", "one", "two", "lengths", "many"] (defScope s_kind) := ⟨rfl, rfl, rfl, by decide +kernel, rfl, by decide +kernel, by decide +kernel⟩
theorem ok_kind {f c_Broken c_NoCode c_NoName c_NoNumber c_NoPlace c_NoRow c_NoText c_PackError f_coded f_decoded : Addr} {fd d_coded d_decoded : FuncData} (F : Fun K "_law_kind" "_law_kind" s_kind f fd) (B : Bls mg) (X_Broken : Ex K mg "Broken" c_Broken) (X_NoCode : Ex K mg "NoCode" c_NoCode) (X_PackError : Ex K mg "PackError" c_PackError) (m_Broken : mg "Broken" = some (.ref c_Broken)) (m_NoCode : mg "NoCode" = some (.ref c_NoCode)) (m_NoName : mg "NoName" = some (.ref c_NoName)) (m_NoNumber : mg "NoNumber" = some (.ref c_NoNumber)) (m_NoPlace : mg "NoPlace" = some (.ref c_NoPlace)) (m_NoRow : mg "NoRow" = some (.ref c_NoRow)) (m_NoText : mg "NoText" = some (.ref c_NoText)) (m_PackError : mg "PackError" = some (.ref c_PackError)) (r_NoCode : ExR K c_PackError c_NoCode c_Broken c_NoName c_NoNumber c_NoPlace c_NoRow c_NoText) (k_NoCode : ExK K c_NoCode c_Broken c_NoName c_NoNumber c_NoPlace c_NoRow c_NoText) (r_Broken : ExR K c_PackError c_Broken c_NoCode c_NoName c_NoNumber c_NoPlace c_NoRow c_NoText) (k_Broken : ExK K c_Broken c_NoCode c_NoName c_NoNumber c_NoPlace c_NoRow c_NoText) 
    (G_coded : FnOk P w K mg base (CXW P w) 4 f_coded d_coded ["text", "lengths"] (spCoded c_NoCode)) (b_coded : Binds K d_coded ["text", "lengths"] []) (k_coded : keepIn K (.ref f_coded) = true) (m_coded : mg "coded" = some (.ref f_coded)) 
    (G_decoded : FnOk P w K mg base (CXW P w) 4 f_decoded d_decoded ["bits", "at", "lengths", "many"] (spDecoded c_NoCode c_Broken)) (b_decoded : Binds K d_decoded ["bits", "at", "lengths", "many"] []) (k_decoded : keepIn K (.ref f_decoded) = true) (m_decoded : mg "decoded" = some (.ref f_decoded)) : FnOk P w K mg base (CXW P w) 5 f fd ["way", "one", "two", "lengths", "many"] (spKind10) := by
  refine F.okN sc_kind (fun vs H Q E h => ?_) (fun cdv A outer s H vs Q E hr h => ?_)
  · obtain ⟨way, at_, A, p, l, n, zs, rfl, _⟩ := h
    rfl
  · obtain ⟨way, at_, A, p, l, n, zs, rfl, hA, hl1, hl0, hn1, pr, hzl, hQ⟩ := h
    refine ⟨_, (pss_cons (ps_set (i := 5) sc_kind.nd rfl (Or.inl rfl) pe_non)
      (pss_cons (ps_set (i := 6) sc_kind.nd rfl (Or.inl rfl) pe_non)
      (pss_cons (ps_try (i := 7) (tb := fun E' => tIfS (tTest (tOp rEq (tVar 0) (tC (.int 0)))) (tAsg (tCall (spCoded c_NoCode) [] E' (tCons (tVar 1) (tCons (tVar 3) tNil))) (gName 6)) (tAsg (tCall (spDecoded c_NoCode c_Broken) [] E' (tCons (tVar 1) (tCons (tVar 2) (tCons (tVar 3) (tCons (tVar 4) tNil))))) (gName 6))) rfl rfl sc_kind.nd rfl rfl rfl X_PackError.mg X_PackError.cl
        (fun pins σ xe' E' hp => psa_if (pt_cmpR op_eq (pv 0) pe_int (nomark _)) (psa_set (i := 6) sc_kind.nd rfl (Or.inl rfl) (pea_call G_coded hr rfl m_coded k_coded b_coded .nil hp (pa_cons (pv 1) (pa_cons (pv 3) pa_nil)))) (psa_set (i := 6) sc_kind.nd rfl (Or.inl rfl) (pea_call G_decoded hr rfl m_decoded k_decoded b_decoded .nil hp (pa_cons (pv 1) (pa_cons (pv 2) (pa_cons (pv 3) (pa_cons (pv 4) pa_nil)))))))
        (fun a => (pss_one (ps_set (i := 5) sc_kind.nd rfl (Or.inl rfl) (pv 7)))))
      (pss_cons (ps_if (pt_cmp (pc_isN (pv 5)))
        (pss_one (ps_ret (pe_lst (pa_cons pe_str (pa_cons (pv 6) pa_nil)))))
        pss_nil)
      (pss_cons (ps_set (i := 8) sc_kind.nd rfl (Or.inl rfl) (pe_lst (pa_cons (pe_callB (r := rIsi K) call_isi rfl B.isi boot_isi (pa_cons (pv 5) (pa_cons (pe_glob (v := .ref c_NoCode) rfl m_NoCode rfl) pa_nil))) (pa_cons (pe_callB (r := rIsi K) call_isi rfl B.isi boot_isi (pa_cons (pv 5) (pa_cons (pe_glob (v := .ref c_Broken) rfl m_Broken rfl) pa_nil))) (pa_cons (pe_callB (r := rIsi K) call_isi rfl B.isi boot_isi (pa_cons (pv 5) (pa_cons (pe_bltn (v := .ty "ValueError") rfl B.ve boot_VE rfl) pa_nil))) pa_nil)))))
      (pss_one (ps_ret (pe_op op_cat (pv 8) (pe_lst (pa_cons (pe_callB call_isiT rfl B.isi boot_isi (pa_cons (pv 5) (pa_cons (pe_tup (pa_cons (pe_glob (v := .ref c_NoName) rfl m_NoName rfl) (pa_cons (pe_glob (v := .ref c_NoNumber) rfl m_NoNumber rfl) (pa_cons (pe_glob (v := .ref c_NoPlace) rfl m_NoPlace rfl) (pa_cons (pe_glob (v := .ref c_NoRow) rfl m_NoRow rfl) (pa_cons (pe_glob (v := .ref c_NoText) rfl m_NoText rfl) pa_nil)))))) pa_nil))) pa_nil)))))))))), ?_⟩
    refine ⟨_, rfl, rfl, _, rfl, ?_⟩
    refine ite2 (fun c => ?_) (fun c => ?_)
    · have hw : way = 0 := V.int.inj (of_decide_eq_true c)
      have hkd : kd10 way (zs.map (·.2)) l at_ n = k0 (zs.map (·.2)) l := by unfold kd10; rw [if_pos hw]
      rw [hkd] at hQ
      refine ⟨_, rfl, _, rfl, A, p, l, zs, rfl, hA, hl0 hw, pr, hzl, (fun hn H1 s1 => ?_), fun bits hb D H1 s1 hD0 hD => ?_⟩
      · refine ⟨c_NoCode, rfl, X_NoCode.cl, r_NoCode.m, fun x hx => ?_⟩
        have s2 := s1.trans (same_new hx (excO x c_NoCode))
        have hxx : upd H1 x (excO x c_NoCode) x = some (excO x c_NoCode) := upd_same
        generalize upd H1 x (excO x c_NoCode) = H2 at s2 hxx ⊢
        refine ⟨_, rfl, ?_⟩
        refine ⟨_, rfl, _, rfl, ?_⟩
        refine iteF ?_
        refine ⟨_, rfl, _, _, _, _, true, rfl, .exc X_NoCode.cl hxx, rfl, kit_refl _ _, _, rfl, _, _, _, _, false, rfl, .exc X_NoCode.cl hxx, rfl, k_NoCode.k1, _, rfl, _, _, _, _, true, rfl, .exc X_NoCode.cl hxx, rfl, r_NoCode.v, (by show 3 ≤ sizeLine; decide), fun l1 hl1 => ?_⟩
        have s3 := s2.trans (same_new hl1 (.lst [V.bl true, .bl false, .bl true]))
        have e1 : upd H2 l1 (.lst [V.bl true, .bl false, .bl true]) l1 = some (.lst [V.bl true, .bl false, .bl true]) := upd_same
        have hx3 := (same_new hl1 (.lst [V.bl true, .bl false, .bl true])) _ _ hxx
        generalize upd H2 l1 (.lst [V.bl true, .bl false, .bl true]) = H3 at s3 e1 hx3 ⊢
        refine ⟨_, rfl, _, rfl, (by show 5 ≤ sizeLine; decide), fun tp htp => ?_⟩
        refine ⟨x, c_NoCode, tp, _, _, false, rfl, X_NoCode.cl, (same_new htp _) _ _ hx3, upd_same, rfl, kit5 k_NoCode.k2 k_NoCode.k3 k_NoCode.k4 k_NoCode.k5 k_NoCode.k6, (by show 1 ≤ sizeLine; decide), fun l2 hl2 => ?_⟩
        have e13 := (same_new hl2 (.lst [V.bl false])) _ _ ((same_new htp _) _ _ e1)
        have s4 := (s3.trans (same_new htp _)).trans (same_new hl2 (.lst [V.bl false]))
        refine ⟨l1, l2, _, _, rfl, rfl, e13, upd_same, (by show 4 ≤ sizeLine; decide), fun D hD => ?_⟩
        refine hQ D _ (s4.trans (same_new hD _)) (s4.free hD) ?_
        rw [k0_none hn]
        exact upd_same
      · refine ⟨_, rfl, _, rfl, ?_⟩
        refine iteT ?_
        refine ⟨_, rfl, (by show 2 ≤ sizeLine; decide), fun D_ hD_ => ?_⟩
        have u := same_new hD_ (.lst [V.str "told", V.ref D])
        refine hQ D_ _ (s1.trans u) (s1.free hD_) ?_
        rw [k0_some hb]
        exact ⟨D, upd_same, u _ _ hD, hD0⟩
    · have hw : ¬ way = 0 := fun e => c (decide_eq_true (by rw [e]))
      have hkd : kd10 way (zs.map (·.2)) l at_ n = kr1 (rdO (zs.map (·.2)) l at_ n) := by unfold kd10; rw [if_neg hw]
      rw [hkd] at hQ
      refine ⟨_, rfl, _, rfl, _, rfl, _, rfl, A, p, l, at_, n, zs, rfl, hA, hl1, hn1, pr, hzl, (fun hn H1 s1 => ?_), (fun hn H1 s1 => ?_), fun t e hb T D H1 s1 hD0 hT hD => ?_⟩
      · refine ⟨c_NoCode, rfl, X_NoCode.cl, r_NoCode.m, fun x hx => ?_⟩
        have s2 := s1.trans (same_new hx (excO x c_NoCode))
        have hxx : upd H1 x (excO x c_NoCode) x = some (excO x c_NoCode) := upd_same
        generalize upd H1 x (excO x c_NoCode) = H2 at s2 hxx ⊢
        refine ⟨_, rfl, ?_⟩
        refine ⟨_, rfl, _, rfl, ?_⟩
        refine iteF ?_
        refine ⟨_, rfl, _, _, _, _, true, rfl, .exc X_NoCode.cl hxx, rfl, kit_refl _ _, _, rfl, _, _, _, _, false, rfl, .exc X_NoCode.cl hxx, rfl, k_NoCode.k1, _, rfl, _, _, _, _, true, rfl, .exc X_NoCode.cl hxx, rfl, r_NoCode.v, (by show 3 ≤ sizeLine; decide), fun l1 hl1 => ?_⟩
        have s3 := s2.trans (same_new hl1 (.lst [V.bl true, .bl false, .bl true]))
        have e1 : upd H2 l1 (.lst [V.bl true, .bl false, .bl true]) l1 = some (.lst [V.bl true, .bl false, .bl true]) := upd_same
        have hx3 := (same_new hl1 (.lst [V.bl true, .bl false, .bl true])) _ _ hxx
        generalize upd H2 l1 (.lst [V.bl true, .bl false, .bl true]) = H3 at s3 e1 hx3 ⊢
        refine ⟨_, rfl, _, rfl, (by show 5 ≤ sizeLine; decide), fun tp htp => ?_⟩
        refine ⟨x, c_NoCode, tp, _, _, false, rfl, X_NoCode.cl, (same_new htp _) _ _ hx3, upd_same, rfl, kit5 k_NoCode.k2 k_NoCode.k3 k_NoCode.k4 k_NoCode.k5 k_NoCode.k6, (by show 1 ≤ sizeLine; decide), fun l2 hl2 => ?_⟩
        have e13 := (same_new hl2 (.lst [V.bl false])) _ _ ((same_new htp _) _ _ e1)
        have s4 := (s3.trans (same_new htp _)).trans (same_new hl2 (.lst [V.bl false]))
        refine ⟨l1, l2, _, _, rfl, rfl, e13, upd_same, (by show 4 ≤ sizeLine; decide), fun D hD => ?_⟩
        refine hQ D _ (s4.trans (same_new hD _)) (s4.free hD) ?_
        rw [hn, kr1]
        exact upd_same
      · refine ⟨c_Broken, rfl, X_Broken.cl, r_Broken.m, fun x hx => ?_⟩
        have s2 := s1.trans (same_new hx (excO x c_Broken))
        have hxx : upd H1 x (excO x c_Broken) x = some (excO x c_Broken) := upd_same
        generalize upd H1 x (excO x c_Broken) = H2 at s2 hxx ⊢
        refine ⟨_, rfl, ?_⟩
        refine ⟨_, rfl, _, rfl, ?_⟩
        refine iteF ?_
        refine ⟨_, rfl, _, _, _, _, false, rfl, .exc X_Broken.cl hxx, rfl, k_Broken.k1, _, rfl, _, _, _, _, true, rfl, .exc X_Broken.cl hxx, rfl, kit_refl _ _, _, rfl, _, _, _, _, true, rfl, .exc X_Broken.cl hxx, rfl, r_Broken.v, (by show 3 ≤ sizeLine; decide), fun l1 hl1 => ?_⟩
        have s3 := s2.trans (same_new hl1 (.lst [V.bl false, .bl true, .bl true]))
        have e1 : upd H2 l1 (.lst [V.bl false, .bl true, .bl true]) l1 = some (.lst [V.bl false, .bl true, .bl true]) := upd_same
        have hx3 := (same_new hl1 (.lst [V.bl false, .bl true, .bl true])) _ _ hxx
        generalize upd H2 l1 (.lst [V.bl false, .bl true, .bl true]) = H3 at s3 e1 hx3 ⊢
        refine ⟨_, rfl, _, rfl, (by show 5 ≤ sizeLine; decide), fun tp htp => ?_⟩
        refine ⟨x, c_Broken, tp, _, _, false, rfl, X_Broken.cl, (same_new htp _) _ _ hx3, upd_same, rfl, kit5 k_Broken.k2 k_Broken.k3 k_Broken.k4 k_Broken.k5 k_Broken.k6, (by show 1 ≤ sizeLine; decide), fun l2 hl2 => ?_⟩
        have e13 := (same_new hl2 (.lst [V.bl false])) _ _ ((same_new htp _) _ _ e1)
        have s4 := (s3.trans (same_new htp _)).trans (same_new hl2 (.lst [V.bl false]))
        refine ⟨l1, l2, _, _, rfl, rfl, e13, upd_same, (by show 4 ≤ sizeLine; decide), fun D hD => ?_⟩
        refine hQ D _ (s4.trans (same_new hD _)) (s4.free hD) ?_
        rw [hn, kr1]
        exact upd_same
      · refine ⟨_, rfl, _, rfl, ?_⟩
        refine iteT ?_
        refine ⟨_, rfl, (by show 2 ≤ sizeLine; decide), fun D_ hD_ => ?_⟩
        have u := same_new hD_ (.lst [V.str "told", V.ref T])
        refine hQ D_ _ (s1.trans u) (s1.free hD_) ?_
        rw [hb]
        exact ⟨T, D, upd_same, u _ _ hT, u _ _ hD⟩
end
end K10
set_option Elab.async false
set_option linter.all false
set_option maxRecDepth 100000
set_option maxHeartbeats 4000000
namespace K10
open PySem L2 PySem.W PH
section
variable {P : Program} {w : World} {K : PySem.W.Frag} {mg : Str → Option Value} {base : Heap}
theorem sc_bitsr : FnScope ["found"] ["found"] (defScope s_bitsr) := ⟨rfl, rfl, rfl, by decide +kernel, rfl, by decide +kernel, by decide +kernel⟩
theorem ok_bitsr {f : Addr} {fd : FuncData} (F : Fun K "_law_bits_right" "_law_bits_right" s_bitsr f fd) (B : Bls mg) : FnOk P w K mg base (CXW P w) 1 f fd ["found"] (spBitsR) := by
  refine F.okN sc_bitsr (fun vs H Q E h => ?_) (fun cdv A outer s H vs Q E hr h => ?_)
  · obtain ⟨H0, D, r, rfl, _⟩ := h
    rfl
  · obtain ⟨H0, D, r, rfl, kd, hnp, hQ⟩ := h
    refine ⟨_, (pss_cons (ps_if (pt_cmpR op_ne (pe_ix ix_list (pv 0) pe_int (fun _ _ => rfl)) pe_str (nomark _))
        (pss_one (ps_ret pe_bl))
        pss_nil)
      (pss_one (ps_ret (pe_cmpR (op_eqL (units_of hr)) (pe_comp (N := ["bit"]) (js := [none]) (g := (gName 0)) (tc := (tOr (tNot (tB (tCB (rIsi K) (tCons (tVar 0) (tCons (tC (.ty "int")) tNil))))) (tB (tCB (rIsi K) (tCons (tVar 0) (tCons (tC (.ty "bool")) tNil)))))) (te := (tVar 0)) rfl (comp_scope (osc := defScope s_bitsr) (XN := ["found"]) rfl rfl rfl (by decide +kernel)) (pi_list (pe_ix ix_list (pv 0) pe_int (fun _ _ => rfl))) (fun _ _ _ _ => pg_name (i := 0) (show (["bit"] : List Str).Nodup by decide +kernel) rfl (Or.inl rfl)) (fun _ _ _ _ => (pif_one (PW.pt (pw_or (pt_not (pt_val (pe_callB (r := rIsi K) call_isi rfl B.isi boot_isi (pa_cons (pv 0) (pa_cons (pe_bltn (v := .ty "int") rfl B.int boot_int' rfl) pa_nil))))) (pw_or1 (pt_val (pe_callB (r := rIsi K) call_isi rfl B.isi boot_isi (pa_cons (pv 0) (pa_cons (pe_bltn (v := .ty "bool") rfl B.bool boot_bool' rfl) pa_nil))))))))) (fun _ _ _ _ => (pv 0))) (pe_lst pa_nil) (nomark _))))), ?_⟩
    cases r with
    | pair t e => exact absurd rfl (hnp t e)
    | nc =>
      have h' : H D = some (.lst [.bl true, .bl false, .bl true, .bl false]) := kd
      refine ⟨_, rfl, D, _, _, _, rfl, rfl, SqL.of h', rfl, rfl, _, rfl, ?_⟩
      refine iteT ?_
      exact hQ _ (Same.refl _)
    | br =>
      have h' : H D = some (.lst [.bl false, .bl true, .bl true, .bl false]) := kd
      refine ⟨_, rfl, D, _, _, _, rfl, rfl, SqL.of h', rfl, rfl, _, rfl, ?_⟩
      refine iteT ?_
      exact hQ _ (Same.refl _)
    | told b =>
      obtain ⟨x, e1, e2, _⟩ := kd
      refine ⟨_, rfl, D, _, _, _, rfl, rfl, SqL.of e1, rfl, rfl, _, rfl, ?_⟩
      refine iteNS rfl ?_
      refine ⟨_, rfl, D, _, _, _, rfl, rfl, SqL.of e1, rfl, x, rfl, ⟨_, SqL.of e2⟩, fun D2 hD2 => ?_⟩
      refine comp_ints (ns := b) hD2 e2 ?_
      refine ⟨(by show 0 ≤ sizeLine; decide), fun p2 hp2 => ?_⟩
      refine ⟨D2, p2, [], [], rfl, rfl, SqL.of (by rw [upd_ne (ne_of_none upd_same hp2), upd_same]; rfl), SqL.of upd_same, ?_⟩
      exact hQ _ ((same_new hD2 _).trans (same_new hp2 _))
end
end K10
set_option Elab.async false
set_option linter.all false
set_option maxRecDepth 100000
set_option maxHeartbeats 4000000
namespace K10
open PySem L2 PySem.W PH
section
variable {P : Program} {w : World} {K : PySem.W.Frag} {mg : Str → Option Value} {base : Heap}
theorem sc_readr : FnScope ["bits", "at", "lengths", "many", "handed", "found"] ["bits", "at", "lengths", "many"] (defScope s_readr) := ⟨rfl, rfl, rfl, by decide +kernel, rfl, by decide +kernel, by decide +kernel⟩
theorem ok_readr {f f_ldecoded f_kind : Addr} {fd d_ldecoded d_kind : FuncData} (F : Fun K "_law_read_right" "_law_read_right" s_readr f fd) (B : Bls mg) 
    (G_ldecoded : FnOk P w K mg base (CXW P w) 2 f_ldecoded d_ldecoded ["bits", "at", "lengths", "many"] (spLDecoded)) (b_ldecoded : Binds K d_ldecoded ["bits", "at", "lengths", "many"] []) (k_ldecoded : keepIn K (.ref f_ldecoded) = true) (m_ldecoded : mg "_law_decoded" = some (.ref f_ldecoded)) 
    (G_kind : FnOk P w K mg base (CXW P w) 5 f_kind d_kind ["way", "one", "two", "lengths", "many"] (spKind10)) (b_kind : Binds K d_kind ["way", "one", "two", "lengths", "many"] []) (k_kind : keepIn K (.ref f_kind) = true) (m_kind : mg "_law_kind" = some (.ref f_kind)) : FnOk P w K mg base (CXW P w) 6 f fd ["bits", "at", "lengths", "many"] (spReadR) := by
  refine F.okN sc_readr (fun vs H Q E h => ?_) (fun cdv A outer s H vs Q E hr h => ?_)
  · obtain ⟨Bt, p, bits, at_, n, zs, rfl, _⟩ := h
    rfl
  · obtain ⟨Bt, p, bits, at_, n, zs, rfl, hBt, hbl, hnl, pr, hzl, hri, hQ⟩ := h
    refine ⟨_, (pss_cons (ps_set (i := 4) sc_readr.nd rfl (Or.inl rfl) (pe_lst (pa_cons (pe_callTy call_list_of rfl B.list boot_list' (pa_cons (pv 0) pa_nil)) (pa_cons (pe_callTy call_list_of rfl B.list boot_list' (pa_cons (pv 2) pa_nil)) pa_nil))))
      (pss_cons (ps_set (i := 5) sc_readr.nd rfl (Or.inl rfl) (pe_call G_kind hr rfl m_kind k_kind b_kind .nil passN (pa_cons pe_int (pa_cons (pe_ix ix_list (pv 4) pe_int (fun _ _ => rfl)) (pa_cons (pv 1) (pa_cons (pe_ix ix_list (pv 4) pe_int (fun _ _ => rfl)) (pa_cons (pv 3) pa_nil)))))))
      (pss_cons (ps_if (PW.pt (pw_or (pt_cmpR (op_neD (units_of hr)) (pv 5) (pe_call G_ldecoded (hr.mono (show 2 ≤ 5 by decide)) rfl m_ldecoded k_ldecoded b_ldecoded .nil passN (pa_cons (pv 0) (pa_cons (pv 1) (pa_cons (pv 2) (pa_cons (pv 3) pa_nil))))) (nomark _)) (pw_or1 (pt_cmpR (op_neD (units_of hr)) (pv 4) (pe_lst (pa_cons (pv 0) (pa_cons (pv 2) pa_nil))) (nomark _)))))
        (pss_one (ps_ret pe_bl))
        pss_nil)
      (pss_one (ps_ret (pe_or (pe_cmpR op_ne (pe_ix ix_list (pv 5) pe_int (fun _ _ => rfl)) pe_str (nomark _)) (pe_one (pe_and (pe_callB (r := rIsi K) call_isi rfl B.isi boot_isi (pa_cons (pe_ix ix_list (pv 5) pe_int (fun _ _ => rfl)) (pa_cons (pe_bltn (v := .ty "tuple") rfl B.tuple boot_tuple' rfl) pa_nil))) (pe_one (pe_callB (r := rIsi K) call_isi rfl B.isi boot_isi (pa_cons (pe_ix ix_tup (pe_ix ix_list (pv 5) pe_int (fun _ _ => rfl)) pe_int (fun _ _ => rfl)) (pa_cons (pe_bltn (v := .ty "list") rfl B.list boot_list' rfl) pa_nil)))))))))))), ?_⟩
    refine ⟨_, rfl, Bt, _, rfl, .inl (SqL.of hBt), fun h1 hh1 => ?_⟩
    have sa := same_new hh1 (.lst (bits.map V.int))
    have ea : upd H h1 (.lst (bits.map V.int)) h1 = some (lsI bits) := upd_same
    generalize upd H h1 (.lst (bits.map V.int)) = Ha at sa ea ⊢
    refine ⟨_, rfl, p, _, rfl, .inl (SqL.of (sa _ _ pr.at_)), fun h2 hh2 => ?_⟩
    have sb := same_new hh2 (.lst (zs.map fun z => V.ref z.1))
    have pb : Prs (upd Ha h2 (.lst (zs.map fun z => V.ref z.1))) h2 zs := ⟨upd_same, fun z hz => sb _ _ (sa _ _ (pr.each z hz))⟩
    generalize upd Ha h2 (.lst (zs.map fun z => V.ref z.1)) = Hb at sb pb ⊢
    refine ⟨(by show 2 ≤ sizeLine; decide), fun hd hhd => ?_⟩
    have sc := same_new hhd (.lst [V.ref h1, V.ref h2])
    have ed : upd Hb hd (.lst [V.ref h1, V.ref h2]) hd = some (.lst [V.ref h1, V.ref h2]) := upd_same
    generalize upd Hb hd (.lst [V.ref h1, V.ref h2]) = Hc at sc ed ⊢
    have ea' := sc _ _ (sb _ _ ea)
    have pb' := pb.same sc
    have sC := sa.trans (sb.trans sc)
    refine ⟨_, rfl, hd, _, _, _, rfl, rfl, SqL.of ed, rfl, _, rfl, _, rfl, hd, _, _, _, rfl, rfl, SqL.of ed, rfl, _, rfl, 1, at_, h1, h2, bits, n, zs, rfl, ea', hbl, (fun h => by cases h), hnl, pb', hzl, fun D Hd sd hD kd => ?_⟩
    have hkd : kd10 1 (zs.map (·.2)) bits at_ n = kr1 (rdO (zs.map (·.2)) bits at_ n) := by unfold kd10; rw [if_neg (by decide)]
    rw [hkd] at kd
    have sD := sC.trans sd
    refine ⟨_, rfl, _, rfl, _, rfl, _, rfl, _, rfl, Bt, p, bits, at_, n, zs, rfl, sD _ _ hBt, hbl, hnl, pr.same sD, hzl, hri, fun D2 He se hD2 kd2 => ?_⟩
    have kdE := kd.same se
    refine ⟨_, _, kdE.deep, kd2.deep, ht_Kd _, _, rfl, ?_⟩
    rw [eqD_refl]
    refine iteF ?_
    have sE := sD.trans se
    refine ⟨_, rfl, _, rfl, _, rfl, (by show 2 ≤ sizeLine; decide), fun d2 hd2 => ?_⟩
    have sf := same_new hd2 (.lst [V.ref Bt, V.ref p])
    have ef : upd He d2 (.lst [V.ref Bt, V.ref p]) d2 = some (.lst [V.ref Bt, V.ref p]) := upd_same
    generalize upd He d2 (.lst [V.ref Bt, V.ref p]) = Hf at sf ef ⊢
    have sdf := sd.trans (se.trans sf)
    have sF := sE.trans sf
    refine ⟨_, _, deep_hd (sdf _ _ ed) (sdf _ _ ea') (pb'.same sdf), deep_hd ef (sF _ _ hBt) (pr.same sF), ht_hd _ _, _, rfl, ?_⟩
    rw [eqD_refl]
    refine iteF ?_
    have kdF := kdE.same sf
    have hnt : ∀ b, kr1 (rdO (zs.map (·.2)) bits at_ n) ≠ .told b := fun b => by cases rdO (zs.map (·.2)) bits at_ n <;> exact fun h => by cases h
    generalize kr1 (rdO (zs.map (·.2)) bits at_ n) = r at kdF hnt
    have hQ' := hQ Hf sF
    cases r with
    | nc =>
      have h' : Hf D = some (.lst [.bl true, .bl false, .bl true, .bl false]) := kdF
      refine ⟨_, rfl, D, _, _, _, rfl, rfl, SqL.of h', rfl, rfl, _, rfl, ?_⟩
      exact iteT hQ'
    | br =>
      have h' : Hf D = some (.lst [.bl false, .bl true, .bl true, .bl false]) := kdF
      refine ⟨_, rfl, D, _, _, _, rfl, rfl, SqL.of h', rfl, rfl, _, rfl, ?_⟩
      exact iteT hQ'
    | told b =>
      exact absurd rfl (hnt b)
    | pair t e =>
      obtain ⟨T, x, e1, e2, e3⟩ := kdF
      refine ⟨_, rfl, D, _, _, _, rfl, rfl, SqL.of e1, rfl, rfl, _, rfl, ?_⟩
      refine iteNS rfl ?_
      refine ⟨_, rfl, D, _, _, _, rfl, rfl, SqL.of e1, rfl, _, _, _, _, true, rfl, .of (.tup e2), rfl, kit_refl _ _, _, rfl, ?_⟩
      refine iteT ?_
      refine ⟨_, rfl, D, _, _, _, rfl, rfl, SqL.of e1, rfl, T, _, _, _, rfl, rfl, SqT.of e2, rfl, _, _, _, _, true, rfl, .of (.lst e3), rfl, kit_refl _ _, ?_⟩
      exact hQ'
end
end K10
set_option Elab.async false
set_option linter.all false
set_option maxRecDepth 100000
set_option maxHeartbeats 4000000
namespace K10
open PySem L2 PySem.W PH
section
variable {P : Program} {w : World} {K : PySem.W.Frag} {mg : Str → Option Value} {base : Heap}
theorem sc_codedr : FnScope ["row", "some", "handed", "found"] ["row", "some"] (defScope s_codedr) := ⟨rfl, rfl, rfl, by decide +kernel, rfl, by decide +kernel, by decide +kernel⟩
theorem ok_codedr {f f_lcoded f_kind f_bitsr : Addr} {fd d_lcoded d_kind d_bitsr : FuncData} (F : Fun K "_law_coded_right" "_law_coded_right" s_codedr f fd) (B : Bls mg) 
    (G_lcoded : FnOk P w K mg base (CXW P w) 2 f_lcoded d_lcoded ["text", "lengths"] (spLCoded)) (b_lcoded : Binds K d_lcoded ["text", "lengths"] []) (k_lcoded : keepIn K (.ref f_lcoded) = true) (m_lcoded : mg "_law_coded" = some (.ref f_lcoded)) 
    (G_kind : FnOk P w K mg base (CXW P w) 5 f_kind d_kind ["way", "one", "two", "lengths", "many"] (spKind10)) (b_kind : Binds K d_kind ["way", "one", "two", "lengths", "many"] []) (k_kind : keepIn K (.ref f_kind) = true) (m_kind : mg "_law_kind" = some (.ref f_kind)) 
    (G_bitsr : FnOk P w K mg base (CXW P w) 1 f_bitsr d_bitsr ["found"] (spBitsR)) (b_bitsr : Binds K d_bitsr ["found"] []) (k_bitsr : keepIn K (.ref f_bitsr) = true) (m_bitsr : mg "_law_bits_right" = some (.ref f_bitsr)) : FnOk P w K mg base (CXW P w) 6 f fd ["row", "some"] (spCodedR) := by
  refine F.okN sc_codedr (fun vs H Q E h => ?_) (fun cdv A outer s H vs Q E hr h => ?_)
  · obtain ⟨T, p, t, zs, rfl, _⟩ := h
    rfl
  · obtain ⟨T, p, t, zs, rfl, hT, htl, pr, hzl, hri, hQ⟩ := h
    refine ⟨_, (pss_cons (ps_set (i := 2) sc_codedr.nd rfl (Or.inl rfl) (pe_lst (pa_cons (pe_callTy call_list_of rfl B.list boot_list' (pa_cons (pv 0) pa_nil)) (pa_cons (pe_callTy call_list_of rfl B.list boot_list' (pa_cons (pv 1) pa_nil)) pa_nil))))
      (pss_cons (ps_set (i := 3) sc_codedr.nd rfl (Or.inl rfl) (pe_call G_kind hr rfl m_kind k_kind b_kind .nil passN (pa_cons pe_int (pa_cons (pe_ix ix_list (pv 2) pe_int (fun _ _ => rfl)) (pa_cons pe_int (pa_cons (pe_ix ix_list (pv 2) pe_int (fun _ _ => rfl)) (pa_cons pe_int pa_nil)))))))
      (pss_cons (ps_if (PW.pt (pw_or (pt_cmpR (op_neD (units_of hr)) (pv 3) (pe_call G_lcoded (hr.mono (show 2 ≤ 5 by decide)) rfl m_lcoded k_lcoded b_lcoded .nil passN (pa_cons (pv 0) (pa_cons (pv 1) pa_nil))) (nomark _)) (pw_or1 (pt_not (pt_val (pe_call G_bitsr (hr.mono (show 1 ≤ 5 by decide)) rfl m_bitsr k_bitsr b_bitsr .nil passN (pa_cons (pv 3) pa_nil)))))))
        (pss_one (ps_ret pe_bl))
        pss_nil)
      (pss_cons (ps_if (pt_cmpR op_eq (pe_ix ix_list (pv 3) pe_int (fun _ _ => rfl)) pe_str (nomark _))
        (pss_one (ps_expr (pe_bm PySem.F.plainAttrs_list PySem.F.slot_list_append PySem.F.type_list_append mt_append (pe_ix ix_list (pv 3) pe_int (fun _ _ => rfl)) (pa_cons pe_int pa_nil))))
        pss_nil)
      (pss_one (ps_ret (pe_cmpR (op_eqD (units_of hr)) (pv 2) (pe_lst (pa_cons (pv 0) (pa_cons (pv 1) pa_nil))) (nomark _)))))))), ?_⟩
    refine ⟨_, rfl, T, _, rfl, .inl (SqL.of hT), fun h1 hh1 => ?_⟩
    have sa := same_new hh1 (.lst (t.map V.int))
    have ea : upd H h1 (.lst (t.map V.int)) h1 = some (lsI t) := upd_same
    generalize upd H h1 (.lst (t.map V.int)) = Ha at sa ea ⊢
    refine ⟨_, rfl, p, _, rfl, .inl (SqL.of (sa _ _ pr.at_)), fun h2 hh2 => ?_⟩
    have sb := same_new hh2 (.lst (zs.map fun z => V.ref z.1))
    have pb : Prs (upd Ha h2 (.lst (zs.map fun z => V.ref z.1))) h2 zs := ⟨upd_same, fun z hz => sb _ _ (sa _ _ (pr.each z hz))⟩
    generalize upd Ha h2 (.lst (zs.map fun z => V.ref z.1)) = Hb at sb pb ⊢
    refine ⟨(by show 2 ≤ sizeLine; decide), fun hd hhd => ?_⟩
    have sc := same_new hhd (.lst [V.ref h1, V.ref h2])
    have ed : upd Hb hd (.lst [V.ref h1, V.ref h2]) hd = some (.lst [V.ref h1, V.ref h2]) := upd_same
    generalize upd Hb hd (.lst [V.ref h1, V.ref h2]) = Hc at sc ed ⊢
    have ea' := sc _ _ (sb _ _ ea)
    have pb' := pb.same sc
    have sC := sa.trans (sb.trans sc)
    refine ⟨_, rfl, hd, _, _, _, rfl, rfl, SqL.of ed, rfl, _, rfl, hd, _, _, _, rfl, rfl, SqL.of ed, rfl, 0, 0, h1, h2, t, 0, zs, rfl, ea', (by trivial), (fun _ => htl), (by decide), pb', hzl, fun D Hd sd hD kd => ?_⟩
    have hkd : kd10 0 (zs.map (·.2)) t 0 0 = k0 (zs.map (·.2)) t := by unfold kd10; rw [if_pos rfl]
    rw [hkd] at kd
    have sD := sC.trans sd
    refine ⟨_, rfl, _, rfl, _, rfl, T, p, t, zs, rfl, sD _ _ hT, htl, pr.same sD, hzl, hri, fun D2 He se hD2 kd2 => ?_⟩
    have kdE := kd.same se
    refine ⟨_, _, kdE.deep, kd2.deep, ht_Kd _, _, rfl, ?_⟩
    rw [eqD_refl]
    refine iteF ?_
    have sE := sD.trans se
    refine ⟨_, rfl, Hc, D, _, rfl, kdE, k0_np, fun Hf sf => ⟨_, rfl, ?_⟩⟩
    refine iteF ?_
    have kdF := kdE.same sf
    have scf := sd.trans (se.trans sf)
    have fin : ∀ H', Same Hc H' → ∀ d2, H' d2 = none → Q (.bl (eqD (hdD t (zs.map (·.2))) (hdD t (zs.map (·.2))))) (upd H' d2 (.lst [V.ref T, V.ref p])) := fun H' s' d2 hd2 => by
      rw [eqD_refl]
      exact hQ _ ((sC.trans s').trans (same_new hd2 _))
    have dps : ∀ H', Same Hc H' → ∀ d2, H' d2 = none → Deep K (upd H' d2 (.lst [V.ref T, V.ref p])) (.ref hd) (hdD t (zs.map (·.2))) ∧ Deep K (upd H' d2 (.lst [V.ref T, V.ref p])) (.ref d2) (hdD t (zs.map (·.2))) := fun H' s' d2 hd2 => by
      have u := s'.trans (same_new hd2 (.lst [V.ref T, V.ref p]))
      exact ⟨deep_hd (u _ _ ed) (u _ _ ea') (pb'.same u), deep_hd upd_same ((sC.trans u) _ _ hT) (pr.same (sC.trans u))⟩
    have hnp : ∀ t' e, k0 (zs.map (·.2)) t ≠ .pair t' e := k0_np
    have hbl : ∀ b, k0 (zs.map (·.2)) t = .told b → b.length ≤ 1000000 := fun b hb => by
      have := k0_len hb
      trivial
    generalize k0 (zs.map (·.2)) t = r at kdF hnp hbl
    cases r with
    | nc =>
      have h' : Hf D = some (.lst [.bl true, .bl false, .bl true, .bl false]) := kdF
      refine ⟨_, rfl, D, _, _, _, rfl, rfl, SqL.of h', rfl, rfl, _, rfl, ?_⟩
      refine iteF ?_
      refine ⟨_, rfl, _, rfl, _, rfl, (by show 2 ≤ sizeLine; decide), fun d2 hd2 => ⟨_, _, (dps _ scf d2 hd2).1, (dps _ scf d2 hd2).2, ht_hd _ _, fin _ scf d2 hd2⟩⟩
    | br =>
      have h' : Hf D = some (.lst [.bl false, .bl true, .bl true, .bl false]) := kdF
      refine ⟨_, rfl, D, _, _, _, rfl, rfl, SqL.of h', rfl, rfl, _, rfl, ?_⟩
      refine iteF ?_
      refine ⟨_, rfl, _, rfl, _, rfl, (by show 2 ≤ sizeLine; decide), fun d2 hd2 => ⟨_, _, (dps _ scf d2 hd2).1, (dps _ scf d2 hd2).2, ht_hd _ _, fin _ scf d2 hd2⟩⟩
    | pair t e => exact absurd rfl (hnp t e)
    | told b =>
      obtain ⟨x, e1, e2, e3⟩ := kdF
      refine ⟨_, rfl, D, _, _, _, rfl, rfl, SqL.of e1, rfl, rfl, _, rfl, ?_⟩
      refine iteT ?_
      refine ⟨_, rfl, D, _, _, _, rfl, rfl, SqL.of e1, rfl, .inl ⟨rfl, _, SqL.of e2⟩, x, _, _, rfl, rfl, e2, fits_lt (by rw [List.length_map]; exact hbl b rfl), ?_⟩
      have sx := same_upd scf (.lst (b.map V.int ++ [V.int 1])) e3
      refine ⟨_, rfl, _, rfl, _, rfl, (by show 2 ≤ sizeLine; decide), fun d2 hd2 => ⟨_, _, (dps _ sx d2 hd2).1, (dps _ sx d2 hd2).2, ht_hd _ _, fin _ sx d2 hd2⟩⟩
end
end K10
set_option Elab.async false
set_option linter.all false
set_option maxRecDepth 100000
set_option maxHeartbeats 4000000
namespace K10
open PySem L2 PySem.W PH
section
variable {P : Program} {w : World} {K : PySem.W.Frag} {mg : Str → Option Value} {base : Heap}
theorem sc_allr : FnScope ["ahead", "bits", "drawn", "lengths", "whole", "signs", "long", "many", "at"] ["ahead", "bits", "drawn", "lengths", "whole", "signs"] (defScope s_allr) := ⟨rfl, rfl, rfl, by decide +kernel, rfl, by decide +kernel, by decide +kernel⟩
theorem ok_allr {f f_readr : Addr} {fd d_readr : FuncData} (F : Fun K "_law_all_read" "_law_all_read" s_allr f fd) (B : Bls mg) 
    (G_readr : FnOk P w K mg base (CXW P w) 6 f_readr d_readr ["bits", "at", "lengths", "many"] (spReadR)) (b_readr : Binds K d_readr ["bits", "at", "lengths", "many"] []) (k_readr : keepIn K (.ref f_readr) = true) (m_readr : mg "_law_read_right" = some (.ref f_readr)) : FnOk P w K mg base (CXW P w) 7 f fd ["ahead", "bits", "drawn", "lengths", "whole", "signs"] (spAllR) := by
  refine F.okN sc_allr (fun vs H Q E h => ?_) (fun cdv A outer s H vs Q E hr h => ?_)
  · obtain ⟨Ah, Bi, Dr, p, w, S, ahead, bits, drawn, signs, zs, ws, rfl, _⟩ := h
    rfl
  · obtain ⟨Ah, Bi, Dr, p, w, S, ahead, bits, drawn, signs, zs, ws, rfl, hA, hB, hD, hS, hal, hbl, hdl0, hsl, pr, hzl, hri, prw, hwl, hrw, hQ⟩ := h
    refine ⟨_, (pss_cons (ps_set (i := 6) sc_allr.nd rfl (Or.inl rfl) (pe_op op_cat (pe_op op_cat (pv 0) (pv 1)) (pe_slice sl_list (pv 2) (po_some pe_int) (po_some pe_int))))
      (pss_cons (ps_for PassesOwn.never rfl (pi_list (pe_lst (pa_cons pe_int (pa_cons pe_int (pa_cons (pe_op op_fdiv (pe_callB call_len_seq rfl B.len PySem.boot_len (pa_cons (pv 5) pa_nil)) pe_int) (pa_cons (pe_callB call_len_seq rfl B.len PySem.boot_len (pa_cons (pv 5) pa_nil)) (pa_cons (pe_op op_add (pe_callB call_len_seq rfl B.len PySem.boot_len (pa_cons (pv 5) pa_nil)) pe_int) (pa_cons (pe_op op_add (pe_callB call_len_seq rfl B.len PySem.boot_len (pa_cons (pv 5) pa_nil)) pe_int) pa_nil)))))))) (pg_name (i := 7) sc_allr.nd rfl (Or.inl rfl))
        (pss_cons (ps_if (pt_not (pt_val (pe_call G_readr hr rfl m_readr k_readr b_readr .nil passN (pa_cons (pv 6) (pa_cons (pe_callB call_len_seq rfl B.len PySem.boot_len (pa_cons (pv 0) pa_nil)) (pa_cons (pv 3) (pa_cons (pv 7) pa_nil)))))))
          (pss_one (ps_ret pe_bl))
          pss_nil)
        (pss_cons (ps_if (pt_not (pt_val (pe_call G_readr hr rfl m_readr k_readr b_readr .nil passN (pa_cons (pe_op op_cat (pv 0) (pv 1)) (pa_cons (pe_callB call_len_seq rfl B.len PySem.boot_len (pa_cons (pv 0) pa_nil)) (pa_cons (pv 3) (pa_cons (pv 7) pa_nil)))))))
          (pss_one (ps_ret pe_bl))
          pss_nil)
        (pss_cons (ps_if (pt_not (pt_val (pe_call G_readr hr rfl m_readr k_readr b_readr .nil passN (pa_cons (pv 2) (pa_cons (pe_callB call_len_seq rfl B.len PySem.boot_len (pa_cons (pv 0) pa_nil)) (pa_cons (pv 3) (pa_cons (pe_op op_fdiv (pv 7) pe_int) pa_nil)))))))
          (pss_one (ps_ret pe_bl))
          pss_nil)
        (pss_one (ps_if (pt_not (pt_val (pe_call G_readr hr rfl m_readr k_readr b_readr .nil passN (pa_cons (pv 6) (pa_cons pe_int (pa_cons (pv 4) (pa_cons (pv 7) pa_nil)))))))
          (pss_one (ps_ret pe_bl))
          pss_nil))))))
      (pss_cons (ps_for PassesOwn.never rfl (pi_list (pe_lst (pa_cons (pe_un un_neg pe_int) (pa_cons (pe_op op_sub (pe_un un_neg pe_int) (pe_callB call_len_seq rfl B.len PySem.boot_len (pa_cons (pv 6) pa_nil))) (pa_cons (pe_callB call_len_seq rfl B.len PySem.boot_len (pa_cons (pv 6) pa_nil)) (pa_cons (pe_op op_add (pe_callB call_len_seq rfl B.len PySem.boot_len (pa_cons (pv 6) pa_nil)) pe_int) (pa_cons (pe_op op_add (pe_op op_add (pe_callB call_len_seq rfl B.len PySem.boot_len (pa_cons (pv 6) pa_nil)) pe_int) (pe_callB call_len_seq rfl B.len PySem.boot_len (pa_cons (pv 2) pa_nil))) pa_nil))))))) (pg_name (i := 8) sc_allr.nd rfl (Or.inl rfl))
        (pss_one (ps_for PassesOwn.never rfl (pi_list (pe_lst (pa_cons pe_int (pa_cons pe_int (pa_cons pe_int pa_nil))))) (pg_name (i := 7) sc_allr.nd rfl (Or.inl rfl))
          (pss_one (ps_if (PW.pt (pw_or (pt_not (pt_val (pe_call G_readr hr rfl m_readr k_readr b_readr .nil passN (pa_cons (pv 6) (pa_cons (pv 8) (pa_cons (pv 3) (pa_cons (pv 7) pa_nil))))))) (pw_or1 (pt_not (pt_val (pe_call G_readr hr rfl m_readr k_readr b_readr .nil passN (pa_cons (pv 6) (pa_cons (pv 8) (pa_cons (pe_lst pa_nil) (pa_cons (pv 7) pa_nil))))))))))
            (pss_one (ps_ret pe_bl))
            pss_nil)))))
      (pss_one (ps_ret pe_bl))))), ?_⟩
    refine ⟨_, rfl, _, rfl, Ah, Bi, _, _, rfl, rfl, hA, hB, fits (by rw [List.length_map, List.length_map]; trivial), fun l1 hl1 => ?_⟩
    rw [show (.lst (ahead.map V.int ++ bits.map V.int) : HO) = lsI (ahead ++ bits) from lsI_app _ _]
    have s1 := same_new hl1 (lsI (ahead ++ bits))
    have e1 : upd H l1 (lsI (ahead ++ bits)) l1 = some (lsI (ahead ++ bits)) := upd_same
    generalize upd H l1 (lsI (ahead ++ bits)) = H1 at s1 e1 ⊢
    refine ⟨_, rfl, _, rfl, _, rfl, Dr, _, rfl, SqL.of (s1 _ _ hD), fun l2 hl2 => ?_⟩
    rw [show cutV (drawn.map V.int) (some 9) (some 20) = ((drawn.drop 9).take 11).map V.int from cut_two drawn 9 20]
    have s2 := same_new hl2 (lsI ((drawn.drop 9).take 11))
    have e2 : upd H1 l2 (lsI ((drawn.drop 9).take 11)) l2 = some (lsI ((drawn.drop 9).take 11)) := upd_same
    have hdl : ((drawn.drop 9).take 11).length ≤ 11 := by rw [List.length_take]; trivial
    generalize (drawn.drop 9).take 11 = dr at s2 e2 hdl ⊢
    rw [show (HO.lst (dr.map V.int)) = lsI dr from rfl]
    generalize upd H1 l2 (lsI dr) = H2 at s2 e2 ⊢
    refine ⟨l1, l2, _, _, rfl, rfl, s2 _ _ e1, e2, fits (by rw [List.length_map, List.length_map, List.length_append]; trivial), fun Lg hLg => ?_⟩
    rw [show (.lst ((ahead ++ bits).map V.int ++ dr.map V.int) : HO) = lsI (ahead ++ bits ++ dr) from lsI_app _ _]
    have s3 := same_new hLg (lsI (ahead ++ bits ++ dr))
    have e3 : upd H2 Lg (lsI (ahead ++ bits ++ dr)) Lg = some (lsI (ahead ++ bits ++ dr)) := upd_same
    generalize upd H2 Lg (lsI (ahead ++ bits ++ dr)) = H3 at s3 e3 ⊢
    have sH := s1.trans (s2.trans s3)
    have hLl : (ahead ++ bits ++ dr).length ≤ 62011 := by rw [List.length_append, List.length_append]; trivial
    have hABl : (ahead ++ bits).length ≤ 61000 := by rw [List.length_append]; trivial
    generalize ahead ++ bits ++ dr = long at e3 hLl ⊢
    have hA3 := sH _ _ hA
    have hB3 := sH _ _ hB
    have hD3 := sH _ _ hD
    have hS3 := sH _ _ hS
    have pr3 := pr.same sH
    have prw3 := prw.same sH
    refine gN (σ' := [some (.ref Ah), some (.ref Bi), some (.ref Dr), some (.ref p), some (.ref w), some (.ref S), some (.ref Lg), none, none]) rfl ?_
    with_reducible refine seq_cut (fun σ' H' => ∃ v7 : Option V, σ' = [some (.ref Ah), some (.ref Bi), some (.ref Dr), some (.ref p), some (.ref w), some (.ref S), some (.ref Lg), v7, none] ∧ Same H3 H') (fun nx hnx => ?_) ?_
    · refine ⟨_, rfl, S, _, rfl, .inl (SqL.of hS3), _, _, rfl, rfl, ⟨by decide, by decide⟩, _, rfl, S, _, rfl, .inl (SqL.of hS3), _, rfl, S, _, rfl, .inl (SqL.of hS3), _, _, rfl, rfl, _, rfl, S, _, rfl, .inl (SqL.of hS3), _, _, rfl, rfl, (by show 6 ≤ sizeLine; decide), fun M hM => ?_⟩
      rw [List.length_map]
      have sM := same_new hM (.lst [V.int 0, .int 1, .int ((signs.length : Int) / 2), .int (signs.length : Int), .int ((signs.length : Int) + 1), .int ((signs.length : Int) + 2)])
      have eM : upd H3 M (.lst [V.int 0, .int 1, .int ((signs.length : Int) / 2), .int (signs.length : Int), .int ((signs.length : Int) + 1), .int ((signs.length : Int) + 2)]) M = some (.lst [V.int 0, .int 1, .int ((signs.length : Int) / 2), .int (signs.length : Int), .int ((signs.length : Int) + 1), .int ((signs.length : Int) + 2)]) := upd_same
      have hms : ∀ x ∈ [V.int 0, .int 1, .int ((signs.length : Int) / 2), .int (signs.length : Int), .int ((signs.length : Int) + 1), .int ((signs.length : Int) + 2)], ∃ n : Nat, x = .int (n : Int) ∧ n ≤ 1002 := by
        intro x hx
        simp only [List.mem_cons, List.not_mem_nil, or_false] at hx
        rcases hx with rfl | rfl | rfl | rfl | rfl | rfl
        · exact ⟨0, rfl, by trivial⟩
        · exact ⟨1, rfl, by trivial⟩
        · exact ⟨signs.length / 2, congrArg V.int (by trivial), by trivial⟩
        · exact ⟨signs.length, rfl, by trivial⟩
        · exact ⟨signs.length + 1, congrArg V.int (by trivial), by trivial⟩
        · exact ⟨signs.length + 2, congrArg V.int (by trivial), by trivial⟩
      generalize hmv : [V.int 0, .int 1, .int ((signs.length : Int) / 2), .int (signs.length : Int), .int ((signs.length : Int) + 1), .int ((signs.length : Int) + 2)] = ms at sM eM hms
      generalize upd H3 M (.lst ms) = H4 at sM eM ⊢
      refine ⟨M, rfl, ⟨_, SqL.of eM⟩, for_list (K := K) (a := M) (xs := ms) (fun i σ H' => ∃ v7 : Option V, σ = [some (.ref Ah), some (.ref Bi), some (.ref Dr), some (.ref p), some (.ref w), some (.ref S), some (.ref Lg), v7, none] ∧ Same H4 H') ⟨none, rfl, Same.refl _⟩ (fun i σ H' _ ⟨_, _, e⟩ => SqL.of (e _ _ eM)) ?_ ?_⟩
      · rintro i y σ H5 hi ⟨v7, rfl, sm⟩
        obtain ⟨n, rfl, hn⟩ := hms y (List.mem_of_getElem? hi)
        have s5 := sM.trans sm
        refine ⟨_, rfl, _, rfl, Ah, _, rfl, .inl (SqL.of (s5 _ _ hA3)), _, rfl, _, rfl, Lg, p, long, _, n, zs, rfl, s5 _ _ e3, (by trivial), (by trivial), pr3.same s5, hzl, hri, fun H6 s6 => ⟨_, rfl, ?_⟩⟩
        refine iteF ?_
        have s6' := s5.trans s6
        refine ⟨_, rfl, _, rfl, Ah, Bi, _, _, rfl, rfl, s6' _ _ hA3, s6' _ _ hB3, fits (by rw [List.length_map, List.length_map]; trivial), fun q1 hq1 => ?_⟩
        rw [show (.lst (ahead.map V.int ++ bits.map V.int) : HO) = lsI (ahead ++ bits) from lsI_app _ _]
        have s7 := s6'.trans (same_new hq1 (lsI (ahead ++ bits)))
        have e7 : upd H6 q1 (lsI (ahead ++ bits)) q1 = some (lsI (ahead ++ bits)) := upd_same
        have s67 := same_new hq1 (lsI (ahead ++ bits))
        generalize upd H6 q1 (lsI (ahead ++ bits)) = H7 at s7 e7 s67 ⊢
        refine ⟨_, rfl, Ah, _, rfl, .inl (SqL.of (s7 _ _ hA3)), _, rfl, _, rfl, q1, p, ahead ++ bits, _, n, zs, rfl, e7, (by trivial), (by trivial), pr3.same s7, hzl, hri, fun H8 s8 => ⟨_, rfl, ?_⟩⟩
        refine iteF ?_
        have s8' := s7.trans s8
        refine ⟨_, rfl, _, rfl, Ah, _, rfl, .inl (SqL.of (s8' _ _ hA3)), _, rfl, _, rfl, _, _, rfl, rfl, ⟨by decide, by decide⟩, Dr, p, drawn, ((ahead.map V.int).length : Int), n / 3, zs, ?_, s8' _ _ hD3, (by trivial), (by trivial), pr3.same s8', hzl, hri, fun H9 s9 => ⟨_, rfl, ?_⟩⟩
        · show [V.ref Dr, V.int ((ahead.map V.int).length : Int), V.ref p, V.int ((n : Int) / 3)] = [V.ref Dr, V.int ((ahead.map V.int).length : Int), V.ref p, V.int ((n / 3 : Nat) : Int)]
          rw [show (n : Int) / 3 = ((n / 3 : Nat) : Int) by trivial]
        refine iteF ?_
        have s9' := s8'.trans s9
        refine ⟨_, rfl, _, rfl, _, rfl, Lg, w, long, 0, n, ws, rfl, s9' _ _ e3, (by trivial), (by trivial), prw3.same s9', hwl, hrw, fun HA sA => ⟨_, rfl, ?_⟩⟩
        refine iteF ?_
        exact ⟨_, rfl, sm.trans (s6.trans (s67.trans (s8.trans (s9.trans sA))))⟩
      · rintro σ H5 ⟨v7, rfl, sm⟩
        exact hnx _ _ ⟨v7, rfl, sM.trans sm⟩
    rintro σ' H4 ⟨v7, rfl, s4⟩
    have e4 := s4 _ _ e3
    refine ⟨_, rfl, _, rfl, _, rfl, Lg, _, rfl, .inl (SqL.of e4), _, _, rfl, rfl, _, rfl, Lg, _, rfl, .inl (SqL.of e4), _, rfl, Lg, _, rfl, .inl (SqL.of e4), _, _, rfl, rfl, _, rfl, Lg, _, rfl, .inl (SqL.of e4), _, _, rfl, rfl, _, rfl, Dr, _, rfl, .inl (SqL.of (s4 _ _ hD3)), _, _, rfl, rfl, (by show 5 ≤ sizeLine; decide), fun M hM => ?_⟩
    have sM := same_new hM (.lst [V.int (-1), .int (-1 - ((long.map V.int).length : Int)), .int ((long.map V.int).length : Int), .int (((long.map V.int).length : Int) + 1), .int (((long.map V.int).length : Int) + 2 + ((drawn.map V.int).length : Int))])
    have eM : upd H4 M (.lst [V.int (-1), .int (-1 - ((long.map V.int).length : Int)), .int ((long.map V.int).length : Int), .int (((long.map V.int).length : Int) + 1), .int (((long.map V.int).length : Int) + 2 + ((drawn.map V.int).length : Int))]) M = some (.lst ([-1, -1 - ((long.map V.int).length : Int), ((long.map V.int).length : Int), ((long.map V.int).length : Int) + 1, ((long.map V.int).length : Int) + 2 + ((drawn.map V.int).length : Int)].map V.int)) := upd_same
    generalize [-1, -1 - ((long.map V.int).length : Int), ((long.map V.int).length : Int), ((long.map V.int).length : Int) + 1, ((long.map V.int).length : Int) + 2 + ((drawn.map V.int).length : Int)] = ats at eM
    refine ⟨M, rfl, ⟨_, SqL.of eM⟩, for_list (K := K) (a := M) (xs := ats.map V.int) (fun i σ H' => ∃ v7 v8 : Option V, σ = [some (.ref Ah), some (.ref Bi), some (.ref Dr), some (.ref p), some (.ref w), some (.ref S), some (.ref Lg), v7, v8] ∧ Same H4 H' ∧ H' M = some (.lst (ats.map V.int))) ⟨v7, none, rfl, sM, eM⟩ (fun i σ H' _ ⟨_, _, _, _, e⟩ => SqL.of e) ?_ ?_⟩
    · rintro i y σ H5 hi ⟨v7, v8, rfl, sm, eM5⟩
      obtain ⟨at_, rfl, _⟩ := int_at hi
      refine ⟨(by show 3 ≤ sizeLine; decide), fun N hN => ?_⟩
      have sN := same_new hN (.lst [V.int 0, .int 1, .int 3])
      have eN : upd H5 N (.lst [V.int 0, .int 1, .int 3]) N = some (.lst [V.int 0, .int 1, .int 3]) := upd_same
      generalize upd H5 N (.lst [V.int 0, .int 1, .int 3]) = H6 at sN eN ⊢
      refine ⟨N, rfl, ⟨_, SqL.of eN⟩, for_list (K := K) (a := N) (xs := [V.int 0, .int 1, .int 3]) (fun i σ H' => ∃ v7 : Option V, σ = [some (.ref Ah), some (.ref Bi), some (.ref Dr), some (.ref p), some (.ref w), some (.ref S), some (.ref Lg), v7, some (.int at_)] ∧ Same H6 H') ⟨v7, rfl, Same.refl _⟩ (fun i σ H' _ ⟨_, _, e⟩ => SqL.of (e _ _ eN)) ?_ ?_⟩
      · rintro j x σ H7 hj ⟨v7, rfl, sm7⟩
        obtain ⟨n, rfl, hn⟩ : ∃ n : Nat, x = .int (n : Int) ∧ n ≤ 3 := by
          have := List.mem_of_getElem? hj
          simp only [List.mem_cons, List.not_mem_nil, or_false] at this
          rcases this with rfl | rfl | rfl
          · exact ⟨0, rfl, by trivial⟩
          · exact ⟨1, rfl, by trivial⟩
          · exact ⟨3, rfl, by trivial⟩
        have s7 := s4.trans (sm.trans (sN.trans sm7))
        refine ⟨_, rfl, _, rfl, _, rfl, _, rfl, Lg, p, long, at_, n, zs, rfl, s7 _ _ e3, (by trivial), (by trivial), pr3.same s7, hzl, hri, fun H8 s8 => ⟨_, rfl, ?_⟩⟩
        refine iteF ?_
        have s8' := s7.trans s8
        refine ⟨_, rfl, _, rfl, (by show 0 ≤ sizeLine; decide), fun z0 hz0 => ?_⟩
        have s9 := s8'.trans (same_new hz0 (.lst []))
        have ez : upd H8 z0 (.lst []) z0 = some (.lst []) := upd_same
        have s79 := s8.trans (same_new hz0 (.lst []))
        generalize upd H8 z0 (.lst []) = H9 at s9 ez s79 ⊢
        refine ⟨_, rfl, Lg, z0, long, at_, n, [], rfl, s9 _ _ e3, (by trivial), (by trivial), Prs.nil ez, (by show 0 ≤ 300; decide), RiseC.nil, fun HA sA => ⟨_, rfl, ?_⟩⟩
        refine iteF ?_
        exact ⟨_, rfl, sm7.trans (s79.trans sA)⟩
      · rintro σ H7 ⟨v7, rfl, sm7⟩
        exact ⟨_, _, rfl, sm.trans (sN.trans sm7), (sN.trans sm7) _ _ eM5⟩
    · rintro σ H5 ⟨v7, v8, rfl, sm, eM5⟩
      exact hQ _ (sH.trans (s4.trans sm))
end
end K10
set_option Elab.async false
set_option linter.all false
set_option maxRecDepth 100000
set_option maxHeartbeats 4000000
namespace K10
open PySem L2 PySem.W PH
section
variable {P : Program} {w : World} {K : PySem.W.Frag} {mg : Str → Option Value} {base : Heap}
theorem sc_law : FnScope ["script", "decks", "lengths", "whole", "text", "drawn", "deck", "signs", "strangers", "turn", "at", "row", "some", "ahead"] ["script"] (defScope s_law) := ⟨rfl, rfl, rfl, by decide +kernel, rfl, by decide +kernel, by decide +kernel⟩
theorem ok_law {f c_Broken c_NoCode f_coded f_decoded f_draw f_decks f_drawn f_bits f_let f_lcoded f_codedr f_allr : Addr} {fd d_coded d_decoded d_draw d_decks d_drawn d_bits d_let d_lcoded d_codedr d_allr : FuncData} (F : Fun K "law" "law" s_law f fd) (B : Bls mg) 
    (G_coded : FnOk P w K mg base (CXW P w) 4 f_coded d_coded ["text", "lengths"] (spCoded c_NoCode)) (b_coded : Binds K d_coded ["text", "lengths"] []) (k_coded : keepIn K (.ref f_coded) = true) (m_coded : mg "coded" = some (.ref f_coded)) 
    (G_decoded : FnOk P w K mg base (CXW P w) 4 f_decoded d_decoded ["bits", "at", "lengths", "many"] (spDecoded c_NoCode c_Broken)) (b_decoded : Binds K d_decoded ["bits", "at", "lengths", "many"] []) (k_decoded : keepIn K (.ref f_decoded) = true) (m_decoded : mg "decoded" = some (.ref f_decoded)) 
    (G_draw : FnOk P w K mg base (CXW P w) 1 f_draw d_draw ["deck", "many"] (spDraw)) (b_draw : Binds K d_draw ["deck", "many"] []) (k_draw : keepIn K (.ref f_draw) = true) (m_draw : mg "_law_draw" = some (.ref f_draw)) 
    (G_decks : FnOk P w K mg base (CXW P w) 1 f_decks d_decks ["script"] (spDecks K)) (b_decks : Binds K d_decks ["script"] []) (k_decks : keepIn K (.ref f_decks) = true) (m_decks : mg "_law_decks" = some (.ref f_decks)) 
    (G_drawn : FnOk P w K mg base (CXW P w) 2 f_drawn d_drawn ["script", "most"] (spDrawn10 K)) (b_drawn : Binds K d_drawn ["script", "most"] []) (k_drawn : keepIn K (.ref f_drawn) = true) (m_drawn : mg "_law_drawn_lengths" = some (.ref f_drawn)) 
    (G_bits : FnOk P w K mg base (CXW P w) 2 f_bits d_bits ["deck", "most"] (spBits)) (b_bits : Binds K d_bits ["deck", "most"] []) (k_bits : keepIn K (.ref f_bits) = true) (m_bits : mg "_law_bits" = some (.ref f_bits)) 
    (G_let : FnOk P w K mg base (CXW P w) 1 f_let d_let ["lengths"] (spLet)) (b_let : Binds K d_let ["lengths"] []) (k_let : keepIn K (.ref f_let) = true) (m_let : mg "_law_let" = some (.ref f_let)) 
    (G_lcoded : FnOk P w K mg base (CXW P w) 2 f_lcoded d_lcoded ["text", "lengths"] (spLCoded)) (b_lcoded : Binds K d_lcoded ["text", "lengths"] []) (k_lcoded : keepIn K (.ref f_lcoded) = true) (m_lcoded : mg "_law_coded" = some (.ref f_lcoded)) 
    (G_codedr : FnOk P w K mg base (CXW P w) 6 f_codedr d_codedr ["row", "some"] (spCodedR)) (b_codedr : Binds K d_codedr ["row", "some"] []) (k_codedr : keepIn K (.ref f_codedr) = true) (m_codedr : mg "_law_coded_right" = some (.ref f_codedr)) 
    (G_allr : FnOk P w K mg base (CXW P w) 7 f_allr d_allr ["ahead", "bits", "drawn", "lengths", "whole", "signs"] (spAllR)) (b_allr : Binds K d_allr ["ahead", "bits", "drawn", "lengths", "whole", "signs"] []) (k_allr : keepIn K (.ref f_allr) = true) (m_allr : mg "_law_all_read" = some (.ref f_allr)) : FnOk P w K mg base (CXW P w) 8 f fd ["script"] (spLaw K) := by
  refine F.okN sc_law (fun vs H Q E h => ?_) (fun cdv A outer s H vs Q E hr h => ?_)
  · obtain ⟨a, ns, rfl, _⟩ := h
    rfl
  · obtain ⟨a, ns, rfl, hS, h63, q⟩ := h
    refine ⟨_, (pss_cons (ps_set (i := 1) sc_law.nd rfl (Or.inl rfl) (pe_call G_decks (hr.mono (show 1 ≤ 7 by decide)) rfl m_decks k_decks b_decks .nil passN (pa_cons (pv 0) pa_nil)))
      (pss_cons (ps_set (i := 2) sc_law.nd rfl (Or.inr rfl) (pe_call G_drawn (hr.mono (show 2 ≤ 7 by decide)) rfl m_drawn k_drawn b_drawn .nil passN (pa_cons (pv 0) (pa_cons pe_int pa_nil))))
      (pss_cons (ps_set (i := 3) sc_law.nd rfl (Or.inr rfl) (pe_callTy call_list_of rfl B.list boot_list' (pa_cons (pv 2) pa_nil)))
      (pss_cons (ps_while PassesOwn.never (pt_not (pt_val (pe_call G_let (hr.mono (show 1 ≤ 7 by decide)) rfl m_let k_let b_let .nil passN (pa_cons (pv 2) pa_nil))))
        (pss_one (ps_set (i := 2) sc_law.nd rfl (Or.inr rfl) (pe_slice sl_list (pv 2) po_none (po_some (pe_un un_neg pe_int))))))
      (pss_cons (ps_set (i := 4) sc_law.nd rfl (Or.inl rfl) (pe_lst pa_nil))
      (pss_cons (ps_set (i := 5) sc_law.nd rfl (Or.inl rfl) (pe_lst pa_nil))
      (pss_cons (ps_for PassesOwn.never rfl (pi_list (pv 1)) (pg_name (i := 6) sc_law.nd rfl (Or.inr rfl))
        (pss_cons (ps_set (i := 4) sc_law.nd rfl (Or.inl rfl) (pe_op op_cat (pv 4) (pe_comp (N := ["k", "whole", "deck", "lengths"]) (js := [none, some 3, some 6, some 2]) (g := (gName 0)) (tc := tTrue) (te := (tOp (rIxT K) (tOp (rIxL K) (tVar 1) (tCall (spDraw) [] E0 (tCons (tVar 2) (tCons (tCB rMax2 (tCons (tC (.int 1)) (tCons (tCB (rLen K) (tCons (tVar 3) tNil)) tNil))) tNil)))) (tC (.int 0)))) rfl (comp_scope (osc := defScope s_law) (XN := ["script", "decks", "lengths", "whole", "text", "drawn", "deck", "signs", "strangers", "turn", "at", "row", "some", "ahead"]) rfl rfl rfl (by decide +kernel)) (pi_range1 rfl B.range (pa_cons (pe_op op_add pe_int (pe_call G_draw (hr.mono (show 1 ≤ 7 by decide)) rfl m_draw k_draw b_draw .nil passN (pa_cons (pv 6) (pa_cons pe_int pa_nil)))) pa_nil)) (fun _ _ _ _ => pg_name (i := 0) (show (["k", "whole", "deck", "lengths"] : List Str).Nodup by decide +kernel) rfl (Or.inl rfl)) (fun _ _ _ _ => pif_nil) (fun _ _ _ _ => (pe_ix ix_tup (pe_ix ix_list (pv 1) (pe_call G_draw (hr.mono (show 1 ≤ 7 by decide)) rfl m_draw k_draw b_draw .nil passN (pa_cons (pv 2) (pa_cons (pe_callB (call_max2 rfl) rfl B.max boot_max' (pa_cons pe_int (pa_cons (pe_callB call_len_seq rfl B.len PySem.boot_len (pa_cons (pv 3) pa_nil)) pa_nil))) pa_nil))) (fun _ _ => rfl)) pe_int (fun _ _ => rfl))))))
        (pss_one (ps_set (i := 5) sc_law.nd rfl (Or.inl rfl) (pe_op op_cat (pv 5) (pe_call G_bits (hr.mono (show 2 ≤ 7 by decide)) rfl m_bits k_bits b_bits .nil passN (pa_cons (pv 6) (pa_cons pe_int pa_nil))))))))
      (pss_cons (ps_if (pt_cmpR op_gt (pe_callB (call_maxL rfl) rfl B.max boot_max' (pa_cons (pe_op op_cat (pe_lst (pa_cons pe_int pa_nil)) (pe_comp (N := ["sign", "length"]) (js := [none, none]) (g := (gTup K 2 (gCons (gName 0) (gCons (gName 1) gNil)))) (tc := tTrue) (te := (tVar 1)) rfl (comp_scope (osc := defScope s_law) (XN := ["script", "decks", "lengths", "whole", "text", "drawn", "deck", "signs", "strangers", "turn", "at", "row", "some", "ahead"]) rfl rfl rfl (by decide +kernel)) (pi_list (pv 2)) (fun _ _ _ _ => pg_tup rfl (pgs_cons (pg_name (i := 0) (show (["sign", "length"] : List Str).Nodup by decide +kernel) rfl (Or.inl rfl)) (pgs_cons (pg_name (i := 1) (show (["sign", "length"] : List Str).Nodup by decide +kernel) rfl (Or.inl rfl)) pgs_nil))) (fun _ _ _ _ => pif_nil) (fun _ _ _ _ => (pv 1)))) pa_nil)) pe_int (nomark _))
        (pss_one (ps_set (i := 4) sc_law.nd rfl (Or.inl rfl) (pe_slice sl_list (pv 4) po_none (po_some pe_int))))
        pss_nil)
      (pss_cons (ps_setC (iy := 7) (N := ["sign", "lengths"]) (js := [none, some 2]) (g := (gName 0)) (tc := (tB (tDIn (tVar 0) (tCB (rDictP K) (tCons (tVar 1) tNil))))) (te := (tVar 0)) sc_law.nd rfl rfl rfl (comp_scope (osc := defScope s_law) (XN := ["script", "decks", "lengths", "whole", "text", "drawn", "deck", "signs", "strangers", "turn", "at", "row", "some", "ahead"]) rfl rfl rfl (by decide +kernel)) (pi_list (pv 4)) (fun _ _ _ _ => pg_name (i := 0) (show (["sign", "lengths"] : List Str).Nodup by decide +kernel) rfl (Or.inl rfl)) (fun _ _ _ _ => (pif_one (pt_cmp (pc_din (hu_of hr) (pv 0) (pe_callTy (call_dictP rfl) rfl B.dict boot_dictP (pa_cons (pv 1) pa_nil)))))) (fun _ _ _ _ => (pv 0)))
      (pss_cons (ps_setC (iy := 8) (N := ["sign", "whole"]) (js := [none, some 3]) (g := (gName 0)) (tc := (tB (tDNotIn (tVar 0) (tCB (rDictP K) (tCons (tVar 1) tNil))))) (te := (tVar 0)) sc_law.nd rfl rfl rfl (comp_scope (osc := defScope s_law) (XN := ["script", "decks", "lengths", "whole", "text", "drawn", "deck", "signs", "strangers", "turn", "at", "row", "some", "ahead"]) rfl rfl rfl (by decide +kernel)) (pi_range1 rfl B.range (pa_cons pe_int pa_nil)) (fun _ _ _ _ => pg_name (i := 0) (show (["sign", "whole"] : List Str).Nodup by decide +kernel) rfl (Or.inl rfl)) (fun _ _ _ _ => (pif_one (pt_cmp (pc_dnotin (hu_of hr) (pv 0) (pe_callTy (call_dictP rfl) rfl B.dict boot_dictP (pa_cons (pv 1) pa_nil)))))) (fun _ _ _ _ => (pv 0)))
      (pss_cons (ps_for PassesOwn.never rfl (pi_range1 rfl B.range (pa_cons (pe_call G_draw (hr.mono (show 1 ≤ 7 by decide)) rfl m_draw k_draw b_draw .nil passN (pa_cons (pe_ix ix_list (pv 1) pe_int (fun _ _ => rfl)) (pa_cons pe_int pa_nil))) pa_nil)) (pg_name (i := 9) sc_law.nd rfl (Or.inl rfl))
        (pss_cons (ps_set (i := 10) sc_law.nd rfl (Or.inl rfl) (pe_call G_draw (hr.mono (show 1 ≤ 7 by decide)) rfl m_draw k_draw b_draw .nil passN (pa_cons (pe_ix ix_list (pv 1) pe_int (fun _ _ => rfl)) (pa_cons (pe_op op_add (pe_callB call_len_seq rfl B.len PySem.boot_len (pa_cons (pv 4) pa_nil)) pe_int) pa_nil))))
        (pss_one (ps_set (i := 4) sc_law.nd rfl (Or.inl rfl) (pe_op op_cat (pe_op op_cat (pe_slice sl_list (pv 4) po_none (po_some (pv 10))) (pe_lst (pa_cons (pe_ix ix_list (pv 8) (pe_call G_draw (hr.mono (show 1 ≤ 7 by decide)) rfl m_draw k_draw b_draw .nil passN (pa_cons (pe_ix ix_list (pv 1) pe_int (fun _ _ => rfl)) (pa_cons (pe_callB call_len_seq rfl B.len PySem.boot_len (pa_cons (pv 8) pa_nil)) pa_nil))) (fun _ _ => rfl)) pa_nil))) (pe_slice sl_list (pv 4) (po_some (pv 10)) po_none))))))
      (pss_cons (ps_for PassesOwn.never rfl (pi_list (pe_lst (pa_cons (pe_tup (pa_cons (pv 4) (pa_cons (pv 2) pa_nil))) (pa_cons (pe_tup (pa_cons (pv 4) (pa_cons (pv 3) pa_nil))) (pa_cons (pe_tup (pa_cons (pv 7) (pa_cons (pv 2) pa_nil))) (pa_cons (pe_tup (pa_cons (pe_lst pa_nil) (pa_cons (pv 3) pa_nil))) (pa_cons (pe_tup (pa_cons (pe_lst pa_nil) (pa_cons (pe_lst pa_nil) pa_nil))) pa_nil))))))) (pg_tup rfl (pgs_cons (pg_name (i := 11) sc_law.nd rfl (Or.inl rfl)) (pgs_cons (pg_name (i := 12) sc_law.nd rfl (Or.inl rfl)) pgs_nil)))
        (pss_one (ps_if (pt_not (pt_val (pe_call G_codedr (hr.mono (show 6 ≤ 7 by decide)) rfl m_codedr k_codedr b_codedr .nil passN (pa_cons (pv 11) (pa_cons (pv 12) pa_nil)))))
          (pss_one (ps_ret pe_bl))
          pss_nil)))
      (pss_cons (ps_set (i := 13) sc_law.nd rfl (Or.inl rfl) (pe_slice sl_list (pv 5) po_none (po_some pe_int)))
      (pss_cons (ps_if (pt_not (pt_val (pe_call G_allr hr rfl m_allr k_allr b_allr .nil passN (pa_cons (pv 13) (pa_cons (pe_ix ix_list (pe_call G_lcoded (hr.mono (show 2 ≤ 7 by decide)) rfl m_lcoded k_lcoded b_lcoded .nil passN (pa_cons (pv 7) (pa_cons (pv 2) pa_nil))) pe_int (fun _ _ => rfl)) (pa_cons (pv 5) (pa_cons (pv 2) (pa_cons (pv 3) (pa_cons (pv 7) pa_nil)))))))))
        (pss_one (ps_ret pe_bl))
        pss_nil)
      (pss_one (ps_ret (pe_and (pe_cmpR (op_eqL (units_of hr)) (pe_call G_coded (hr.mono (show 4 ≤ 7 by decide)) rfl m_coded k_coded b_coded .nil passN (pa_cons (pe_lst pa_nil) (pa_cons (pe_lst pa_nil) pa_nil))) (pe_lst pa_nil) (nomark _)) (pe_one (pe_cmpR (op_eqD (units_of hr)) (pe_call G_decoded (hr.mono (show 4 ≤ 7 by decide)) rfl m_decoded k_decoded b_decoded .nil passN (pa_cons (pv 5) (pa_cons (pe_callB call_len_seq rfl B.len PySem.boot_len (pa_cons (pv 13) pa_nil)) (pa_cons (pe_lst pa_nil) (pa_cons pe_int pa_nil))))) (pe_tup (pa_cons (pe_lst pa_nil) (pa_cons (pe_callB call_len_seq rfl B.len PySem.boot_len (pa_cons (pv 13) pa_nil)) pa_nil))) (nomark _)))))))))))))))))))), ?_⟩
    refine ⟨_, rfl, a, ns, rfl, hS, h63, fun Dd ps H1 hDd hD1 p1 p2 hps nd s1 => ?_⟩
    have dk1 : Dks ps Dd H1 := Dks.of hD1 hps
    refine ⟨_, rfl, a, ns, rfl, s1.seq hS, h63, fun C zs H2 s2 hC prC hri hl1 hl2 => ?_⟩
    have dk2 := dk1.same s2
    refine ⟨_, rfl, C, _, rfl, .inl (SqL.of prC.at_), fun W hW => ?_⟩
    have s3 := same_new hW (.lst (zs.map fun z => V.ref z.1))
    have prW : Prs (upd H2 W (.lst (zs.map fun z => V.ref z.1))) W zs := ⟨upd_same, fun z hz => s3 _ _ (prC.each z hz)⟩
    have prC3 := prC.same s3
    have dk3 := dk2.same s3
    generalize upd H2 W (.lst (zs.map fun z => V.ref z.1)) = H3 at s3 prW prC3 dk3 ⊢
    refine ⟨fun m σ H' => ∃ (L : Addr) (ys : List (Addr × Int × Int)), m = ys.length ∧ σ = [some (.ref a), some (.ref Dd), some (.ref L), some (.ref W), none, none, none, none, none, none, none, none, none, none] ∧ Prs H' L ys ∧ (∃ k, ys = zs.take k) ∧ Same H3 H', ⟨_, C, zs, rfl, rfl, prC3, ⟨zs.length, (List.take_length).symm⟩, Same.refl _⟩, ?_⟩
    rintro m σ H4 ⟨L, ys, rfl, rfl, prL, hyk, s4⟩
    have hyl : ys.length ≤ zs.length := by
      obtain ⟨k, rfl⟩ := hyk
      rw [List.length_take]; trivial
    have hyr : RiseC (ys.map (·.2)) := by
      obtain ⟨k, rfl⟩ := hyk
      rw [List.map_take]; exact hri.take k
    refine ⟨_, rfl, L, ys, rfl, prL, (by trivial), (fun c hc => (hyr.2 c hc).2.2), fun H5 s5 => ⟨_, rfl, ?_⟩⟩
    cases hb : letB (ys.map (·.2)) with
    | false =>
      refine iteT ?_
      refine ⟨fun σ' H'' => ∃ m', m' < ys.length ∧ ∃ (L : Addr) (ys : List (Addr × Int × Int)), m' = ys.length ∧ σ' = [some (.ref a), some (.ref Dd), some (.ref L), some (.ref W), none, none, none, none, none, none, none, none, none, none] ∧ Prs H'' L ys ∧ (∃ k, ys = zs.take k) ∧ Same H3 H'', fun σ' H'' z => z, ?_⟩
      refine ⟨_, rfl, _, rfl, _, rfl, L, _, rfl, SqL.of (s5 _ _ prL.at_), fun N hN => ?_⟩
      rw [show (- 1 : Int) = -1 from rfl, cut_last10, List.length_map, ← List.map_take]
      have hpos : 0 < ys.length := by
        cases ys with
        | nil =>
          have e0 : letB [] = false := hb
          have e1 := can_nil
          rw [let_can RiseC.nil, e0] at e1
          cases e1
        | cons _ _ => exact Nat.succ_pos _
      have s6 := same_new hN (.lst ((ys.take (ys.length - 1)).map fun z => V.ref z.1))
      refine ⟨_, ?_, N, ys.take (ys.length - 1), rfl, rfl, ⟨upd_same, fun z hz => s6 _ _ (s5 _ _ (prL.each z (List.mem_of_mem_take hz)))⟩, ?_, s4.trans (s5.trans s6)⟩
      · rw [List.length_take]; trivial
      · obtain ⟨k, e⟩ := hyk
        exact ⟨min (ys.length - 1) k, by rw [← List.take_take, ← e]⟩
    | true =>
    refine iteF ?_
    have hcan : canB (ys.map (·.2)) = true := by rw [let_can hyr]; exact hb
    have prL5 := prL.same s5
    have s45 := s4.trans s5
    have prW5 := prW.same s45
    have dk5 := dk3.same s45
    clear s5 prL hb s4 s45 prW dk3 dk1 dk2 s3 prC3 s2 hps hD1 prC
    refine ⟨(by show 0 ≤ sizeLine; decide), fun T0 hT0 => ?_⟩
    have u6 := same_new hT0 (.lst [])
    have e6 : upd H5 T0 (.lst []) T0 = some (lsI []) := upd_same
    have nT0 := (dk5.ne hT0).1
    have dk6 := dk5.same u6
    generalize upd H5 T0 (.lst []) = H6 at u6 e6 dk6 ⊢
    refine ⟨(by show 0 ≤ sizeLine; decide), fun B0 hB0 => ?_⟩
    have u7 := same_new hB0 (.lst [])
    have e7 : upd H6 B0 (.lst []) B0 = some (lsI []) := upd_same
    have nB0 := (dk6.ne hB0).1
    have dk7 := dk6.same u7
    have prL7 := prL5.same (u6.trans u7)
    have prW7 := prW5.same (u6.trans u7)
    have hT07 := u7 _ _ e6
    generalize upd H6 B0 (.lst []) = H7 at u7 e7 dk7 prL7 prW7 hT07 ⊢
    clear u6 e6 dk6 u7 prL5 prW5 dk5
    refine ⟨_, rfl, Dd, rfl, ⟨_, SqL.of dk7.at_⟩, for_list (K := K) (a := Dd) (xs := ps.map V.ref) (fun i σ H' => ∃ (T Bt : Addr) (t b : List Int) (v6 : Option V), σ = [some (.ref a), some (.ref Dd), some (.ref L), some (.ref W), some (.ref T), some (.ref Bt), v6, none, none, none, none, none, none, none] ∧ Dks ps Dd H' ∧ Kd ps H7 H' ∧ H' T = some (lsI t) ∧ H' Bt = some (lsI b) ∧ (∀ p ∈ ps, p ≠ T) ∧ (∀ p ∈ ps, p ≠ Bt) ∧ t.length ≤ 3 * i ∧ b.length ≤ 6 * i)
      ⟨T0, B0, [], [], none, rfl, dk7, Kd.refl, hT07, e7, nT0, nB0, Nat.zero_le _, Nat.zero_le _⟩ (fun i σ H' _ ⟨_, _, _, _, _, _, e, _⟩ => SqL.of e.at_) ?_ ?_⟩
    · rintro i y σ H8 hi ⟨T, Bt, t, b, v6, rfl, dk8, kd8, hT8, hB8, nT, nB, htl, hbl⟩
      have hil : i < ps.length := by have := (List.getElem?_eq_some_iff.mp hi).1; rwa [List.length_map] at this
      obtain ⟨p, rfl, hpm⟩ : ∃ p, y = V.ref p ∧ p ∈ ps := by
        have := List.mem_of_getElem? hi
        obtain ⟨p, hp, e⟩ := List.mem_map.mp this
        exact ⟨p, e.symm, hp⟩
      obtain ⟨_, da, db, dc, hdk⟩ := dk8.each p hpm
      refine ⟨_, rfl, _, rfl, p, da, db, dc, 3, rfl, hdk, by decide, by decide, fun r3 a1 c1 r30 r31 => ⟨_, _, rfl, rfl, ?_⟩⟩
      have dk9 := dk8.draw hpm a1 db c1
      have kd9 := kd8.trans (Kd.draw (H := H8) hpm (deckO a1 db c1))
      have hT9 : upd H8 p (deckO a1 db c1) T = some (lsI t) := by rw [upd_ne (nT p hpm).symm]; exact hT8
      have hB9 : upd H8 p (deckO a1 db c1) Bt = some (lsI b) := by rw [upd_ne (nB p hpm).symm]; exact hB8
      generalize upd H8 p (deckO a1 db c1) = H9 at dk9 kd9 hT9 hB9 ⊢
      refine ⟨1 + r3, rfl, by trivial, by trivial, fun E1 hE1 => ?_⟩
      have hE7 := kd9.free dk9 hE1
      have nE := dk9.ne hE1
      have nET := ne_of_none hT9 hE1
      have nEB := ne_of_none hB9 hE1
      have uE := same_new hE1 (.lst [])
      refine comp_rngQ (fun j σ' H' => ∃ (x : Option V) (es : List Int), σ' = [x, some (.ref W), some (.ref p), some (.ref L)] ∧ H' E1 = some (lsI es) ∧ es.length = j ∧ Dks ps Dd H' ∧ Kd ps H7 H' ∧ H' T = some (lsI t) ∧ H' Bt = some (lsI b))
        ⟨none, [], rfl, upd_same, rfl, dk9.same uE, kd9.trans (Kd.of uE), uE _ _ hT9, uE _ _ hB9⟩ ?_ ?_
      · rintro j σ' H' hj ⟨x, es, rfl, hE', hel, dk', kd', hT', hB'⟩
        obtain ⟨_, xa, xb, xc, hx⟩ := dk'.each p hpm
        have prL' := prL7.kd dk7 kd'
        refine nameT ?_
        refine ⟨_, rfl, _, rfl, _, rfl, L, _, rfl, .inl (SqL.of prL'.at_), _, _, rfl, p, xa, xb, xc, _, rfl, hx, ?_, ?_, fun rr a5 c5 rr0 rr1 => ?_⟩
        · split <;> trivial
        · rw [List.length_map]; split <;> trivial
        obtain ⟨q, rfl⟩ : ∃ q : Nat, rr = (q : Int) := ⟨rr.toNat, by trivial⟩
        have hq : q < zs.length := by
          rw [List.length_map] at rr1
          split at rr1 <;> trivial
        obtain ⟨z, hz⟩ : ∃ z, zs[q]? = some z := ⟨_, List.getElem?_eq_getElem hq⟩
        have k2 := kd'.trans (Kd.draw (H := H') hpm (deckO a5 xb c5))
        have d2 := dk'.draw hpm a5 xb c5
        have hE2 : upd H' p (deckO a5 xb c5) E1 = some (lsI es) := by rw [upd_ne (nE.1 p hpm).symm]; exact hE'
        have hT2 : upd H' p (deckO a5 xb c5) T = some (lsI t) := by rw [upd_ne (nT p hpm).symm]; exact hT'
        have hB2 : upd H' p (deckO a5 xb c5) Bt = some (lsI b) := by rw [upd_ne (nB p hpm).symm]; exact hB'
        generalize upd H' p (deckO a5 xb c5) = Hn at k2 d2 hE2 hT2 hB2 ⊢
        have prW2 := prW7.kd dk7 k2
        refine ⟨W, _, _, _, rfl, rfl, SqL.of prW2.at_, at_refs hz, z.1, _, _, _, rfl, rfl, SqT.of (prW2.each z (List.mem_of_getElem? hz)), rfl, ?_⟩
        refine ⟨E1, _, _, rfl, rfl, hE2, fits_lt (by rw [List.length_map]; trivial), ?_⟩
        exact CW.next hj ⟨_, es ++ [z.2.1], rfl, by rw [upd_same, lsI_app1], by rw [List.length_append, hel]; rfl, d2.other nE.2 nE.1, k2.upd _ hE7, by rw [upd_ne nET]; exact hT2, by rw [upd_ne nEB]; exact hB2⟩
      rintro σ' HA ⟨x, es, rfl, hE', hel, dk', kd', hT', hB'⟩
      refine ⟨T, E1, _, _, rfl, rfl, hT', hE', fits (by rw [len_lsI, len_lsI]; trivial), fun T2 hT2 => ?_⟩
      rw [lsI_app]
      have uT := same_new hT2 (lsI (t ++ es))
      have eT : upd HA T2 (lsI (t ++ es)) T2 = some (lsI (t ++ es)) := upd_same
      have dkB := dk'.same uT
      have kdB := kd'.trans (Kd.of uT)
      have hBB := uT _ _ hB'
      have nT2 := (dk'.ne hT2).1
      generalize upd HA T2 (lsI (t ++ es)) = HB at uT eT dkB kdB hBB ⊢
      obtain ⟨_, xa, xb, xc, hx⟩ := dkB.each p hpm
      refine ⟨_, rfl, _, rfl, p, xa, xb, xc, 6, rfl, hx, by decide, by decide, fun E2 bs a6 c6 HC hbs hbsl hE2 hE2' hpC kp => ?_⟩
      have dkC := dkB.bits hpm hpC kp
      have kdC := kdB.trans (Kd.bits hpm kp)
      have hBC := kp _ _ (nB p hpm).symm hBB
      have hTC := kp _ _ (nT2 p hpm).symm eT
      refine ⟨Bt, E2, _, _, rfl, rfl, hBC, hE2', fits (by rw [len_lsI, len_lsI]; trivial), fun B2 hB2 => ?_⟩
      rw [lsI_app]
      have uB := same_new hB2 (lsI (b ++ bs))
      exact ⟨T2, B2, t ++ es, b ++ bs, _, rfl, dkC.same uB, kdC.trans (Kd.of uB), uB _ _ hTC, upd_same, nT2, (dkC.ne hB2).1, by rw [List.length_append]; trivial, by rw [List.length_append]; trivial⟩
    rintro σ H8 ⟨T, Bt, t, b, v6, rfl, dk8, kd8, hT8, hB8, nT, nB, htl, hbl⟩
    rw [List.length_map] at htl hbl
    have prL8 := prL7.kd dk7 kd8
    have prW8 := prW7.kd dk7 kd8
    clear kd8 prL7 prW7 dk7 hT07 e7 nT0 nB0 hT0 hB0
    with_reducible refine seq_cut (fun σ' H' => ∃ (T : Addr) (t : List Int), σ' = [some (.ref a), some (.ref Dd), some (.ref L), some (.ref W), some (.ref T), some (.ref Bt), v6, none, none, none, none, none, none, none] ∧ H' T = some (lsI t) ∧ (∀ p ∈ ps, p ≠ T) ∧ t.length ≤ 189 ∧ Same H8 H') (fun nx hnx => ?_) ?_
    · refine ⟨(by show 1 ≤ sizeLine; decide), fun l0 hl0 => ?_⟩
      have t0 := same_new hl0 (.lst [V.int 0])
      have e0 : upd H8 l0 (.lst [V.int 0]) l0 = some (.lst [V.int 0]) := upd_same
      generalize upd H8 l0 (.lst [V.int 0]) = H9 at t0 e0 ⊢
      have prL9 := prL8.same t0
      refine ⟨_, rfl, L, rfl, ⟨_, SqL.of prL9.at_⟩, fun D hD => ?_⟩
      have t1 := same_new hD (.lst [])
      have n0D := ne_of_none e0 hD
      refine comp_lstQ (K := K) (a := L) (xs := ys.map fun z => V.ref z.1) (fun i σ' H' => ∃ (x y : Option V) (ls : List Int), σ' = [x, y] ∧ H' D = some (lsI ls) ∧ ls.length ≤ i ∧ Same H9 H')
        ⟨none, none, [], rfl, upd_same, Nat.zero_le _, t1⟩ (fun i σ' H' _ ⟨_, _, _, _, _, _, e⟩ => SqL.of (e _ _ prL9.at_)) ?_ ?_
      · rintro i v σ' H' hi ⟨x, y, ls, rfl, hB, hls, sm⟩
        obtain ⟨z, hz, rfl⟩ := ref_at hi
        have hlt : i < (ys.map fun z => V.ref z.1).length := (List.getElem?_eq_some_iff.mp hi).1
        refine ⟨z.1, _, rfl, SqT.of (sm _ _ (prL9.each z (List.mem_of_getElem? hz))), rfl, _, _, rfl, _, _, rfl, rfl, ?_⟩
        refine trueT ?_
        refine ⟨_, rfl, D, _, _, rfl, rfl, hB, fits_lt (by rw [List.length_map]; rw [List.length_map] at hlt; trivial), ?_⟩
        exact CW.next hlt ⟨_, _, ls ++ [z.2.2], rfl, by rw [upd_same, lsI_app1], by rw [List.length_append, List.length_singleton]; trivial, same_upd sm _ hD⟩
      rintro σ' HA ⟨x, y, ls, rfl, hB, hls, sm⟩
      rw [List.length_map] at hls
      refine ⟨l0, D, _, _, rfl, rfl, sm _ _ e0, hB, fits (by rw [List.length_map, List.length_singleton]; trivial), fun q hq => ?_⟩
      have s3 := same_new hq (.lst ([V.int 0] ++ ls.map V.int))
      have hq3 : upd HA q (.lst ([V.int 0] ++ ls.map V.int)) q = some (lsI (0 :: ls)) := upd_same
      generalize upd HA q (.lst ([V.int 0] ++ ls.map V.int)) = HB at hq3 s3 ⊢
      have sB := t0.trans (sm.trans s3)
      refine ⟨q, 0 :: ls, rfl, SqL.of hq3, by rw [List.length_cons]; trivial, fun m hm hmx => ?_⟩
      refine ⟨_, _, rfl, rfl, _, rfl, ?_⟩
      refine ite2 (fun c => ?_) (fun c => ?_)
      · refine ⟨_, rfl, _, rfl, T, _, rfl, SqL.of (sB _ _ hT8), fun T2 hT2 => ?_⟩
        rw [show cutV (t.map V.int) none (some 36) = (t.take 36).map V.int from cut_to (α := Int) (f := V.int) t 36]
        exact hnx _ _ ⟨T2, t.take 36, rfl, upd_same, ((dk8.same sB).ne hT2).1, by rw [List.length_take]; trivial, sB.trans (same_new hT2 _)⟩
      · exact hnx _ _ ⟨T, t, rfl, sB _ _ hT8, nT, by trivial, sB⟩
    clear hT8 nT htl T t
    rintro σ' H9 ⟨T, t, rfl, hT9, nT, htl, s9⟩
    have prL9 := prL8.same s9
    have prW9 := prW8.same s9
    have dk9 := dk8.same s9
    have hB9 := s9 _ _ hB8
    clear prL8 prW8 dk8 hB8 s9
    have ndy := hyr.nd
    have ndz := hri.nd
    refine ⟨_, rfl, T, rfl, ⟨_, SqL.of hT9⟩, fun S hS_ => ?_⟩
    refine comp_lstQ (K := K) (a := T) (xs := t.map V.int) (fun j σ' H' => ∃ (x : Option V) (ss : List Int), σ' = [x, some (.ref L)] ∧ H' S = some (lsI ss) ∧ ss.length ≤ j ∧ (∀ s ∈ ss, s ∈ (ys.map (·.2)).map (·.1)) ∧ Same H9 H')
      ⟨none, [], rfl, upd_same, Nat.zero_le _, (fun _ z => by cases z), same_new hS_ _⟩ (fun j σ' H' _ ⟨_, _, _, _, _, _, e⟩ => SqL.of (e _ _ hT9)) ?_ ?_
    · rintro j y σ' H' hj ⟨x, ss, rfl, hS', hsl, hsm, sm⟩
      obtain ⟨s, rfl, hs⟩ := int_at hj
      have hlt : j < (t.map V.int).length := (List.getElem?_eq_some_iff.mp hj).1
      have hlt' : j < t.length := by rw [List.length_map] at hlt; exact hlt
      have prL' := prL9.same sm
      refine ⟨_, rfl, _, rfl, L, prV ys, rfl, (by unfold prV; rw [List.map_map]; exact SqL.of prL'.at_), (fun z hz => by
        obtain ⟨w, hw, rfl⟩ := List.mem_map.mp hz
        exact SqT.of (prL'.each w hw)), fun dt hdt => ?_⟩
      have udt := same_new hdt (.dK (putP [] (prV ys)))
      have edt : upd H' dt (.dK (putP [] (prV ys))) dt = some (.dK (putP [] (prV ys))) := upd_same
      generalize upd H' dt (.dK (putP [] (prV ys))) = Hn at udt edt ⊢
      have hg := DGet.k (k := Sum.inl s) edt
      rcases val_pr ndy s with ⟨f1, f2⟩ | ⟨f1, v, f2⟩
      · rw [f2] at hg
        refine ⟨dt, _, rfl, hg, _, rfl, ?_⟩
        refine iteF ?_
        exact CW.next hlt ⟨_, ss, rfl, udt _ _ hS', by trivial, hsm, sm.trans udt⟩
      · rw [f2] at hg
        refine ⟨dt, _, rfl, hg, _, rfl, ?_⟩
        refine iteT ?_
        refine ⟨_, rfl, S, _, _, rfl, rfl, udt _ _ hS', fits_lt (by rw [List.length_map]; trivial), ?_⟩
        refine CW.next hlt ⟨_, ss ++ [s], rfl, by rw [upd_same, lsI_app1], by rw [List.length_append, List.length_singleton]; trivial, fun y hy => ?_, same_upd (sm.trans udt) _ hS_⟩
        rcases List.mem_append.mp hy with hy | hy
        · exact hsm y hy
        · have e : y = s := by simpa using hy
          rw [e]; exact f1
    rintro σ' HA ⟨x, ss, rfl, hSA, hsl, hsm, sA⟩
    rw [List.length_map] at hsl
    have nS := (dk9.ne hS_).1
    have dkA := dk9.same sA
    have prLA := prL9.same sA
    have prWA := prW9.same sA
    have hTA := sA _ _ hT9
    have hBA := sA _ _ hB9
    clear sA prL9 prW9 hT9 hB9 dk9
    refine ⟨256, rfl, by decide, by decide, fun X hX => ?_⟩
    have nX := (dkA.ne hX).1
    refine comp_rngQ (fun j σ' H' => ∃ (x : Option V) (ss : List Int), σ' = [x, some (.ref W)] ∧ H' X = some (lsI ss) ∧ ss.length ≤ j ∧ (∀ i : Nat, i < j → (i : Int) ∉ (zs.map (·.2)).map (·.1) → (i : Int) ∈ ss) ∧ Same HA H')
      ⟨none, [], rfl, upd_same, Nat.zero_le _, (fun i h => absurd h (Nat.not_lt_zero _)), same_new hX _⟩ ?_ ?_
    · rintro j σ' H' hj ⟨x, ss, rfl, hX', hxl, hxm, sm⟩
      have hj' : j < 256 := hj
      have prW' := prWA.same sm
      rw [Int.zero_add]
      refine ⟨_, rfl, _, rfl, W, prV zs, rfl, (by unfold prV; rw [List.map_map]; exact SqL.of prW'.at_), (fun z hz => by
        obtain ⟨w, hw, rfl⟩ := List.mem_map.mp hz
        exact SqT.of (prW'.each w hw)), fun dt hdt => ?_⟩
      have udt := same_new hdt (.dK (putP [] (prV zs)))
      have edt : upd H' dt (.dK (putP [] (prV zs))) dt = some (.dK (putP [] (prV zs))) := upd_same
      generalize upd H' dt (.dK (putP [] (prV zs))) = Hn at udt edt ⊢
      have hg := DGet.k (k := Sum.inl (j : Int)) edt
      rcases val_pr ndz (j : Int) with ⟨f1, f2⟩ | ⟨f1, v, f2⟩
      · rw [f2] at hg
        refine ⟨dt, _, rfl, hg, _, rfl, ?_⟩
        refine iteT ?_
        refine ⟨_, rfl, X, _, _, rfl, rfl, udt _ _ hX', fits_lt (by rw [List.length_map]; trivial), ?_⟩
        refine CW.next hj ⟨_, ss ++ [(j : Int)], rfl, by rw [upd_same, lsI_app1], by rw [List.length_append, List.length_singleton]; trivial, fun i hi hn => ?_, same_upd (sm.trans udt) _ hX⟩
        rcases Nat.lt_or_ge i j with h | h
        · exact List.mem_append_left _ (hxm i h hn)
        · have e : i = j := by trivial
          rw [e]
          exact List.mem_append_right _ (List.mem_singleton.mpr rfl)
      · rw [f2] at hg
        refine ⟨dt, _, rfl, hg, _, rfl, ?_⟩
        refine iteF ?_
        refine CW.next hj ⟨_, ss, rfl, udt _ _ hX', by trivial, fun i hi hn => ?_, sm.trans udt⟩
        rcases Nat.lt_or_ge i j with h | h
        · exact hxm i h hn
        · have e : i = j := by trivial
          rw [e] at hn
          exact absurd f1 hn
    rintro σ' HB ⟨x, xs, rfl, hXB, hxl, hxm, sB⟩
    have hxp : 0 < xs.length := by
      obtain ⟨i, hi, hn⟩ := free_num 256 ((zs.map (·.2)).map (·.1)) (by rw [List.length_map, List.length_map]; trivial)
      exact List.length_pos_of_mem (hxm i hi hn)
    have hxl2 : xs.length ≤ 256 := hxl
    have dkB := dkA.same sB
    have prLB := prLA.same sB
    have prWB := prWA.same sB
    have hTB := sB _ _ hTA
    have hBB := sB _ _ hBA
    have hSB := sB _ _ hSA
    clear sB prLA prWA hTA hBA hSA dkA hxm
    obtain ⟨p0, hp0⟩ : ∃ p0, ps[0]? = some p0 := ⟨_, List.getElem?_eq_getElem (by trivial)⟩
    have hp0m : p0 ∈ ps := List.mem_of_getElem? hp0
    have at0 : atI (ps.map V.ref) 0 = some (.ref p0) := atI_nat (j := 0) (by rw [List.getElem?_map, hp0]; rfl)
    obtain ⟨_, da, db, dc, hdk⟩ := dkB.each p0 hp0m
    refine ⟨_, rfl, Dd, _, _, _, rfl, rfl, SqL.of dkB.at_, at0, p0, da, db, dc, 3, rfl, hdk, by decide, by decide, fun r a1 c1 r0 r1 => ?_⟩
    have dkC := dkB.draw hp0m a1 db c1
    have kdC := Kd.draw (H := HB) hp0m (deckO a1 db c1)
    generalize upd HB p0 (deckO a1 db c1) = HC at dkC kdC ⊢
    have prLC := prLB.kd dkB kdC
    have prWC := prWB.kd dkB kdC
    have hTC := kdC _ _ (fun h => nT _ h rfl) hTB
    have hBC := kdC _ _ (fun h => nB _ h rfl) hBB
    have hSC := kdC _ _ (fun h => nS _ h rfl) hSB
    have hXC := kdC _ _ (fun h => nX _ h rfl) hXB
    clear kdC prLB prWB hTB hBB hSB hXB dkB hdk
    obtain ⟨rn, rfl⟩ : ∃ rn : Nat, r = (rn : Int) := ⟨r.toNat, by trivial⟩
    refine ⟨(rn : Int), rfl, by trivial, by trivial, ?_⟩
    rw [Int.toNat_natCast]
    refine for_range (n := rn) (fun i σ H' => ∃ (T : Addr) (t : List Int) (v9 v10 : Option V), σ = [some (.ref a), some (.ref Dd), some (.ref L), some (.ref W), some (.ref T), some (.ref Bt), v6, some (.ref S), some (.ref X), v9, v10, none, none, none] ∧ Dks ps Dd H' ∧ Kd ps HC H' ∧ H' T = some (lsI t) ∧ (∀ p ∈ ps, p ≠ T) ∧ t.length ≤ 189 + i)
      ⟨T, t, none, none, rfl, dkC, Kd.refl, hTC, nT, by trivial⟩ ?_ ?_
    · clear hTC htl nT hsl T t
      rintro i σ H' hi ⟨T, t, v9, v10, rfl, dk', kd', hT', nT, htl⟩
      obtain ⟨_, xa, xb, xc, hx⟩ := dk'.each p0 hp0m
      refine ⟨_, rfl, Dd, _, _, _, rfl, rfl, SqL.of dk'.at_, at0, _, rfl, T, _, rfl, .inl (SqL.of hT'), _, _, rfl, rfl, p0, xa, xb, xc, _, rfl, hx, ?_, ?_, fun q a5 c5 q0 q1 => ?_⟩
      · show (0 : Int) < ((t.map V.int).length : Int) + 1
        trivial
      · show ((t.map V.int).length : Int) + 1 < _
        rw [List.length_map]; trivial
      have q1' : q < (t.length : Int) + 1 := by
        have : q < ((t.map V.int).length : Int) + 1 := q1
        rw [List.length_map] at this; exact this
      obtain ⟨at_, rfl⟩ : ∃ at_ : Nat, q = (at_ : Int) := ⟨q.toNat, by trivial⟩
      have nTp : T ≠ p0 := (nT p0 hp0m).symm
      have k2 := kd'.trans (Kd.draw (H := H') hp0m (deckO a5 xb c5))
      have d2 := dk'.draw hp0m a5 xb c5
      have hT2 : upd H' p0 (deckO a5 xb c5) T = some (lsI t) := by rw [upd_ne nTp]; exact hT'
      generalize upd H' p0 (deckO a5 xb c5) = Hn at k2 d2 hT2 ⊢
      refine ⟨_, rfl, _, rfl, _, rfl, T, _, rfl, SqL.of hT2, fun w1 hw1 => ?_⟩
      rw [show cutV (t.map V.int) none (some (at_ : Int)) = (t.take at_).map V.int from cut_to (α := Int) (f := V.int) t at_]
      have v1 := same_new hw1 (lsI (t.take at_))
      have e1 : upd Hn w1 (lsI (t.take at_)) w1 = some (lsI (t.take at_)) := upd_same
      have nw1 := (d2.ne hw1).1
      rw [show (HO.lst ((t.take at_).map V.int)) = lsI (t.take at_) from rfl]
      have d3 := d2.same v1
      have k3 := k2.trans (Kd.of v1)
      have hT3 := v1 _ _ hT2
      generalize upd Hn w1 (lsI (t.take at_)) = Ho at v1 e1 d3 k3 hT3 ⊢
      obtain ⟨_, ya, yb, yc, hy⟩ := d3.each p0 hp0m
      have hX3 := k3 _ _ (fun h => nX _ h rfl) hXC
      refine ⟨_, rfl, _, rfl, Dd, _, _, _, rfl, rfl, SqL.of d3.at_, at0, _, rfl, X, _, rfl, .inl (SqL.of hX3), p0, ya, yb, yc, _, rfl, hy, ?_, ?_, fun sx a6 c6 sx0 sx1 => ?_⟩
      · rw [List.length_map]; trivial
      · rw [List.length_map]; trivial
      rw [List.length_map] at sx1
      obtain ⟨sn, rfl⟩ : ∃ sn : Nat, sx = (sn : Int) := ⟨sx.toNat, by trivial⟩
      obtain ⟨sv, hsv⟩ : ∃ sv, xs[sn]? = some sv := ⟨_, List.getElem?_eq_getElem (by trivial)⟩
      have d4 := d3.draw hp0m a6 yb c6
      have k4 := k3.trans (Kd.draw (H := Ho) hp0m (deckO a6 yb c6))
      have hT4 : upd Ho p0 (deckO a6 yb c6) T = some (lsI t) := by rw [upd_ne nTp]; exact hT3
      have e4 : upd Ho p0 (deckO a6 yb c6) w1 = some (lsI (t.take at_)) := by rw [upd_ne (nw1 p0 hp0m).symm]; exact e1
      have hX4 : upd Ho p0 (deckO a6 yb c6) X = some (lsI xs) := by rw [upd_ne (nX p0 hp0m).symm]; exact hX3
      generalize upd Ho p0 (deckO a6 yb c6) = Hp at d4 k4 hT4 e4 hX4 ⊢
      refine ⟨X, _, _, _, rfl, rfl, SqL.of hX4, at_ints hsv, (by show 1 ≤ sizeLine; decide), fun w2 hw2 => ?_⟩
      have v2 := same_new hw2 (.lst [V.int sv])
      refine ⟨w1, w2, _, _, rfl, rfl, v2 _ _ e4, upd_same, fits (by rw [List.length_map, List.length_take, List.length_singleton]; trivial), fun w3 hw3 => ?_⟩
      have v3 := v2.trans (same_new hw3 (.lst ((t.take at_).map V.int ++ [V.int sv])))
      rw [lsI_app1] at v3 ⊢
      have e5 : upd (upd Hp w2 (.lst [V.int sv])) w3 (lsI (t.take at_ ++ [sv])) w3 = some (lsI (t.take at_ ++ [sv])) := upd_same
      generalize upd (upd Hp w2 (.lst [V.int sv])) w3 (lsI (t.take at_ ++ [sv])) = Hq at v3 e5 ⊢
      refine ⟨_, rfl, _, rfl, _, rfl, T, _, rfl, SqL.of (v3 _ _ hT4), fun w4 hw4 => ?_⟩
      rw [show cutV (t.map V.int) (some (at_ : Int)) none = (t.drop at_).map V.int from cut_from t at_]
      have v4 := v3.trans (same_new hw4 (.lst ((t.drop at_).map V.int)))
      refine ⟨w3, w4, _, _, rfl, rfl, (same_new hw4 _) _ _ e5, upd_same, fits (by rw [List.length_map, List.length_map, List.length_append, List.length_take, List.length_drop, List.length_singleton]; trivial), fun w5 hw5 => ?_⟩
      rw [lsI_app]
      have v5 := v4.trans (same_new hw5 (lsI (t.take at_ ++ [sv] ++ t.drop at_)))
      exact ⟨w5, _, _, _, rfl, d4.same v5, k4.trans (Kd.of v5), upd_same, ((d4.same v4).ne hw5).1, by rw [List.length_append, List.length_append, List.length_take, List.length_drop, List.length_singleton]; trivial⟩
    clear hTC nT T
    rintro σ HD ⟨T, t', v9, v10, rfl, dkD, kdD, hTD, _, htl'⟩
    have hssl : ss.length ≤ 189 := by trivial
    clear htl hsl
    have htl := htl'
    have prLD := prLC.kd dkC kdD
    have prWD := prWC.kd dkC kdD
    have hBD := kdD _ _ (fun h => nB _ h rfl) hBC
    have hSD := kdD _ _ (fun h => nS _ h rfl) hSC
    clear kdD prLC prWC hBC hSC hXC dkC dkD
    refine ⟨_, rfl, _, rfl, (by show 2 ≤ sizeLine; decide), fun t1 ht1 => ⟨_, rfl, _, rfl, (by show 2 ≤ sizeLine; decide), fun t2 ht2 => ⟨_, rfl, _, rfl, (by show 2 ≤ sizeLine; decide), fun t3 ht3 => ?_⟩⟩⟩
    have w1 := same_new ht1 (.tup [V.ref T, V.ref L])
    have f1 : upd HD t1 (.tup [V.ref T, V.ref L]) t1 = some (.tup [V.ref T, V.ref L]) := upd_same
    generalize upd HD t1 (.tup [V.ref T, V.ref L]) = I1 at w1 f1 ht2 ht3 ⊢
    have w2 := same_new ht2 (.tup [V.ref T, V.ref W])
    have f2 : upd I1 t2 (.tup [V.ref T, V.ref W]) t2 = some (.tup [V.ref T, V.ref W]) := upd_same
    generalize upd I1 t2 (.tup [V.ref T, V.ref W]) = I2 at w2 f2 ht3 ⊢
    have w3 := same_new ht3 (.tup [V.ref S, V.ref L])
    have f3 : upd I2 t3 (.tup [V.ref S, V.ref L]) t3 = some (.tup [V.ref S, V.ref L]) := upd_same
    generalize upd I2 t3 (.tup [V.ref S, V.ref L]) = I3 at w3 f3 ⊢
    refine ⟨(by show 0 ≤ sizeLine; decide), fun z1 hz1 => ?_⟩
    have w4 := same_new hz1 (.lst [])
    have f4 : upd I3 z1 (.lst []) z1 = some (lsI []) := upd_same
    generalize upd I3 z1 (.lst []) = I4 at w4 f4 ⊢
    refine ⟨_, rfl, (by show 2 ≤ sizeLine; decide), fun t4 ht4 => ?_⟩
    have w5 := same_new ht4 (.tup [V.ref z1, V.ref W])
    have f5 : upd I4 t4 (.tup [V.ref z1, V.ref W]) t4 = some (.tup [V.ref z1, V.ref W]) := upd_same
    generalize upd I4 t4 (.tup [V.ref z1, V.ref W]) = I5 at w5 f5 ⊢
    refine ⟨(by show 0 ≤ sizeLine; decide), fun z2 hz2 => ?_⟩
    have w6 := same_new hz2 (.lst [])
    have f6 : upd I5 z2 (.lst []) z2 = some (lsI []) := upd_same
    generalize upd I5 z2 (.lst []) = I6 at w6 f6 ⊢
    refine ⟨(by show 0 ≤ sizeLine; decide), fun z3 hz3 => ?_⟩
    have w7 := same_new hz3 (.lst [])
    have f7 : upd I6 z3 (.lst []) z3 = some (.lst []) := upd_same
    generalize upd I6 z3 (.lst []) = I7 at w7 f7 ⊢
    refine ⟨(by show 2 ≤ sizeLine; decide), fun t5 ht5 => ?_⟩
    have w8 := same_new ht5 (.tup [V.ref z2, V.ref z3])
    have f8 : upd I7 t5 (.tup [V.ref z2, V.ref z3]) t5 = some (.tup [V.ref z2, V.ref z3]) := upd_same
    generalize upd I7 t5 (.tup [V.ref z2, V.ref z3]) = I8 at w8 f8 ⊢
    refine ⟨(by show 5 ≤ sizeLine; decide), fun M hM => ?_⟩
    have w9 := same_new hM (.lst [V.ref t1, V.ref t2, V.ref t3, V.ref t4, V.ref t5])
    have f9 : upd I8 M (.lst [V.ref t1, V.ref t2, V.ref t3, V.ref t4, V.ref t5]) M = some (.lst [V.ref t1, V.ref t2, V.ref t3, V.ref t4, V.ref t5]) := upd_same
    generalize upd I8 M (.lst [V.ref t1, V.ref t2, V.ref t3, V.ref t4, V.ref t5]) = I9 at w9 f9 ⊢
    have x8 := w8.trans w9
    have x7 := w7.trans x8
    have x6 := w6.trans x7
    have x5 := w5.trans x6
    have x4 := w4.trans x5
    have x3 := w3.trans x4
    have x2 := w2.trans x3
    have x1 := w1.trans x2
    refine ⟨M, rfl, ⟨_, SqL.of f9⟩, for_list (K := K) (a := M) (xs := [V.ref t1, V.ref t2, V.ref t3, V.ref t4, V.ref t5]) (fun i σ Ha => ∃ (v11 v12 : Option V), σ = [some (.ref a), some (.ref Dd), some (.ref L), some (.ref W), some (.ref T), some (.ref Bt), v6, some (.ref S), some (.ref X), v9, v10, v11, v12, none] ∧ Same I9 Ha) ⟨none, none, rfl, Same.refl _⟩ (fun i σ Ha _ ⟨_, _, _, e⟩ => SqL.of (e _ _ f9)) ?_ ?_⟩
    · rintro i x σ Ha hi ⟨v11, v12, rfl, sm⟩
      obtain ⟨ta, r, s, tx, qs, rfl, g1, g2, g3, g4, g5, g6⟩ : ∃ (ta r s : Addr) (tx : List Int) (qs : List (Addr × Int × Int)), x = V.ref ta ∧ Ha ta = some (.tup [.ref r, .ref s]) ∧ Ha r = some (lsI tx) ∧ tx.length ≤ 1000 ∧ Prs Ha s qs ∧ qs.length ≤ 300 ∧ RiseC (qs.map (·.2)) := by
        have := List.mem_of_getElem? hi
        simp only [List.mem_cons, List.not_mem_nil, or_false] at this
        rcases this with rfl | rfl | rfl | rfl | rfl
        · exact ⟨t1, T, L, _, _, rfl, sm _ _ (x2 _ _ f1), sm _ _ (x1 _ _ hTD), by trivial, (prLD.same x1).same sm, by trivial, hyr⟩
        · exact ⟨t2, T, W, _, _, rfl, sm _ _ (x3 _ _ f2), sm _ _ (x1 _ _ hTD), by trivial, (prWD.same x1).same sm, by trivial, hri⟩
        · exact ⟨t3, S, L, _, _, rfl, sm _ _ (x4 _ _ f3), sm _ _ (x1 _ _ hSD), by trivial, (prLD.same x1).same sm, by trivial, hyr⟩
        · exact ⟨t4, z1, W, _, _, rfl, sm _ _ (x6 _ _ f5), sm _ _ (x5 _ _ f4), by show 0 ≤ 1000; decide, (prWD.same x1).same sm, by trivial, hri⟩
        · exact ⟨t5, z2, z3, _, _, rfl, sm _ _ (w9 _ _ f8), sm _ _ (x7 _ _ f6), by show 0 ≤ 1000; decide, Prs.nil (sm _ _ (x8 _ _ f7)), by show 0 ≤ 300; decide, RiseC.nil⟩
      refine ⟨ta, _, rfl, SqT.of g1, rfl, _, _, rfl, _, _, rfl, rfl, ?_⟩
      refine ⟨_, rfl, _, rfl, r, s, tx, qs, rfl, g2, g3, g4, g5, g6, fun Hb sb => ⟨_, rfl, ?_⟩⟩
      refine iteF ?_
      exact ⟨_, _, rfl, sm.trans sb⟩
    rintro σ Ha ⟨v11, v12, rfl, sm⟩
    have xA := x1.trans sm
    have prLa := prLD.same xA
    have prWa := prWD.same xA
    have hBa := xA _ _ hBD
    have hSa := xA _ _ hSD
    clear x1 x2 x3 x4 x5 x6 x7 x8 w1 w2 w3 w4 w5 w6 w7 w8 w9 f1 f2 f3 f4 f5 f6 f7 f8 f9 xA sm prLD prWD hBD hSD
    refine ⟨_, rfl, _, rfl, Bt, _, rfl, SqL.of hBa, fun Ah hAh => ?_⟩
    rw [show cutV (b.map V.int) none (some 9) = (b.take 9).map V.int from cut_to (α := Int) (f := V.int) b 9]
    have y1 := same_new hAh (.lst ((b.take 9).map V.int))
    have g1 : upd Ha Ah (.lst ((b.take 9).map V.int)) Ah = some (lsI (b.take 9)) := upd_same
    generalize upd Ha Ah (.lst ((b.take 9).map V.int)) = Hb at y1 g1 ⊢
    have hal : (b.take 9).length ≤ b.length := by rw [List.length_take]; trivial
    generalize b.take 9 = ah at g1 hal ⊢
    obtain ⟨bb, hbb⟩ := cdd_some (ws := wrdsOf (ys.map (·.2))) (t := ss) (fun s hs => by rw [wrds_keys]; exact hsm s hs)
    have hk0 : k0 (ys.map (·.2)) ss = .told bb := k0_some (by unfold cdO; rw [if_pos hcan, hbb])
    have hbbl := k0_len hk0
    refine ⟨_, rfl, _, rfl, _, rfl, S, L, ss, ys, rfl, y1 _ _ hSa, by trivial, prLa.same y1, by trivial, hyr, fun Kx Hc sc hKx kd => ?_⟩
    rw [hk0] at kd
    obtain ⟨bx, k1, k2, _⟩ := kd
    have y2 := y1.trans sc
    refine ⟨Kx, _, _, _, rfl, rfl, SqL.of k1, rfl, _, rfl, _, rfl, _, rfl, _, rfl, Ah, bx, Bt, L, W, S, ah, bb, b, ss, ys, zs, rfl, sc _ _ g1, k2, y2 _ _ hBa, y2 _ _ hSa, by trivial, by trivial, by trivial, by trivial, prLa.same y2, by trivial, hyr, prWa.same y2, by trivial, hri, fun Hd sd => ⟨_, rfl, ?_⟩⟩
    refine iteF ?_
    have g2 := sd _ _ (sc _ _ g1)
    have hB2 := sd _ _ (y2 _ _ hBa)
    refine ⟨(by show 0 ≤ sizeLine; decide), fun o1 ho1 => ?_⟩
    have j1 := same_new ho1 (.lst [])
    have i1 : upd Hd o1 (.lst []) o1 = some (lsI []) := upd_same
    generalize upd Hd o1 (.lst []) = He at j1 i1 ⊢
    refine ⟨(by show 0 ≤ sizeLine; decide), fun o2 ho2 => ?_⟩
    have j2 := same_new ho2 (.lst [])
    have i2 : upd He o2 (.lst []) o2 = some (.lst []) := upd_same
    generalize upd He o2 (.lst []) = Hf at j2 i2 ⊢
    have cd0 : cdO [] [] = some [] := by unfold cdO; rw [if_pos can_nil]; rfl
    refine ⟨o1, o2, [], [], rfl, j2 _ _ i1, by decide, Prs.nil i2, by show 0 ≤ 300; decide, (fun hn => by rw [show cdO (List.map (fun x : Addr × Int × Int => x.2) []) [] = some [] from cd0] at hn; cases hn), fun bits hbits Dd2 Hg sg hg0 hg => ?_⟩
    have hb0 : bits = [] := by
      rw [show cdO (List.map (fun x : Addr × Int × Int => x.2) []) [] = some [] from cd0] at hbits
      exact (Option.some.inj hbits).symm
    subst hb0
    refine ⟨(by show 0 ≤ sizeLine; decide), fun o3 ho3 => ?_⟩
    have j3 := same_new ho3 (.lst [])
    refine ⟨Dd2, o3, [], [], rfl, rfl, SqL.of (j3 _ _ hg), SqL.of upd_same, _, rfl, ?_⟩
    refine iteT ?_
    have j4 := j1.trans (j2.trans (sg.trans j3))
    generalize upd Hg o3 (.lst []) = Hh at j4 ⊢
    refine ⟨_, rfl, _, rfl, Ah, _, rfl, .inl (SqL.of (j4 _ _ g2)), (by show 0 ≤ sizeLine; decide), fun o4 ho4 => ?_⟩
    have j5 := j4.trans (same_new ho4 (.lst []))
    have i5 : upd Hh o4 (.lst []) o4 = some (.lst []) := upd_same
    generalize upd Hh o4 (.lst []) = Hi at j5 i5 ⊢
    have hrd : rdO [] b (((ah.map V.int).length : Nat) : Int) 0 = .tx [] ah.length := by
      rw [rdO_in can_nil (by rw [List.length_map]; exact hal), List.length_map]; rfl
    refine ⟨Bt, o4, b, (((ah.map V.int).length : Nat) : Int), 0, [], rfl, j5 _ _ hB2, by trivial, by decide, Prs.nil i5, by show 0 ≤ 300; decide, (fun hn => by rw [show rdO (List.map (fun x : Addr × Int × Int => x.2) []) b (((ah.map V.int).length : Nat) : Int) 0 = _ from hrd] at hn; cases hn), (fun hn => by rw [show rdO (List.map (fun x : Addr × Int × Int => x.2) []) b (((ah.map V.int).length : Nat) : Int) 0 = _ from hrd] at hn; cases hn), fun t e he Tt Dt Hj sj hDt hTt hDt' => ?_⟩
    rw [show rdO (List.map (fun x : Addr × Int × Int => x.2) []) b (((ah.map V.int).length : Nat) : Int) 0 = _ from hrd] at he
    cases he
    refine ⟨(by show 0 ≤ sizeLine; decide), fun o5 ho5 => ?_⟩
    have j6 := same_new ho5 (.lst [])
    have i6 : upd Hj o5 (.lst []) o5 = some (lsI []) := upd_same
    generalize upd Hj o5 (.lst []) = Hk at j6 i6 ⊢
    refine ⟨_, rfl, Ah, _, rfl, .inl (SqL.of (j6 _ _ (sj _ _ (j5 _ _ g2)))), (by show 2 ≤ sizeLine; decide), fun o6 ho6 => ?_⟩
    have j7 := same_new ho6 (.tup [V.ref o5, V.int ((ah.map V.int).length : Int)])
    refine ⟨_, _, .tup (SqT.of (j7 _ _ (j6 _ _ hTt))) (.cons (.lst (SqL.of (j7 _ _ (j6 _ _ hDt'))) (Deeps.ints _)) (.cons (.int _) .nil)), .tup (SqT.of upd_same) (.cons (.lst (SqL.of (j7 _ _ i6)) (Deeps.ints _)) (.cons (.int _) .nil)), ht_pair _ _, ?_⟩
    rw [List.length_map, eqD_refl]
    exact q _
end
end K10
set_option Elab.async false
set_option linter.all false
set_option maxRecDepth 100000
set_option maxHeartbeats 4000000
namespace K10
open PySem L2 PySem.W PH
theorem len_1 {α : Type} : ∀ {us : List α}, us.length = 1 → ∃ x0, us = [x0]
  | [x0], _ => ⟨x0, rfl⟩
theorem len_2 {α : Type} : ∀ {us : List α}, us.length = 2 → ∃ x0 x1, us = [x0, x1]
  | [x0, x1], _ => ⟨x0, x1, rfl⟩
theorem len_3 {α : Type} : ∀ {us : List α}, us.length = 3 → ∃ x0 x1 x2, us = [x0, x1, x2]
  | [x0, x1, x2], _ => ⟨x0, x1, x2, rfl⟩
theorem len_4 {α : Type} : ∀ {us : List α}, us.length = 4 → ∃ x0 x1 x2 x3, us = [x0, x1, x2, x3]
  | [x0, x1, x2, x3], _ => ⟨x0, x1, x2, x3, rfl⟩
theorem len_5 {α : Type} : ∀ {us : List α}, us.length = 5 → ∃ x0 x1 x2 x3 x4, us = [x0, x1, x2, x3, x4]
  | [x0, x1, x2, x3, x4], _ => ⟨x0, x1, x2, x3, x4, rfl⟩
theorem len_6 {α : Type} : ∀ {us : List α}, us.length = 6 → ∃ x0 x1 x2 x3 x4 x5, us = [x0, x1, x2, x3, x4, x5]
  | [x0, x1, x2, x3, x4, x5], _ => ⟨x0, x1, x2, x3, x4, x5, rfl⟩
section
theorem all_mk {l : PySem.W.OpenLaw} {w : World} {K : PySem.W.Frag} {h : Heap} {mg : Str → Option Value} {fa f1 f2 f3 f4 f5 f6 f7 f8 f9 f10 f11 f12 f13 f14 f15 f16 f17 f18 f19 f20 f21 f22 f23 f24 c_PackError c_Broken c_NoCode c_NoName c_NoNumber c_NoPlace c_NoRow c_NoText : Addr} (X : K.In h) (G : h.Ns mainGlobals mg) (hfa : mg "law" = some (.ref fa))
    {od1 an1 od2 an2 od3 an3 od4 an4 od5 an5 od6 an6 od7 an7 od8 an8 od9 an9 od10 an10 od11 an11 od12 an12 od13 an13 od14 an14 od15 an15 od16 an16 od17 an17 od18 an18 od19 an19 od20 an20 od21 an21 od22 an22 od23 an23 od24 an24 : Option Addr} {sl1 sl2 sl3 sl4 sl5 sl6 sl7 sl8 sl9 sl10 sl11 sl12 sl13 sl14 sl15 sl16 sl17 sl18 sl19 sl20 sl21 sl22 sl23 sl24 : Array (Option Value)} {oc1 kV1 dc1 pm1 cd1 ct1 oc2 kV2 dc2 pm2 cd2 ct2 oc3 kV3 dc3 pm3 cd3 ct3 oc4 kV4 dc4 pm4 cd4 ct4 oc5 kV5 dc5 pm5 cd5 ct5 oc6 kV6 dc6 pm6 cd6 ct6 oc7 kV7 dc7 pm7 cd7 ct7 oc8 kV8 dc8 pm8 cd8 ct8 oc9 kV9 dc9 pm9 cd9 ct9 oc10 kV10 dc10 pm10 cd10 ct10 oc11 kV11 dc11 pm11 cd11 ct11 oc12 kV12 dc12 pm12 cd12 ct12 oc13 kV13 dc13 pm13 cd13 ct13 oc14 kV14 dc14 pm14 cd14 ct14 oc15 kV15 dc15 pm15 cd15 ct15 oc16 kV16 dc16 pm16 cd16 ct16 oc17 kV17 dc17 pm17 cd17 ct17 oc18 kV18 dc18 pm18 cd18 ct18 oc19 kV19 dc19 pm19 cd19 ct19 oc20 kV20 dc20 pm20 cd20 ct20 oc21 kV21 dc21 pm21 cd21 ct21 oc22 kV22 dc22 pm22 cd22 ct22 oc23 kV23 dc23 pm23 cd23 ct23 oc24 kV24 dc24 pm24 cd24 ct24 : Value}
    {tk_LAST_SIGN tk_LONGEST_WORD : Tok}
    (a1 : PySem.W.nsIn K mainGlobals "low_bits" = some (some (.ref f1))) (l1 : K.lookup f1 = some ⟨oc1, od1, .func (PySem.W.fnOf "low_bits" "low_bits" (defArgs s_low) (defBody s_low) (defScope s_low) .none kV1 dc1 pm1 an1 cd1 ct1), sl1⟩) (cc1 : PySem.W.codeIn K cd1 "low_bits" = true) (k1 : PySem.W.keepIn K (.ref f1) = true)
    (a2 : PySem.W.nsIn K mainGlobals "number_of" = some (some (.ref f2))) (l2 : K.lookup f2 = some ⟨oc2, od2, .func (PySem.W.fnOf "number_of" "number_of" (defArgs s_num) (defBody s_num) (defScope s_num) .none kV2 dc2 pm2 an2 cd2 ct2), sl2⟩) (cc2 : PySem.W.codeIn K cd2 "number_of" = true) (k2 : PySem.W.keepIn K (.ref f2) = true)
    (a3 : PySem.W.nsIn K mainGlobals "signs_rise" = some (some (.ref f3))) (l3 : K.lookup f3 = some ⟨oc3, od3, .func (PySem.W.fnOf "signs_rise" "signs_rise" (defArgs s_rise) (defBody s_rise) (defScope s_rise) .none kV3 dc3 pm3 an3 cd3 ct3), sl3⟩) (cc3 : PySem.W.codeIn K cd3 "signs_rise" = true) (k3 : PySem.W.keepIn K (.ref f3) = true)
    (a4 : PySem.W.nsIn K mainGlobals "have_room" = some (some (.ref f4))) (l4 : K.lookup f4 = some ⟨oc4, od4, .func (PySem.W.fnOf "have_room" "have_room" (defArgs s_room) (defBody s_room) (defScope s_room) .none kV4 dc4 pm4 an4 cd4 ct4), sl4⟩) (cc4 : PySem.W.codeIn K cd4 "have_room" = true) (k4 : PySem.W.keepIn K (.ref f4) = true)
    (a5 : PySem.W.nsIn K mainGlobals "can_be_words" = some (some (.ref f5))) (l5 : K.lookup f5 = some ⟨oc5, od5, .func (PySem.W.fnOf "can_be_words" "can_be_words" (defArgs s_can) (defBody s_can) (defScope s_can) .none kV5 dc5 pm5 an5 cd5 ct5), sl5⟩) (cc5 : PySem.W.codeIn K cd5 "can_be_words" = true) (k5 : PySem.W.keepIn K (.ref f5) = true)
    (a6 : PySem.W.nsIn K mainGlobals "next_word" = some (some (.ref f6))) (l6 : K.lookup f6 = some ⟨oc6, od6, .func (PySem.W.fnOf "next_word" "next_word" (defArgs s_next) (defBody s_next) (defScope s_next) .none kV6 dc6 pm6 an6 cd6 ct6), sl6⟩) (cc6 : PySem.W.codeIn K cd6 "next_word" = true) (k6 : PySem.W.keepIn K (.ref f6) = true)
    (a7 : PySem.W.nsIn K mainGlobals "words_by" = some (some (.ref f7))) (l7 : K.lookup f7 = some ⟨oc7, od7, .func (PySem.W.fnOf "words_by" "words_by" (defArgs s_words) (defBody s_words) (defScope s_words) .none kV7 dc7 pm7 an7 cd7 ct7), sl7⟩) (cc7 : PySem.W.codeIn K cd7 "words_by" = true) (k7 : PySem.W.keepIn K (.ref f7) = true)
    (a8 : PySem.W.nsIn K mainGlobals "coded" = some (some (.ref f8))) (l8 : K.lookup f8 = some ⟨oc8, od8, .func (PySem.W.fnOf "coded" "coded" (defArgs s_coded) (defBody s_coded) (defScope s_coded) .none kV8 dc8 pm8 an8 cd8 ct8), sl8⟩) (cc8 : PySem.W.codeIn K cd8 "coded" = true) (k8 : PySem.W.keepIn K (.ref f8) = true)
    (a9 : PySem.W.nsIn K mainGlobals "read_word" = some (some (.ref f9))) (l9 : K.lookup f9 = some ⟨oc9, od9, .func (PySem.W.fnOf "read_word" "read_word" (defArgs s_readw) (defBody s_readw) (defScope s_readw) .none kV9 dc9 pm9 an9 cd9 ct9), sl9⟩) (cc9 : PySem.W.codeIn K cd9 "read_word" = true) (k9 : PySem.W.keepIn K (.ref f9) = true)
    (a10 : PySem.W.nsIn K mainGlobals "decoded" = some (some (.ref f10))) (l10 : K.lookup f10 = some ⟨oc10, od10, .func (PySem.W.fnOf "decoded" "decoded" (defArgs s_decoded) (defBody s_decoded) (defScope s_decoded) .none kV10 dc10 pm10 an10 cd10 ct10), sl10⟩) (cc10 : PySem.W.codeIn K cd10 "decoded" = true) (k10 : PySem.W.keepIn K (.ref f10) = true)
    (a11 : PySem.W.nsIn K mainGlobals "_law_draw" = some (some (.ref f11))) (l11 : K.lookup f11 = some ⟨oc11, od11, .func (PySem.W.fnOf "_law_draw" "_law_draw" (defArgs s_draw) (defBody s_draw) (defScope s_draw) .none kV11 dc11 pm11 an11 cd11 ct11), sl11⟩) (cc11 : PySem.W.codeIn K cd11 "_law_draw" = true) (k11 : PySem.W.keepIn K (.ref f11) = true)
    (a12 : PySem.W.nsIn K mainGlobals "_law_decks" = some (some (.ref f12))) (l12 : K.lookup f12 = some ⟨oc12, od12, .func (PySem.W.fnOf "_law_decks" "_law_decks" (defArgs s_decks) (defBody s_decks) (defScope s_decks) .none kV12 dc12 pm12 an12 cd12 ct12), sl12⟩) (cc12 : PySem.W.codeIn K cd12 "_law_decks" = true) (k12 : PySem.W.keepIn K (.ref f12) = true)
    (a13 : PySem.W.nsIn K mainGlobals "_law_drawn_lengths" = some (some (.ref f13))) (l13 : K.lookup f13 = some ⟨oc13, od13, .func (PySem.W.fnOf "_law_drawn_lengths" "_law_drawn_lengths" (defArgs s_drawn) (defBody s_drawn) (defScope s_drawn) .none kV13 dc13 pm13 an13 cd13 ct13), sl13⟩) (cc13 : PySem.W.codeIn K cd13 "_law_drawn_lengths" = true) (k13 : PySem.W.keepIn K (.ref f13) = true)
    (a14 : PySem.W.nsIn K mainGlobals "_law_bits" = some (some (.ref f14))) (l14 : K.lookup f14 = some ⟨oc14, od14, .func (PySem.W.fnOf "_law_bits" "_law_bits" (defArgs s_bits) (defBody s_bits) (defScope s_bits) .none kV14 dc14 pm14 an14 cd14 ct14), sl14⟩) (cc14 : PySem.W.codeIn K cd14 "_law_bits" = true) (k14 : PySem.W.keepIn K (.ref f14) = true)
    (a15 : PySem.W.nsIn K mainGlobals "_law_let" = some (some (.ref f15))) (l15 : K.lookup f15 = some ⟨oc15, od15, .func (PySem.W.fnOf "_law_let" "_law_let" (defArgs s_let) (defBody s_let) (defScope s_let) .none kV15 dc15 pm15 an15 cd15 ct15), sl15⟩) (cc15 : PySem.W.codeIn K cd15 "_law_let" = true) (k15 : PySem.W.keepIn K (.ref f15) = true)
    (a16 : PySem.W.nsIn K mainGlobals "_law_words" = some (some (.ref f16))) (l16 : K.lookup f16 = some ⟨oc16, od16, .func (PySem.W.fnOf "_law_words" "_law_words" (defArgs s_lwords) (defBody s_lwords) (defScope s_lwords) .none kV16 dc16 pm16 an16 cd16 ct16), sl16⟩) (cc16 : PySem.W.codeIn K cd16 "_law_words" = true) (k16 : PySem.W.keepIn K (.ref f16) = true)
    (a17 : PySem.W.nsIn K mainGlobals "_law_coded" = some (some (.ref f17))) (l17 : K.lookup f17 = some ⟨oc17, od17, .func (PySem.W.fnOf "_law_coded" "_law_coded" (defArgs s_lcoded) (defBody s_lcoded) (defScope s_lcoded) .none kV17 dc17 pm17 an17 cd17 ct17), sl17⟩) (cc17 : PySem.W.codeIn K cd17 "_law_coded" = true) (k17 : PySem.W.keepIn K (.ref f17) = true)
    (a18 : PySem.W.nsIn K mainGlobals "_law_decoded" = some (some (.ref f18))) (l18 : K.lookup f18 = some ⟨oc18, od18, .func (PySem.W.fnOf "_law_decoded" "_law_decoded" (defArgs s_ldecoded) (defBody s_ldecoded) (defScope s_ldecoded) .none kV18 dc18 pm18 an18 cd18 ct18), sl18⟩) (cc18 : PySem.W.codeIn K cd18 "_law_decoded" = true) (k18 : PySem.W.keepIn K (.ref f18) = true)
    (a19 : PySem.W.nsIn K mainGlobals "_law_kind" = some (some (.ref f19))) (l19 : K.lookup f19 = some ⟨oc19, od19, .func (PySem.W.fnOf "_law_kind" "_law_kind" (defArgs s_kind) (defBody s_kind) (defScope s_kind) .none kV19 dc19 pm19 an19 cd19 ct19), sl19⟩) (cc19 : PySem.W.codeIn K cd19 "_law_kind" = true) (k19 : PySem.W.keepIn K (.ref f19) = true)
    (a20 : PySem.W.nsIn K mainGlobals "_law_bits_right" = some (some (.ref f20))) (l20 : K.lookup f20 = some ⟨oc20, od20, .func (PySem.W.fnOf "_law_bits_right" "_law_bits_right" (defArgs s_bitsr) (defBody s_bitsr) (defScope s_bitsr) .none kV20 dc20 pm20 an20 cd20 ct20), sl20⟩) (cc20 : PySem.W.codeIn K cd20 "_law_bits_right" = true) (k20 : PySem.W.keepIn K (.ref f20) = true)
    (a21 : PySem.W.nsIn K mainGlobals "_law_read_right" = some (some (.ref f21))) (l21 : K.lookup f21 = some ⟨oc21, od21, .func (PySem.W.fnOf "_law_read_right" "_law_read_right" (defArgs s_readr) (defBody s_readr) (defScope s_readr) .none kV21 dc21 pm21 an21 cd21 ct21), sl21⟩) (cc21 : PySem.W.codeIn K cd21 "_law_read_right" = true) (k21 : PySem.W.keepIn K (.ref f21) = true)
    (a22 : PySem.W.nsIn K mainGlobals "_law_coded_right" = some (some (.ref f22))) (l22 : K.lookup f22 = some ⟨oc22, od22, .func (PySem.W.fnOf "_law_coded_right" "_law_coded_right" (defArgs s_codedr) (defBody s_codedr) (defScope s_codedr) .none kV22 dc22 pm22 an22 cd22 ct22), sl22⟩) (cc22 : PySem.W.codeIn K cd22 "_law_coded_right" = true) (k22 : PySem.W.keepIn K (.ref f22) = true)
    (a23 : PySem.W.nsIn K mainGlobals "_law_all_read" = some (some (.ref f23))) (l23 : K.lookup f23 = some ⟨oc23, od23, .func (PySem.W.fnOf "_law_all_read" "_law_all_read" (defArgs s_allr) (defBody s_allr) (defScope s_allr) .none kV23 dc23 pm23 an23 cd23 ct23), sl23⟩) (cc23 : PySem.W.codeIn K cd23 "_law_all_read" = true) (k23 : PySem.W.keepIn K (.ref f23) = true)
    (a24 : PySem.W.nsIn K mainGlobals "law" = some (some (.ref f24))) (l24 : K.lookup f24 = some ⟨oc24, od24, .func (PySem.W.fnOf "law" "law" (defArgs s_law) (defBody s_law) (defScope s_law) .none kV24 dc24 pm24 an24 cd24 ct24), sl24⟩) (cc24 : PySem.W.codeIn K cd24 "law" = true) (k24 : PySem.W.keepIn K (.ref f24) = true)
    (z_isinstance : PySem.W.nsIn K mainGlobals "isinstance" = some none)
    (z_list : PySem.W.nsIn K mainGlobals "list" = some none)
    (z_int : PySem.W.nsIn K mainGlobals "int" = some none)
    (z_bool : PySem.W.nsIn K mainGlobals "bool" = some none)
    (z_len : PySem.W.nsIn K mainGlobals "len" = some none)
    (z_range : PySem.W.nsIn K mainGlobals "range" = some none)
    (z_max : PySem.W.nsIn K mainGlobals "max" = some none)
    (z_ValueError : PySem.W.nsIn K mainGlobals "ValueError" = some none)
    (z_tuple : PySem.W.nsIn K mainGlobals "tuple" = some none)
    (z_min : PySem.W.nsIn K mainGlobals "min" = some none)
    (z_sorted : PySem.W.nsIn K mainGlobals "sorted" = some none)
    (z_all : PySem.W.nsIn K mainGlobals "all" = some none)
    (z_dict : PySem.W.nsIn K mainGlobals "dict" = some none)
    (e_PackError : PySem.W.nsIn K mainGlobals "PackError" = some (some (.ref c_PackError)))
    (x0_PackError : PySem.W.excIn K c_PackError bmV "ValueError.__new__" = true) (x1_PackError : PySem.W.findIn K (.ref c_PackError) "__getattribute__" = some (some (.builtin "BaseException.__getattribute__"))) (x2_PackError : PySem.W.findIn K (.ref c_PackError) "__getattr__" = some none) (x3_PackError : PySem.W.findIn K (.ref c_PackError) "__class__" = some (some (.builtin "object.__class__"))) (x4_PackError : PySem.W.mroIn K c_PackError (.type "object") = some true) (x5_PackError : PySem.W.mroIn K c_PackError (.type "BaseException") = some true) (x6_PackError : PySem.W.typeIn K (.ref c_PackError) = some (.type "type"))
    (e_Broken : PySem.W.nsIn K mainGlobals "Broken" = some (some (.ref c_Broken)))
    (x0_Broken : PySem.W.excIn K c_Broken bmV "ValueError.__new__" = true) (x1_Broken : PySem.W.findIn K (.ref c_Broken) "__getattribute__" = some (some (.builtin "BaseException.__getattribute__"))) (x2_Broken : PySem.W.findIn K (.ref c_Broken) "__getattr__" = some none) (x3_Broken : PySem.W.findIn K (.ref c_Broken) "__class__" = some (some (.builtin "object.__class__"))) (x4_Broken : PySem.W.mroIn K c_Broken (.type "object") = some true) (x5_Broken : PySem.W.mroIn K c_Broken (.type "BaseException") = some true) (x6_Broken : PySem.W.typeIn K (.ref c_Broken) = some (.type "type"))
    (e_NoCode : PySem.W.nsIn K mainGlobals "NoCode" = some (some (.ref c_NoCode)))
    (x0_NoCode : PySem.W.excIn K c_NoCode bmV "ValueError.__new__" = true) (x1_NoCode : PySem.W.findIn K (.ref c_NoCode) "__getattribute__" = some (some (.builtin "BaseException.__getattribute__"))) (x2_NoCode : PySem.W.findIn K (.ref c_NoCode) "__getattr__" = some none) (x3_NoCode : PySem.W.findIn K (.ref c_NoCode) "__class__" = some (some (.builtin "object.__class__"))) (x4_NoCode : PySem.W.mroIn K c_NoCode (.type "object") = some true) (x5_NoCode : PySem.W.mroIn K c_NoCode (.type "BaseException") = some true) (x6_NoCode : PySem.W.typeIn K (.ref c_NoCode) = some (.type "type"))
    (e_NoName : PySem.W.nsIn K mainGlobals "NoName" = some (some (.ref c_NoName)))
    (e_NoNumber : PySem.W.nsIn K mainGlobals "NoNumber" = some (some (.ref c_NoNumber)))
    (x0_NoNumber : PySem.W.excIn K c_NoNumber bmV "ValueError.__new__" = true) (x1_NoNumber : PySem.W.findIn K (.ref c_NoNumber) "__getattribute__" = some (some (.builtin "BaseException.__getattribute__"))) (x2_NoNumber : PySem.W.findIn K (.ref c_NoNumber) "__getattr__" = some none) (x3_NoNumber : PySem.W.findIn K (.ref c_NoNumber) "__class__" = some (some (.builtin "object.__class__"))) (x4_NoNumber : PySem.W.mroIn K c_NoNumber (.type "object") = some true) (x5_NoNumber : PySem.W.mroIn K c_NoNumber (.type "BaseException") = some true) (x6_NoNumber : PySem.W.typeIn K (.ref c_NoNumber) = some (.type "type"))
    (e_NoPlace : PySem.W.nsIn K mainGlobals "NoPlace" = some (some (.ref c_NoPlace)))
    (e_NoRow : PySem.W.nsIn K mainGlobals "NoRow" = some (some (.ref c_NoRow)))
    (e_NoText : PySem.W.nsIn K mainGlobals "NoText" = some (some (.ref c_NoText)))
    (xm_NoCode : PySem.W.mroIn K c_NoCode (.ref c_PackError) = some true)
    (xv_NoCode : PySem.W.kitOne K (.ref c_NoCode) (.type "ValueError") = some true)
    (xo_NoCode : PySem.W.kitAny K (.ref c_NoCode) [.ref c_Broken, .ref c_NoName, .ref c_NoNumber, .ref c_NoPlace, .ref c_NoRow, .ref c_NoText] = some false)
    (xm_Broken : PySem.W.mroIn K c_Broken (.ref c_PackError) = some true)
    (xv_Broken : PySem.W.kitOne K (.ref c_Broken) (.type "ValueError") = some true)
    (xo_Broken : PySem.W.kitAny K (.ref c_Broken) [.ref c_NoCode, .ref c_NoName, .ref c_NoNumber, .ref c_NoPlace, .ref c_NoRow, .ref c_NoText] = some false)
    (xk_NoCode_Broken : PySem.W.kitOne K (.ref c_NoCode) (.ref c_Broken) = some false)
    (xk_NoCode_NoName : PySem.W.kitOne K (.ref c_NoCode) (.ref c_NoName) = some false)
    (xk_NoCode_NoNumber : PySem.W.kitOne K (.ref c_NoCode) (.ref c_NoNumber) = some false)
    (xk_NoCode_NoPlace : PySem.W.kitOne K (.ref c_NoCode) (.ref c_NoPlace) = some false)
    (xk_NoCode_NoRow : PySem.W.kitOne K (.ref c_NoCode) (.ref c_NoRow) = some false)
    (xk_NoCode_NoText : PySem.W.kitOne K (.ref c_NoCode) (.ref c_NoText) = some false)
    (xk_Broken_NoCode : PySem.W.kitOne K (.ref c_Broken) (.ref c_NoCode) = some false)
    (xk_Broken_NoName : PySem.W.kitOne K (.ref c_Broken) (.ref c_NoName) = some false)
    (xk_Broken_NoNumber : PySem.W.kitOne K (.ref c_Broken) (.ref c_NoNumber) = some false)
    (xk_Broken_NoPlace : PySem.W.kitOne K (.ref c_Broken) (.ref c_NoPlace) = some false)
    (xk_Broken_NoRow : PySem.W.kitOne K (.ref c_Broken) (.ref c_NoRow) = some false)
    (xk_Broken_NoText : PySem.W.kitOne K (.ref c_Broken) (.ref c_NoText) = some false)
    (g_LAST_SIGN : PySem.W.nsIn K mainGlobals "LAST_SIGN" = some (some (.int 255 tk_LAST_SIGN)))
    (g_LONGEST_WORD : PySem.W.nsIn K mainGlobals "LONGEST_WORD" = some (some (.int 256 tk_LONGEST_WORD)))
    : ∃ fd : FuncData, (∀ (s : Shared) (v : Value), BindsTo s fd ⟨[v], []⟩ [("script", v)]) ∧ ∀ base : Heap, K.In base → base.Ns mainGlobals mg → FnOk l.prog w K mg base (CXW l.prog w) 8 fa fd ["script"] (spLaw K) := by
  have e := hfa.symm.trans (PySem.W.mg_of X G a24)
  cases e
  have F1 := fun_mk (st := s_low) l1 cc1 k1
  have b1 := F1.binds (ps := ["n", "k"]) fun _ _ _ _ _ _ us hl => by obtain ⟨x0, x1, rfl⟩ := len_2 hl; rfl
  have m1 := PySem.W.mg_of X G a1
  have F2 := fun_mk (st := s_num) l2 cc2 k2
  have b2 := F2.binds (ps := ["bits"]) fun _ _ _ _ _ _ us hl => by obtain ⟨x0, rfl⟩ := len_1 hl; rfl
  have m2 := PySem.W.mg_of X G a2
  have F3 := fun_mk (st := s_rise) l3 cc3 k3
  have b3 := F3.binds (ps := ["pairs"]) fun _ _ _ _ _ _ us hl => by obtain ⟨x0, rfl⟩ := len_1 hl; rfl
  have m3 := PySem.W.mg_of X G a3
  have F4 := fun_mk (st := s_room) l4 cc4 k4
  have b4 := F4.binds (ps := ["lengths"]) fun _ _ _ _ _ _ us hl => by obtain ⟨x0, rfl⟩ := len_1 hl; rfl
  have m4 := PySem.W.mg_of X G a4
  have F5 := fun_mk (st := s_can) l5 cc5 k5
  have b5 := F5.binds (ps := ["lengths"]) fun _ _ _ _ _ _ us hl => by obtain ⟨x0, rfl⟩ := len_1 hl; rfl
  have m5 := PySem.W.mg_of X G a5
  have F6 := fun_mk (st := s_next) l6 cc6 k6
  have b6 := F6.binds (ps := ["word", "length"]) fun _ _ _ _ _ _ us hl => by obtain ⟨x0, x1, rfl⟩ := len_2 hl; rfl
  have m6 := PySem.W.mg_of X G a6
  have F7 := fun_mk (st := s_words) l7 cc7 k7
  have b7 := F7.binds (ps := ["lengths"]) fun _ _ _ _ _ _ us hl => by obtain ⟨x0, rfl⟩ := len_1 hl; rfl
  have m7 := PySem.W.mg_of X G a7
  have F8 := fun_mk (st := s_coded) l8 cc8 k8
  have b8 := F8.binds (ps := ["text", "lengths"]) fun _ _ _ _ _ _ us hl => by obtain ⟨x0, x1, rfl⟩ := len_2 hl; rfl
  have m8 := PySem.W.mg_of X G a8
  have F9 := fun_mk (st := s_readw) l9 cc9 k9
  have b9 := F9.binds (ps := ["bits", "at", "words"]) fun _ _ _ _ _ _ us hl => by obtain ⟨x0, x1, x2, rfl⟩ := len_3 hl; rfl
  have m9 := PySem.W.mg_of X G a9
  have F10 := fun_mk (st := s_decoded) l10 cc10 k10
  have b10 := F10.binds (ps := ["bits", "at", "lengths", "many"]) fun _ _ _ _ _ _ us hl => by obtain ⟨x0, x1, x2, x3, rfl⟩ := len_4 hl; rfl
  have m10 := PySem.W.mg_of X G a10
  have F11 := fun_mk (st := s_draw) l11 cc11 k11
  have b11 := F11.binds (ps := ["deck", "many"]) fun _ _ _ _ _ _ us hl => by obtain ⟨x0, x1, rfl⟩ := len_2 hl; rfl
  have m11 := PySem.W.mg_of X G a11
  have F12 := fun_mk (st := s_decks) l12 cc12 k12
  have b12 := F12.binds (ps := ["script"]) fun _ _ _ _ _ _ us hl => by obtain ⟨x0, rfl⟩ := len_1 hl; rfl
  have m12 := PySem.W.mg_of X G a12
  have F13 := fun_mk (st := s_drawn) l13 cc13 k13
  have b13 := F13.binds (ps := ["script", "most"]) fun _ _ _ _ _ _ us hl => by obtain ⟨x0, x1, rfl⟩ := len_2 hl; rfl
  have m13 := PySem.W.mg_of X G a13
  have F14 := fun_mk (st := s_bits) l14 cc14 k14
  have b14 := F14.binds (ps := ["deck", "most"]) fun _ _ _ _ _ _ us hl => by obtain ⟨x0, x1, rfl⟩ := len_2 hl; rfl
  have m14 := PySem.W.mg_of X G a14
  have F15 := fun_mk (st := s_let) l15 cc15 k15
  have b15 := F15.binds (ps := ["lengths"]) fun _ _ _ _ _ _ us hl => by obtain ⟨x0, rfl⟩ := len_1 hl; rfl
  have m15 := PySem.W.mg_of X G a15
  have F16 := fun_mk (st := s_lwords) l16 cc16 k16
  have b16 := F16.binds (ps := ["lengths"]) fun _ _ _ _ _ _ us hl => by obtain ⟨x0, rfl⟩ := len_1 hl; rfl
  have m16 := PySem.W.mg_of X G a16
  have F17 := fun_mk (st := s_lcoded) l17 cc17 k17
  have b17 := F17.binds (ps := ["text", "lengths"]) fun _ _ _ _ _ _ us hl => by obtain ⟨x0, x1, rfl⟩ := len_2 hl; rfl
  have m17 := PySem.W.mg_of X G a17
  have F18 := fun_mk (st := s_ldecoded) l18 cc18 k18
  have b18 := F18.binds (ps := ["bits", "at", "lengths", "many"]) fun _ _ _ _ _ _ us hl => by obtain ⟨x0, x1, x2, x3, rfl⟩ := len_4 hl; rfl
  have m18 := PySem.W.mg_of X G a18
  have F19 := fun_mk (st := s_kind) l19 cc19 k19
  have b19 := F19.binds (ps := ["way", "one", "two", "lengths", "many"]) fun _ _ _ _ _ _ us hl => by obtain ⟨x0, x1, x2, x3, x4, rfl⟩ := len_5 hl; rfl
  have m19 := PySem.W.mg_of X G a19
  have F20 := fun_mk (st := s_bitsr) l20 cc20 k20
  have b20 := F20.binds (ps := ["found"]) fun _ _ _ _ _ _ us hl => by obtain ⟨x0, rfl⟩ := len_1 hl; rfl
  have m20 := PySem.W.mg_of X G a20
  have F21 := fun_mk (st := s_readr) l21 cc21 k21
  have b21 := F21.binds (ps := ["bits", "at", "lengths", "many"]) fun _ _ _ _ _ _ us hl => by obtain ⟨x0, x1, x2, x3, rfl⟩ := len_4 hl; rfl
  have m21 := PySem.W.mg_of X G a21
  have F22 := fun_mk (st := s_codedr) l22 cc22 k22
  have b22 := F22.binds (ps := ["row", "some"]) fun _ _ _ _ _ _ us hl => by obtain ⟨x0, x1, rfl⟩ := len_2 hl; rfl
  have m22 := PySem.W.mg_of X G a22
  have F23 := fun_mk (st := s_allr) l23 cc23 k23
  have b23 := F23.binds (ps := ["ahead", "bits", "drawn", "lengths", "whole", "signs"]) fun _ _ _ _ _ _ us hl => by obtain ⟨x0, x1, x2, x3, x4, x5, rfl⟩ := len_6 hl; rfl
  have m23 := PySem.W.mg_of X G a23
  have F24 := fun_mk (st := s_law) l24 cc24 k24
  have n_isinstance := PySem.W.mg_none_of X G z_isinstance
  have n_list := PySem.W.mg_none_of X G z_list
  have n_int := PySem.W.mg_none_of X G z_int
  have n_bool := PySem.W.mg_none_of X G z_bool
  have n_len := PySem.W.mg_none_of X G z_len
  have n_range := PySem.W.mg_none_of X G z_range
  have n_max := PySem.W.mg_none_of X G z_max
  have n_ValueError := PySem.W.mg_none_of X G z_ValueError
  have n_tuple := PySem.W.mg_none_of X G z_tuple
  have n_min := PySem.W.mg_none_of X G z_min
  have n_sorted := PySem.W.mg_none_of X G z_sorted
  have n_all := PySem.W.mg_none_of X G z_all
  have n_dict := PySem.W.mg_none_of X G z_dict
  have m_PackError := PySem.W.mg_of X G e_PackError
  have X_PackError : Ex K mg "PackError" c_PackError := ⟨m_PackError, x0_PackError, ⟨x1_PackError, x2_PackError, x3_PackError, x4_PackError, x5_PackError, x6_PackError⟩⟩
  have m_Broken := PySem.W.mg_of X G e_Broken
  have X_Broken : Ex K mg "Broken" c_Broken := ⟨m_Broken, x0_Broken, ⟨x1_Broken, x2_Broken, x3_Broken, x4_Broken, x5_Broken, x6_Broken⟩⟩
  have m_NoCode := PySem.W.mg_of X G e_NoCode
  have X_NoCode : Ex K mg "NoCode" c_NoCode := ⟨m_NoCode, x0_NoCode, ⟨x1_NoCode, x2_NoCode, x3_NoCode, x4_NoCode, x5_NoCode, x6_NoCode⟩⟩
  have m_NoName := PySem.W.mg_of X G e_NoName
  have m_NoNumber := PySem.W.mg_of X G e_NoNumber
  have X_NoNumber : Ex K mg "NoNumber" c_NoNumber := ⟨m_NoNumber, x0_NoNumber, ⟨x1_NoNumber, x2_NoNumber, x3_NoNumber, x4_NoNumber, x5_NoNumber, x6_NoNumber⟩⟩
  have m_NoPlace := PySem.W.mg_of X G e_NoPlace
  have m_NoRow := PySem.W.mg_of X G e_NoRow
  have m_NoText := PySem.W.mg_of X G e_NoText
  refine ⟨PySem.W.fnOf "law" "law" (defArgs s_law) (defBody s_law) (defScope s_law) .none kV24 dc24 pm24 an24 cd24 ct24, fun s v => .of_eq rfl, fun base _ _ => ?_⟩
  have m_LW : LW mg := ⟨_, PySem.W.mg_of X G g_LONGEST_WORD, ⟨_, rfl⟩⟩
  have m_LS : LS mg := ⟨_, PySem.W.mg_of X G g_LAST_SIGN, ⟨_, rfl⟩⟩
  have B : Bls mg := ⟨n_isinstance, n_list, n_int, n_bool, n_len, n_range, n_max, n_ValueError, n_tuple, n_min, n_sorted, n_all, n_dict⟩
  have r_NoCode : ExR K c_PackError c_NoCode c_Broken c_NoName c_NoNumber c_NoPlace c_NoRow c_NoText := ⟨xm_NoCode, xv_NoCode, xo_NoCode⟩
  have r_Broken : ExR K c_PackError c_Broken c_NoCode c_NoName c_NoNumber c_NoPlace c_NoRow c_NoText := ⟨xm_Broken, xv_Broken, xo_Broken⟩
  have k_NoCode : ExK K c_NoCode c_Broken c_NoName c_NoNumber c_NoPlace c_NoRow c_NoText := ⟨xk_NoCode_Broken, xk_NoCode_NoName, xk_NoCode_NoNumber, xk_NoCode_NoPlace, xk_NoCode_NoRow, xk_NoCode_NoText⟩
  have k_Broken : ExK K c_Broken c_NoCode c_NoName c_NoNumber c_NoPlace c_NoRow c_NoText := ⟨xk_Broken_NoCode, xk_Broken_NoName, xk_Broken_NoNumber, xk_Broken_NoPlace, xk_Broken_NoRow, xk_Broken_NoText⟩
  have G_low := ok_low (P := l.prog) (w := w) (mg := mg) (base := base) F1 X_NoNumber n_len
  have G_num := ok_num (P := l.prog) (w := w) (mg := mg) (base := base) F2 
  have G_rise := ok_rise (P := l.prog) (w := w) (mg := mg) (base := base) F3 B m_LS
  have G_room := ok_room (P := l.prog) (w := w) (mg := mg) (base := base) F4 B m_LW
  have G_can := ok_can (P := l.prog) (w := w) (mg := mg) (base := base) F5 B m_LW G_rise b3 k3 m3 G_room b4 k4 m4
  have G_next := ok_next (P := l.prog) (w := w) (mg := mg) (base := base) F6 B G_low b1 k1 m1 G_num b2 k2 m2
  have G_words := ok_words (P := l.prog) (w := w) (mg := mg) (base := base) F7 B X_NoCode m_NoCode G_can b5 k5 m5 G_next b6 k6 m6
  have G_coded := ok_coded (P := l.prog) (w := w) (mg := mg) (base := base) F8 B X_NoCode m_NoCode G_words b7 k7 m7
  have G_readw := ok_readw (P := l.prog) (w := w) (mg := mg) (base := base) F9 B X_Broken m_Broken
  have G_decoded := ok_decoded (P := l.prog) (w := w) (mg := mg) (base := base) F10 B X_Broken m_Broken G_words b7 k7 m7 G_readw b9 k9 m9
  have G_draw := ok_draw (P := l.prog) (w := w) (mg := mg) (base := base) F11 
  have G_decks := ok_decks (P := l.prog) (w := w) (mg := mg) (base := base) F12 n_len n_range
  have G_drawn := ok_drawn (P := l.prog) (w := w) (mg := mg) (base := base) F13 B G_draw b11 k11 m11 G_decks b12 k12 m12
  have G_bits := ok_bits (P := l.prog) (w := w) (mg := mg) (base := base) F14 G_draw b11 k11 m11 n_range
  have G_let := ok_let (P := l.prog) (w := w) (mg := mg) (base := base) F15 B
  have G_lwords := ok_lwords (P := l.prog) (w := w) (mg := mg) (base := base) F16 B
  have G_lcoded := ok_lcoded (P := l.prog) (w := w) (mg := mg) (base := base) F17 B G_let b15 k15 m15 G_lwords b16 k16 m16
  have G_ldecoded := ok_ldecoded (P := l.prog) (w := w) (mg := mg) (base := base) F18 B G_let b15 k15 m15 G_lwords b16 k16 m16
  have G_kind := ok_kind (P := l.prog) (w := w) (mg := mg) (base := base) F19 B X_Broken X_NoCode X_PackError m_Broken m_NoCode m_NoName m_NoNumber m_NoPlace m_NoRow m_NoText m_PackError r_NoCode k_NoCode r_Broken k_Broken G_coded b8 k8 m8 G_decoded b10 k10 m10
  have G_bitsr := ok_bitsr (P := l.prog) (w := w) (mg := mg) (base := base) F20 B
  have G_readr := ok_readr (P := l.prog) (w := w) (mg := mg) (base := base) F21 B G_ldecoded b18 k18 m18 G_kind b19 k19 m19
  have G_codedr := ok_codedr (P := l.prog) (w := w) (mg := mg) (base := base) F22 B G_lcoded b17 k17 m17 G_kind b19 k19 m19 G_bitsr b20 k20 m20
  have G_allr := ok_allr (P := l.prog) (w := w) (mg := mg) (base := base) F23 B G_readr b21 k21 m21
  exact ok_law (P := l.prog) (w := w) (mg := mg) (base := base) F24 B G_coded b8 k8 m8 G_decoded b10 k10 m10 G_draw b11 k11 m11 G_decks b12 k12 m12 G_drawn b13 k13 m13 G_bits b14 k14 m14 G_let b15 k15 m15 G_lcoded b17 k17 m17 G_codedr b22 k22 m22 G_allr b23 k23 m23
theorem walk {l : PySem.W.OpenLaw} {q : Program} {loose : List Str} {XP : (Str → Option Value) → Heap → Prop} {YP : World → Heap → Prop} {d : DefRec} {K : Params → PySem.W.Frag} (hn : l.most = some 63) (hdf : d.params.defaults = [])
    (hY : ∀ (w : World) (h : Heap), YP w h → (K w.params).In h)
    (F : ∀ (w : World) (mg : Str → Option Value) (fa : Addr) (h : Heap), (K w.params).In h → h.Ns mainGlobals mg → mg d.name = some (.ref fa) →
      ∃ fd : FuncData, (∀ (s : Shared) (u : Value), BindsTo s fd ⟨[u], []⟩ [("script", u)]) ∧ ∀ base : Heap, (K w.params).In base → base.Ns mainGlobals mg → FnOk l.prog w (K w.params) mg base (CXW l.prog w) 8 fa fd ["script"] (spLaw (K w.params))) :
    PySem.W.WalkO q loose XP YP l.row.toRowW d [] (fun f vs => PySem.call f vs) :=
  L2.walk_of (n := 63) (k := 8) (x := "script") (CX := fun w => CXW l.prog w) (sp := fun w => spLaw (K w.params)) hn (by decide) hdf ⟨rfl, by decide, by decide⟩ hY F (fun _ _ a ns hl _ hS => ⟨a, ns, rfl, hS, hl, fun _ => rfl⟩) fun _ _ _ _ _ z => by
    obtain ⟨_, _, _, _, _, _, _, _, _, _, _, _, _, hE⟩ := z
    exact hE
end
end K10
theorem PySem.W.Fast.tw7736692800256229284:True:=trivial
theorem PySem.W.Fast.tw8159471292733966978:True:=trivial
theorem PySem.W.Fast.tw10262179104773187342:True:=trivial
theorem PySem.W.Fast.tw17653510884201171968:True:=trivial
theorem PySem.W.Fast.tw10366525826282642727:True:=trivial
theorem PySem.W.Fast.tw9574323958687854523:True:=trivial
theorem PySem.W.Fast.tw8152939160938483158:True:=trivial
theorem PySem.W.Fast.tw18164192325551565490:True:=trivial
theorem PySem.W.Fast.tw7635181479179419445:True:=trivial
theorem PySem.W.Fast.tw18412377535681345484:True:=trivial
theorem PySem.W.Fast.tw5931711214317835953:True:=trivial
theorem PySem.W.Fast.tw9748878668709685430:True:=trivial
theorem PySem.W.Fast.tw16242716937773089148:True:=trivial
theorem PySem.W.Fast.tw12499083400265454946:True:=trivial
theorem PySem.W.Fast.tw2526119564199904958:True:=trivial
theorem PySem.W.Fast.tw3306436791905916170:True:=trivial
theorem PySem.W.Fast.tw17125962250362620529:True:=trivial
theorem PySem.W.Fast.tw5138277690857545738:True:=trivial
theorem PySem.W.Fast.tw3311979916463280913:True:=trivial
theorem PySem.W.Fast.tw5126423631777688183:True:=trivial
theorem PySem.W.Fast.tw5132342057983035571:True:=trivial
theorem PySem.W.Fast.tw12084634420396690744:True:=trivial
theorem PySem.W.Fast.tw54847184141784098:True:=trivial
theorem PySem.W.Fast.tw8974973165798103746:True:=trivial
theorem PySem.W.Fast.tw6289923922803134579:True:=trivial
theorem PySem.W.Fast.tw8245593430517206225:True:=trivial
theorem PySem.W.Fast.tw15481270820228803184:True:=trivial
theorem PySem.W.Fast.tw14819695442736836576:True:=trivial
theorem PySem.W.Fast.tw13883076749101972396:True:=trivial
theorem PySem.W.Fast.tw5913911345015153047:True:=trivial
theorem PySem.W.Fast.tw11458775304447413925:True:=trivial
theorem PySem.W.Fast.tw16155128877955657252:True:=trivial
theorem PySem.W.Fast.tw6910334611173430571:True:=trivial
theorem PySem.W.Fast.tw5474024006780734397:True:=trivial
theorem PySem.W.Fast.tw13469333245500944169:True:=trivial
open PySem PySem.W PyProof.Rows
set_option maxRecDepth 100000 in
set_option maxHeartbeats 0 in
theorem PySem.Challenge.cw_packhall_k10_coded_and_decoded_holds : PySem.Challenge.rw_packhall_k10_coded_and_decoded.Holds := by
  w_on; o_law; k_head; (case hw => w_witness2)
  k_fill
  refine K10.walk (l := PySem.Challenge.rw_packhall_k10_coded_and_decoded) rfl rfl (fun w h Y => PySem.W.kIn_of Y) ?F
  case F =>
    intro w mg fa h KX G hmg
    refine' K10.all_mk KX G hmg ?a1 ?l1 ?cc1 ?k1 ?a2 ?l2 ?cc2 ?k2 ?a3 ?l3 ?cc3 ?k3 ?a4 ?l4 ?cc4 ?k4 ?a5 ?l5 ?cc5 ?k5 ?a6 ?l6 ?cc6 ?k6 ?a7 ?l7 ?cc7 ?k7 ?a8 ?l8 ?cc8 ?k8 ?a9 ?l9 ?cc9 ?k9 ?a10 ?l10 ?cc10 ?k10 ?a11 ?l11 ?cc11 ?k11 ?a12 ?l12 ?cc12 ?k12 ?a13 ?l13 ?cc13 ?k13 ?a14 ?l14 ?cc14 ?k14 ?a15 ?l15 ?cc15 ?k15 ?a16 ?l16 ?cc16 ?k16 ?a17 ?l17 ?cc17 ?k17 ?a18 ?l18 ?cc18 ?k18 ?a19 ?l19 ?cc19 ?k19 ?a20 ?l20 ?cc20 ?k20 ?a21 ?l21 ?cc21 ?k21 ?a22 ?l22 ?cc22 ?k22 ?a23 ?l23 ?cc23 ?k23 ?a24 ?l24 ?cc24 ?k24 ?z_isinstance ?z_list ?z_int ?z_bool ?z_len ?z_range ?z_max ?z_ValueError ?z_tuple ?z_min ?z_sorted ?z_all ?z_dict ?e_PackError ?x0_PackError ?x1_PackError ?x2_PackError ?x3_PackError ?x4_PackError ?x5_PackError ?x6_PackError ?e_Broken ?x0_Broken ?x1_Broken ?x2_Broken ?x3_Broken ?x4_Broken ?x5_Broken ?x6_Broken ?e_NoCode ?x0_NoCode ?x1_NoCode ?x2_NoCode ?x3_NoCode ?x4_NoCode ?x5_NoCode ?x6_NoCode ?e_NoName ?e_NoNumber ?x0_NoNumber ?x1_NoNumber ?x2_NoNumber ?x3_NoNumber ?x4_NoNumber ?x5_NoNumber ?x6_NoNumber ?e_NoPlace ?e_NoRow ?e_NoText ?xm_NoCode ?xv_NoCode ?xo_NoCode ?xm_Broken ?xv_Broken ?xo_Broken ?xk_NoCode_Broken ?xk_NoCode_NoName ?xk_NoCode_NoNumber ?xk_NoCode_NoPlace ?xk_NoCode_NoRow ?xk_NoCode_NoText ?xk_Broken_NoCode ?xk_Broken_NoName ?xk_Broken_NoNumber ?xk_Broken_NoPlace ?xk_Broken_NoRow ?xk_Broken_NoText ?g_LAST_SIGN ?g_LONGEST_WORD
    (case a1 => k_is)
    (case l1 => k_is)
    (case cc1 => k_is)
    (case k1 => k_is)
    (case a2 => k_is)
    (case l2 => k_is)
    (case cc2 => k_is)
    (case k2 => k_is)
    (case a3 => k_is)
    (case l3 => k_is)
    (case cc3 => k_is)
    (case k3 => k_is)
    (case a4 => k_is)
    (case l4 => k_is)
    (case cc4 => k_is)
    (case k4 => k_is)
    (case a5 => k_is)
    (case l5 => k_is)
    (case cc5 => k_is)
    (case k5 => k_is)
    (case a6 => k_is)
    (case l6 => k_is)
    (case cc6 => k_is)
    (case k6 => k_is)
    (case a7 => k_is)
    (case l7 => k_is)
    (case cc7 => k_is)
    (case k7 => k_is)
    (case a8 => k_is)
    (case l8 => k_is)
    (case cc8 => k_is)
    (case k8 => k_is)
    (case a9 => k_is)
    (case l9 => k_is)
    (case cc9 => k_is)
    (case k9 => k_is)
    (case a10 => k_is)
    (case l10 => k_is)
    (case cc10 => k_is)
    (case k10 => k_is)
    (case a11 => k_is)
    (case l11 => k_is)
    (case cc11 => k_is)
    (case k11 => k_is)
    (case a12 => k_is)
    (case l12 => k_is)
    (case cc12 => k_is)
    (case k12 => k_is)
    (case a13 => k_is)
    (case l13 => k_is)
    (case cc13 => k_is)
    (case k13 => k_is)
    (case a14 => k_is)
    (case l14 => k_is)
    (case cc14 => k_is)
    (case k14 => k_is)
    (case a15 => k_is)
    (case l15 => k_is)
    (case cc15 => k_is)
    (case k15 => k_is)
    (case a16 => k_is)
    (case l16 => k_is)
    (case cc16 => k_is)
    (case k16 => k_is)
    (case a17 => k_is)
    (case l17 => k_is)
    (case cc17 => k_is)
    (case k17 => k_is)
    (case a18 => k_is)
    (case l18 => k_is)
    (case cc18 => k_is)
    (case k18 => k_is)
    (case a19 => k_is)
    (case l19 => k_is)
    (case cc19 => k_is)
    (case k19 => k_is)
    (case a20 => k_is)
    (case l20 => k_is)
    (case cc20 => k_is)
    (case k20 => k_is)
    (case a21 => k_is)
    (case l21 => k_is)
    (case cc21 => k_is)
    (case k21 => k_is)
    (case a22 => k_is)
    (case l22 => k_is)
    (case cc22 => k_is)
    (case k22 => k_is)
    (case a23 => k_is)
    (case l23 => k_is)
    (case cc23 => k_is)
    (case k23 => k_is)
    (case a24 => k_is)
    (case l24 => k_is)
    (case cc24 => k_is)
    (case k24 => k_is)
    (case z_isinstance => k_is)
    (case z_list => k_is)
    (case z_int => k_is)
    (case z_bool => k_is)
    (case z_len => k_is)
    (case z_range => k_is)
    (case z_max => k_is)
    (case z_ValueError => k_is)
    (case z_tuple => k_is)
    (case z_min => k_is)
    (case z_sorted => k_is)
    (case z_all => k_is)
    (case z_dict => k_is)
    (case e_PackError => k_is)
    (case x0_PackError => k_exc)
    (case x1_PackError => k_is)
    (case x2_PackError => k_is)
    (case x3_PackError => k_is)
    (case x4_PackError => k_is)
    (case x5_PackError => k_is)
    (case x6_PackError => k_is)
    (case e_Broken => k_is)
    (case x0_Broken => k_exc)
    (case x1_Broken => k_is)
    (case x2_Broken => k_is)
    (case x3_Broken => k_is)
    (case x4_Broken => k_is)
    (case x5_Broken => k_is)
    (case x6_Broken => k_is)
    (case e_NoCode => k_is)
    (case x0_NoCode => k_exc)
    (case x1_NoCode => k_is)
    (case x2_NoCode => k_is)
    (case x3_NoCode => k_is)
    (case x4_NoCode => k_is)
    (case x5_NoCode => k_is)
    (case x6_NoCode => k_is)
    (case e_NoName => k_is)
    (case e_NoNumber => k_is)
    (case x0_NoNumber => k_exc)
    (case x1_NoNumber => k_is)
    (case x2_NoNumber => k_is)
    (case x3_NoNumber => k_is)
    (case x4_NoNumber => k_is)
    (case x5_NoNumber => k_is)
    (case x6_NoNumber => k_is)
    (case e_NoPlace => k_is)
    (case e_NoRow => k_is)
    (case e_NoText => k_is)
    (case xm_NoCode => k_is)
    (case xv_NoCode => kit_is)
    (case xo_NoCode => kit_is)
    (case xm_Broken => k_is)
    (case xv_Broken => kit_is)
    (case xo_Broken => kit_is)
    (case xk_NoCode_Broken => kit_is)
    (case xk_NoCode_NoName => kit_is)
    (case xk_NoCode_NoNumber => kit_is)
    (case xk_NoCode_NoPlace => kit_is)
    (case xk_NoCode_NoRow => kit_is)
    (case xk_NoCode_NoText => kit_is)
    (case xk_Broken_NoCode => kit_is)
    (case xk_Broken_NoName => kit_is)
    (case xk_Broken_NoNumber => kit_is)
    (case xk_Broken_NoPlace => kit_is)
    (case xk_Broken_NoRow => kit_is)
    (case xk_Broken_NoText => kit_is)
    (case g_LAST_SIGN => k_is)
    (case g_LONGEST_WORD => k_is)

