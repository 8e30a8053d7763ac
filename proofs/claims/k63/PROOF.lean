import PyProof.Rows.All
import Wide.All
import OpenK.AllK
import Wide.FinOn
import Lean
import PyProof.EqAt
import PyProof.EqKinds
import PyProof.TupleCall
import PyProof.NsDelKeeps
import PyProof.NeKinds
import PySem.Challenge.RW_packhall_k63_bits_of_containers
local macro_rules | `(tactic| trivial) => `(tactic| first | with_reducible assumption | lia | omega)
set_option Elab.async false
set_option linter.all false
set_option maxRecDepth 100000
namespace L2
open PySem PySem.Spec PyProof.Rows
noncomputable abbrev Key := Sum Int Str
noncomputable def keyIs : Key → Value → Bool
  | .inl k, v => Value.isInt k v
  | .inr x, v => Value.isStrOf x v
noncomputable def keyH (w : World) : Key → Int
  | .inl k => hashInt k
  | .inr x => hashStr w x
theorem keyIs_shape : ∀ {k : Key} {v : Value}, keyIs k v = true → (∃ i t, k = Sum.inl i ∧ v = Value.int i t) ∨ (∃ x t, k = Sum.inr x ∧ v = Value.str x t)
  | .inl i, v, h => by
    obtain ⟨t, e⟩ := Value.isInt_shape (k := i) (v := v) h
    exact .inl ⟨i, t, rfl, e⟩
  | .inr x, v, h => by
    obtain ⟨t, e⟩ := Value.isStrOf_shape (x := x) (v := v) h
    exact .inr ⟨x, t, rfl, e⟩
theorem keyIs_int (i : Int) (t : Tok) : keyIs (.inl i) (.int i t) = true := by simp [keyIs, Value.isInt]
theorem keyIs_str (x : Str) (t : Tok) : keyIs (.inr x) (.str x t) = true := by simp [keyIs, Value.isStrOf]
theorem key_ll (a b : Int) : decide ((Sum.inl a : Key) = Sum.inl b) = (a == b) := by
  by_cases e : a = b
  · subst e; simp
  · have h : ¬ (Sum.inl a : Key) = Sum.inl b := fun q => e (Sum.inl.inj q)
    rw [decide_eq_false h]
    exact (beq_eq_false_iff_ne.mpr e).symm
theorem key_rr (a b : Str) : decide ((Sum.inr a : Key) = Sum.inr b) = decide (a = b) := by
  by_cases e : a = b
  · subst e; simp
  · have h : ¬ (Sum.inr a : Key) = Sum.inr b := fun q => e (Sum.inr.inj q)
    rw [decide_eq_false h, decide_eq_false e]
theorem key_lr (a : Int) (b : Str) : decide ((Sum.inl a : Key) = Sum.inr b) = false := decide_eq_false (fun q => nomatch q)
theorem key_rl (a : Str) (b : Int) : decide ((Sum.inr a : Key) = Sum.inl b) = false := decide_eq_false (fun q => nomatch q)
noncomputable def mixKind (prog : Program) (w : World) : PySem.KeyKind prog w Key where
  is := keyIs
  hash := keyH w
  inj := fun v a b ha hb => by
    rcases keyIs_shape ha with ⟨i, t, rfl, rfl⟩ | ⟨x, t, rfl, rfl⟩
    · rcases keyIs_shape hb with ⟨j, u, rfl, e⟩ | ⟨y, u, rfl, e⟩
      · injection e with e1 _; rw [e1]
      · exact nomatch e
    · rcases keyIs_shape hb with ⟨j, u, rfl, e⟩ | ⟨y, u, rfl, e⟩
      · exact nomatch e
      · injection e with e1 _; rw [e1]
  byValue := fun k v h => by
    rcases keyIs_shape h with ⟨i, t, rfl, rfl⟩ | ⟨x, t, rfl, rfl⟩ <;> rfl
  pyHash := fun hv h => by
    rcases keyIs_shape hv with ⟨i, t, rfl, rfl⟩ | ⟨x, t, rfl, rfl⟩
    · exact wpAny_pyHash_int h
    · exact wpAny_pyHash_str h
  eqBool := fun hu hv h => by
    rcases keyIs_shape hu with ⟨i, t, rfl, rfl⟩ | ⟨x, t, rfl, rfl⟩
    · rcases keyIs_shape hv with ⟨j, u, rfl, rfl⟩ | ⟨y, u, rfl, rfl⟩
      · rw [key_ll] at h; exact wpAny_eqBool_int h
      · rw [key_lr] at h; exact SeqAt.EqAt.int_str i t y u _ _ _ _ h
    · rcases keyIs_shape hv with ⟨j, u, rfl, rfl⟩ | ⟨y, u, rfl, rfl⟩
      · rw [key_rl] at h; exact SeqAt.EqAt.str_int x t j u _ _ _ _ h
      · rw [key_rr] at h; exact wpAny_eqBool_str h
  «strs» := fun k x t v h => by
    rcases keyIs_shape h with ⟨i, u, rfl, e⟩ | ⟨y, u, rfl, e⟩
    · exact nomatch e
    · injection e with e1 _
      subst e1
      cases v <;> rfl
theorem mixKind_int (prog : Program) (w : World) (i : Int) (t : Tok) : (mixKind prog w).is (.inl i) (.int i t) = true := keyIs_int i t
theorem mixKind_str (prog : Program) (w : World) (x : Str) (t : Tok) : (mixKind prog w).is (.inr x) (.str x t) = true := keyIs_str x t
end L2
namespace L2
open PySem PySem.Spec PyProof.Rows
inductive V where
  | non | bl (b : Bool) | int (i : Int) | str (x : Str) | byt (b : Array UInt8) | flt (b : UInt64) | ref (a : Addr) | ty (n : String)
  deriving DecidableEq
noncomputable def RelV : V → Value → Prop
  | .non, u => u = Value.none
  | .bl b, u => u = Value.bool b
  | .int i, u => ∃ t, u = Value.int i t
  | .str x, u => ∃ t, u = Value.str x t
  | .byt b, u => ∃ t, u = Value.bytes b t
  | .flt b, u => ∃ t, u = Value.float b t
  | .ref a, u => u = Value.ref a
  | .ty n, u => u = Value.type n
noncomputable abbrev Vals : List V → List Value → Prop := Paired RelV
theorem Vals.length {xs : List V} {us : List Value} (r : Vals xs us) : xs.length = us.length := Paired.length r
theorem Vals.get : ∀ {xs : List V} {us : List Value} {i : Nat} {x : V}, Vals xs us → xs[i]? = some x → ∃ u, us[i]? = some u ∧ RelV x u
  | _, _, _, _, .nil, e => by simp at e
  | _, _, 0, _, .cons r _, e => by simp at e; subst e; exact ⟨_, rfl, r⟩
  | _, _, i + 1, x, .cons _ t, e => by
    obtain ⟨u, h1, h2⟩ := Vals.get (i := i) (x := x) t (by simpa using e)
    exact ⟨u, by simpa using h1, h2⟩
theorem Vals.append : ∀ {xs ys : List V} {us ws : List Value}, Vals xs us → Vals ys ws → Vals (xs ++ ys) (us ++ ws)
  | _, _, _, _, .nil, s => s
  | _, _, _, _, .cons r t, s => .cons r (Vals.append t s)
theorem Vals.take : ∀ {xs : List V} {us : List Value} (n : Nat), Vals xs us → Vals (xs.take n) (us.take n)
  | _, _, 0, _ => .nil
  | _, _, _ + 1, .nil => .nil
  | _, _, n + 1, .cons r t => .cons r (Vals.take n t)
theorem Vals.drop : ∀ {xs : List V} {us : List Value} (n : Nat), Vals xs us → Vals (xs.drop n) (us.drop n)
  | _, _, 0, r => r
  | _, _, _ + 1, .nil => .nil
  | _, _, n + 1, .cons _ t => Vals.drop n t
noncomputable def RelO : Option V → Option Value → Prop
  | some v, some u => RelV v u
  | none, none => True
  | _, _ => False
noncomputable def KV {κ : Type} : List (κ × V) → List (κ × Value) → Prop := Paired fun (p : κ × V) (q : κ × Value) => p.1 = q.1 ∧ RelV p.2 q.2
noncomputable def kV : Key → V
  | .inl i => .int i
  | .inr x => .str x
inductive HO where
  /-- a list -/
  | lst (xs : List V)
  /-- a tuple (never changes) -/
  | tup (xs : List V)
  /-- a dict whose keys are ints and texts; one whose keys are tuples of ints and texts (the empty one is both) -/
  | dK (kvs : List (Key × V)) | dT (kvs : List (List Key × V))
  /-- a set of ints: its members, its size -/
  | set (S : Int → Bool) (n : Nat)
  /-- an instance of the class at C, its dict at dx, its attributes -/
  | ins (C dx : Addr) (fs : List (Str × V))
  /-- the dict of the instance at x -/
  | own (x : Addr)
  /-- the dict of an exception -/
  | xd (fs : List (Str × V))
  /-- a bound method, f of x -/
  | met (f x : Addr)
  /-- a range object lo, lo + 1, .. below hi -/
  | rng (lo hi : Int)
  /-- a thing that is known to the object (the script; a dict while a loop walks it): read, never written while it is so -/
  | frz (o : Obj) (u : HO)
  /-- a code object's table -/
  | tbl (ps : Array Value)
  /-- any other thing, by what is true of its one object (a def of one's own: SetO a S n := HO.ext fun h => ..) -/
  | ext (φ : Heap → Prop)
noncomputable abbrev Hp := Addr → Option HO
noncomputable def upd (H : Hp) (a : Addr) (o : HO) : Hp := fun b => if b = a then some o else H b
theorem upd_same {H : Hp} {a : Addr} {o : HO} : upd H a o a = some o := by unfold upd; rw [if_pos rfl]
theorem upd_ne {H : Hp} {a b : Addr} {o : HO} (h : b ≠ a) : upd H a o b = H b := by unfold upd; rw [if_neg h]
theorem upd_upd {H : Hp} {a : Addr} {o u : HO} : upd (upd H a o) a u = upd H a u := by
  funext b; unfold upd; split <;> rfl
theorem ne_of {H : Hp} {a b : Addr} {o u : HO} (h : H a = some o) (h' : H b = some u) (d : o ≠ u) : a ≠ b := by
  intro e; subst e; rw [h] at h'; exact d (Option.some.inj h')
theorem ne_of_none {H : Hp} {a b : Addr} {o : HO} (h : H a = some o) (h' : H b = none) : a ≠ b := by
  intro e; subst e; rw [h] at h'; cases h'
section
variable (P : Program) (w : World)
noncomputable def ObjOk (H : Hp) (h : Heap) (a : Addr) : HO → Prop
  | .lst xs => xs.length ≤ sizeLine ∧ ∃ (its : List Value) (n : Nat), Vals xs its ∧ h.get? a = some { cls := .type "list", data := .seq its.toArray n }
  | .tup xs => xs.length ≤ sizeLine ∧ ∃ its : List Value, Vals xs its ∧ IsTup h a its.toArray
  | .dK kvs => kvs.length ≤ sizeLine ∧ (a == sysModules) = false ∧ ∃ vs, KV kvs vs ∧ h.DictOf (mixKind P w) a vs
  | .dT kvs => kvs.length ≤ sizeLine ∧ (a == sysModules) = false ∧ ∃ xs : List (List Key × Addr × Value),
      Paired (fun (p : List Key × V) (q : List Key × Addr × Value) => p.1 = q.1 ∧ H q.2.1 = some (.tup (p.1.map kV)) ∧ RelV p.2 q.2.2) kvs xs ∧
      ∃ o es ep, h.get? a = some o ∧ o.ExactDict ∧ o.data = .dict es ep ∧ es.toList = xs.map (entryOfKey (tupleKind (mixKind P w))) ∧ (xs.map (·.1)).Nodup
  | .set S n => h.SetOf (intKind P w) a S n
  | .ins C dx fs => H dx = some (.own a) ∧ fs.length ≤ 1000 ∧ dx ≠ a ∧ h.get? a = some (PySem.W.instObj C dx) ∧
      ∃ mA, h.Ns1 dx mA ∧ (∀ f, RelO (fs.lookup f) (mA f)) ∧ PySem.Within mA (fs.map (·.1))
  | .own _ => ∃ o, h.get? a = some o
  | .xd fs => ∃ mA, h.Ns1 a mA ∧ ∀ f, RelO (fs.lookup f) (mA f)
  | .rng lo hi => ∃ t u v, h.get? a = some { cls := .type "range", data := .fields #[.int lo t, .int hi u, .int 1 v] }
  | .frz o u => h.get? a = some o ∧ ObjOk H h a u
  | .tbl ps => h.get? a = some { cls := .none, data := .fields ps }
  | .met f x => h.get? a = some (PySem.W.methodObj (.ref f) (.ref x))
  | .ext φ => φ h ∧ (∃ o, h.get? a = some o) ∧ ∀ h1 h2 : Heap, φ h1 → (∀ o, h1.get? a = some o → h2.get? a = some o) → φ h2
noncomputable def HOk (H : Hp) (h : Heap) : Prop := ∀ a o, H a = some o → ObjOk P w H h a o
end
section
variable {P : Program} {w : World} {H H' : Hp} {h h' : Heap} {a : Addr} {o : HO}
theorem ObjOk.lt (x : ObjOk P w H h a o) : a < h.objs.size := by
  cases o with
  | lst xs => obtain ⟨_, _, _, _, e⟩ := x; exact Heap.lt_size e
  | tup xs => obtain ⟨_, _, _, p⟩ := x; exact p.lt
  | dK kvs => obtain ⟨_, _, _, _, o, _, _, e, _⟩ := x; exact Heap.lt_size e
  | dT kvs => obtain ⟨_, _, _, _, o, _, _, e, _⟩ := x; exact Heap.lt_size e
  | set S n => obtain ⟨o, _, _, _, e, _⟩ := x; exact Heap.lt_size e
  | ins C dx fs => obtain ⟨_, _, _, e, _⟩ := x; exact Heap.lt_size e
  | own y => obtain ⟨_, e⟩ := x; exact Heap.lt_size e
  | xd fs => obtain ⟨_, ⟨_, _, _, e, _⟩, _⟩ := x; exact Heap.lt_size e
  | rng lo hi => obtain ⟨_, _, _, e⟩ := x; exact Heap.lt_size e
  | frz ob u => obtain ⟨e, _⟩ := x; exact Heap.lt_size e
  | tbl ps => exact Heap.lt_size (show h.get? a = some _ from x)
  | met f y => exact Heap.lt_size (show h.get? a = some _ from x)
  | ext φ => obtain ⟨_, ⟨_, e⟩, _⟩ := x; exact Heap.lt_size e
theorem Paired.mapP {α β : Type} {F G : α → β → Prop} : ∀ {l₁ : List α} {l₂ : List β}, Paired F l₁ l₂ → (∀ a b, F a b → G a b) → Paired G l₁ l₂
  | _, _, .nil, _ => .nil
  | _, _, .cons r t, f => .cons (f _ _ r) (Paired.mapP t f)
theorem ObjOk.stay (x : ObjOk P w H h a o) (k : ∀ b u, (b = a ∨ H b = some (.own a)) → h.get? b = some u → h'.get? b = some u)
    (ho : ∀ b, H b = some (.own a) → H' b = some (.own a)) (ht : ∀ b xs, H b = some (.tup xs) → H' b = some (.tup xs)) : ObjOk P w H' h' a o := by
  induction o with
  | lst xs => obtain ⟨z, its, n, r, e⟩ := x; exact ⟨z, its, n, r, k _ _ (.inl rfl) e⟩
  | tup xs => obtain ⟨z, its, r, ob, e, c⟩ := x; exact ⟨z, its, r, ob, k _ _ (.inl rfl) e, c⟩
  | dK kvs => obtain ⟨z, y, vs, r, ob, es, ep, e, c⟩ := x; exact ⟨z, y, vs, r, ob, es, ep, k _ _ (.inl rfl) e, c⟩
  | dT kvs =>
    obtain ⟨z, y, xs, r, ob, es, ep, e, c⟩ := x
    exact ⟨z, y, xs, Paired.mapP r fun p q z => ⟨z.1, ht _ _ z.2.1, z.2.2⟩, ob, es, ep, k _ _ (.inl rfl) e, c⟩
  | set S n => obtain ⟨ob, es, ep, t, e, c⟩ := x; exact ⟨ob, es, ep, t, k _ _ (.inl rfl) e, c⟩
  | ins C dx fs =>
    obtain ⟨d, z, ne, e, mA, ⟨od, es, ep, e2, c⟩, r⟩ := x
    exact ⟨ho _ d, z, ne, k _ _ (.inl rfl) e, mA, ⟨od, es, ep, k _ _ (.inr d) e2, c⟩, r⟩
  | own y => obtain ⟨ob, e⟩ := x; exact ⟨ob, k _ _ (.inl rfl) e⟩
  | xd fs => obtain ⟨mA, ⟨od, es, ep, e, c⟩, r⟩ := x; exact ⟨mA, ⟨od, es, ep, k _ _ (.inl rfl) e, c⟩, r⟩
  | rng lo hi => obtain ⟨t, u, v, e⟩ := x; exact ⟨t, u, v, k _ _ (.inl rfl) e⟩
  | frz ob u ih => obtain ⟨e, q⟩ := x; exact ⟨k _ _ (.inl rfl) e, ih q⟩
  | tbl ps =>
    have e : h.get? a = some { cls := .none, data := .fields ps } := x
    show h'.get? a = some { cls := .none, data := .fields ps }
    exact k a _ (.inl rfl) e
  | met f y =>
    have e : h.get? a = some (PySem.W.methodObj (.ref f) (.ref y)) := x
    show h'.get? a = some (PySem.W.methodObj (.ref f) (.ref y))
    exact k a _ (.inl rfl) e
  | ext φ => obtain ⟨p, ⟨o, e⟩, st⟩ := x; exact ⟨st _ _ p fun o q => k _ _ (.inl rfl) q, ⟨o, k _ _ (.inl rfl) e⟩, st⟩
theorem HOk.lt (x : HOk P w H h) (e : H a = some o) : a < h.objs.size := (x a o e).lt
theorem HOk.fresh (x : HOk P w H h) (e : h.objs.size ≤ a) : H a = none := by
  cases q : H a with
  | none => rfl
  | some u => exact absurd (Nat.lt_of_lt_of_le (x.lt q) e) (Nat.lt_irrefl _)
theorem HOk.kept (x : HOk P w H h) (k : ∀ b u, h.get? b = some u → h'.get? b = some u) : HOk P w H h' := fun a o e =>
  (x a o e).stay (fun b u _ q => k b u q) (fun _ q => q) fun _ _ q => q
theorem HOk.laid (x : HOk P w H h) (k : ∀ b u, h.get? b = some u → h'.get? b = some u) (hp : h.objs.size ≤ a) (new : ObjOk P w (upd H a o) h' a o) : HOk P w (upd H a o) h' := fun b u e => by
  have hn := x.fresh hp
  by_cases hb : b = a
  · subst hb; rw [upd_same] at e; cases e; exact new
  · rw [upd_ne hb] at e
    exact (x b u e).stay (fun c v _ q => k c v q) (fun c q => by rw [upd_ne (ne_of_none q hn)]; exact q) fun c xs q => by rw [upd_ne (ne_of_none q hn)]; exact q
end
noncomputable def Rd (H : Hp) (a : Addr) (u : HO) : Prop := H a = some u ∨ ∃ o, H a = some (.frz o u)
theorem Rd.ok {P : Program} {w : World} {H : Hp} {h : Heap} {a : Addr} {u : HO} (r : Rd H a u) (x : HOk P w H h) : ObjOk P w H h a u := by
  rcases r with r | ⟨o, r⟩
  · exact x a u r
  · obtain ⟨_, q⟩ := x a _ r
    exact q
noncomputable def Mut : Option HO → Prop
  | some (.lst _) => True
  | some (.dK _) => True
  | some (.dT _) => True
  | some (.set _ _) => True
  | some (.ins _ _ _) => True
  | some (.ext _) => True
  | _ => False
section
variable {P : Program} {w : World} {H : Hp} {h h' : Heap} {x e : Addr} {o' : HO}
theorem HOk.write (ok : HOk P w H h) (mu : Mut (H x)) (he : e = x ∨ H e = some (.own x)) (k : ∀ b u, b ≠ e → h.get? b = some u → h'.get? b = some u) (heo : ∃ u, h'.get? e = some u)
    (new : ObjOk P w (upd H x o') h' x o') : HOk P w (upd H x o') h' := fun b u q => by
  have nown : ∀ c y, H c = some (.own y) → c ≠ x := fun c y r z => by subst z; rw [r] at mu; exact mu
  have ntup : ∀ c xs, H c = some (.tup xs) → c ≠ x := fun c xs r z => by subst z; rw [r] at mu; exact mu
  by_cases hb : b = x
  · subst hb; rw [upd_same] at q; cases q; exact new
  · rw [upd_ne hb] at q
    by_cases hbe : b = e
    · have q' : H b = some (.own x) := by
        rcases he with z | z
        · exact absurd (hbe.trans z) hb
        · rw [hbe]; exact z
      rw [q] at q'; cases q'
      obtain ⟨v, hv⟩ := heo
      exact ⟨v, by rw [hbe]; exact hv⟩
    · refine (ok b u q).stay (fun c v hc r => k c v ?_ r) (fun c r => by rw [upd_ne (nown c b r)]; exact r) fun c xs r => by rw [upd_ne (ntup c xs r)]; exact r
      rcases hc with rfl | hc
      · exact hbe
      · rintro rfl
        rcases he with z | z
        · exact nown c b hc z
        · rw [hc] at z; cases z; exact hb rfl
end
structure Un (fs ex : List Addr) (H H' : Hp) (h h' : Heap) : Prop where
  keep : ∀ b o, h.get? b = some o → H b = none → b ∉ fs → b ∉ ex → h'.get? b = some o
  slot : ∀ b o, h.get? b = some o → H b = none → b ∈ fs → b ∉ ex → ∃ sl, h'.get? b = some { o with slots := sl }
  free : ∀ b o, h.get? b = some o → H b = none → b ∉ ex → H' b = none
  there : ∀ b o, h.get? b = some o → b ∉ ex → ∃ o', h'.get? b = some o'
  tups : ∀ b xs, H b = some (.tup xs) → H' b = some (.tup xs)
  frzs : ∀ b o u, H b = some (.frz o u) → H' b = some (.frz o u)
  tbls : ∀ b ps, H b = some (.tbl ps) → ∃ more, H' b = some (.tbl (ps ++ more))
section
variable {fs fs' ex ex' : List Addr} {H H1 H2 : Hp} {h h1 h2 h' : Heap} {a x e : Addr} {o : HO}
theorem Un.any (u : Un fs ex H H1 h h1) {b : Addr} {ob : Obj} (q : h.get? b = some ob) (n : H b = none) (hx : b ∉ ex) : ∃ sl, h1.get? b = some { ob with slots := sl } := by
  by_cases hb : b ∈ fs
  · exact u.slot b ob q n hb hx
  · exact ⟨ob.slots, u.keep b ob q n hb hx⟩
theorem Un.kept (k : ∀ b u, h.get? b = some u → h'.get? b = some u) : Un fs ex H H h h' :=
  ⟨fun b ob q _ _ _ => k b ob q, fun b ob q _ _ _ => ⟨ob.slots, k b ob q⟩, fun _ _ _ n _ => n, fun b ob q _ => ⟨ob, k b ob q⟩, fun _ _ q => q, fun _ _ _ q => q, fun _ ps q => ⟨#[], by rw [q]; simp⟩⟩
theorem Un.refl : Un fs ex H H h h := Un.kept fun _ _ q => q
theorem Un.laid (k : ∀ b u, h.get? b = some u → h'.get? b = some u) (hp : h.objs.size ≤ a) (hn : H a = none) : Un fs ex H (upd H a o) h h' where
  keep := fun b u q _ _ _ => k b u q
  slot := fun b u q _ _ _ => ⟨u.slots, k b u q⟩
  free := fun b u q n _ => by rw [upd_ne (Nat.ne_of_lt (Nat.lt_of_lt_of_le (Heap.lt_size q) hp))]; exact n
  there := fun b u q _ => ⟨u, k b u q⟩
  tups := fun b xs q => by rw [upd_ne (ne_of_none q hn)]; exact q
  frzs := fun b u xs q => by rw [upd_ne (ne_of_none q hn)]; exact q
  tbls := fun b ps q => ⟨#[], by rw [upd_ne (ne_of_none q hn), q]; simp⟩
theorem Un.write (mu : Mut (H x)) (he : e = x ∨ H e = some (.own x)) (k : ∀ b u, b ≠ e → h.get? b = some u → h'.get? b = some u) (heo : ∃ u, h'.get? e = some u) : Un fs ex H (upd H x o) h h' := by
  have hx : ∀ b, H b = none → b ≠ x := fun b n z => by subst z; rw [n] at mu; exact mu
  have hb : ∀ b, H b = none → b ≠ e := fun b n z => by
    subst z
    rcases he with r | r
    · exact hx b n r
    · rw [n] at r; cases r
  have hm : ∀ b u, H b = some u → ¬ Mut (some u) → b ≠ x := fun b u q nm z => by subst z; rw [q] at mu; exact nm mu
  refine ⟨fun b u q n _ _ => k b u (hb b n) q, fun b u q n _ _ => ⟨u.slots, k b u (hb b n) q⟩, fun b u q n _ => by rw [upd_ne (hx b n)]; exact n, fun b u q _ => ?_,
    fun b xs q => by rw [upd_ne (hm b _ q fun z => z)]; exact q, fun b u xs q => by rw [upd_ne (hm b _ q fun z => z)]; exact q, fun b ps q => ⟨#[], by rw [upd_ne (hm b _ q fun z => z), q]; simp⟩⟩
  by_cases hbe : b = e
  · subst hbe; exact heo
  · exact ⟨u, k b u hbe q⟩
end
noncomputable def trk (h : Heap) (H : Hp) : List Addr := (List.range h.objs.size).filter fun a => (H a).isSome
noncomputable def hidT (h : Heap) (H : Hp) : Heap := PySem.W.hideAll h (trk h H)
theorem hidT_size (h : Heap) (H : Hp) : (hidT h H).objs.size = h.objs.size := PySem.W.hideAll_size _ _
theorem hidT_get {h : Heap} {H : Hp} {b : Addr} {o : Obj} (e : h.get? b = some o) (n : H b = none) : (hidT h H).get? b = some o :=
  PySem.W.hideAll_get _ e fun hm => by
    have q : (H b).isSome = true := (List.mem_filter.mp hm).2
    rw [n] at q; simp at q
theorem of_hidT {h : Heap} {H : Hp} {b : Addr} {o : Obj} (e : (hidT h H).get? b = some o) : h.get? b = some o ∧ H b = none := by
  have e' : h.get? b = some o := PySem.W.of_hideAll (trk h H) e
  refine ⟨e', ?_⟩
  cases q : H b with
  | none => rfl
  | some x =>
    have hm : b ∈ trk h H := List.mem_filter.mpr ⟨List.mem_range.mpr (Heap.lt_size e'), by simp [q]⟩
    have z : (hidT h H).get? b = none := PySem.W.hideAll_none (trk h H) hm
    rw [z] at e; cases e
end L2
namespace L2
open PySem PySem.Spec PyProof.Rows
structure Mod (K : PySem.W.Frag) (mg : Str → Option Value) (base : Heap) : Prop where
  kin : K.In base
  glob : base.Ns mainGlobals mg
  blt : ∃ mb, base.Ns builtinsNs mb ∧ ∀ x : Str, x ≠ "__name__" → mb x = bootBuiltins x
  nolimit : base.NoLimit
structure Cx where
  prog : Program
  w : World
  K : PySem.W.Frag
  mg : Str → Option Value
  base : Heap
  A : Around
  N : List Str
  s₀ : Shared
  H₀ : Hp
  env : Env
  outer : List Env
  stack : List Env
  ex : List Addr
  fn : Str → Bool
  calm : Bool
  pn : List (Addr × Obj)
  xe : Value → Shared → Prop
noncomputable def frs (l : List Env) : List Addr := l.filterMap (·.frame)
noncomputable abbrev Cx.fs (X : Cx) : List Addr := frs X.outer
noncomputable def Vis (sc : Scope) (x : Str) : Prop := sc.names.lookup x = some .local ∨ sc.names.lookup x = some .cell ∨ sc.names.lookup x = some .free
noncomputable def Loc (sc : Scope) (x : Str) : Prop := sc.names.lookup x = some .local ∨ sc.names.lookup x = some .cell
noncomputable def Look (env : Env) (h : Heap) (m : Str → Option Value) (x : Str) (u : Value) : Prop :=
  (env.kindOf x = some .local ∧ m x = some u) ∨ ((env.kindOf x = some .cell ∨ env.kindOf x = some .free) ∧ ∃ c, env.cells.lookup x = some c ∧ h.IsCell c (some u))
structure Cx.Ok (X : Cx) : Prop where
  mod : Mod X.K X.mg X.base
  kind : X.env.scope.kind = .function
  glob : X.env.globals = mainGlobals
  blt : X.env.builtins = builtinsNs
  above : X.s₀.heap.objs.size ≤ X.env.locals
  inj : ∀ x y c, X.env.cells.lookup x = some c → X.env.cells.lookup y = some c → x = y
  has : ∀ x, (X.env.kindOf x = some .cell ∨ X.env.kindOf x = some .free) → ∃ c, X.env.cells.lookup x = some c
  cab : ∀ x c, X.fn x = true → X.env.cells.lookup x = some c → X.s₀.heap.objs.size ≤ c
  hd : X.calm = true → X.A.handled = none
  frames : X.A.frames = some X.stack
  stk : X.stack = X.outer ∨ (X.stack = X.env :: X.outer ∧ X.env.frame = some X.env.locals)
  exf : ∀ b ∈ X.ex, b ≠ X.env.locals ∧ ∀ x c, X.env.cells.lookup x = some c → c ≠ b
  bs : ∀ b o, X.base.get? b = some o → X.s₀.heap.get? b = some o ∧ X.H₀ b = none
  bsz : X.base.objs.size ≤ X.s₀.heap.objs.size
  noex : ∀ b o, X.base.get? b = some o → b ∉ X.ex
  exfs : ∀ b ∈ X.ex, b ∉ X.fs
  funs : X.s₀.heap.FunFrames X.base X.outer
  frf : ∀ b ∈ X.fs, X.H₀ b = none
structure Inv (X : Cx) (pins : List (Addr × Obj)) (σ : List (Option V)) (H : Hp) (s : Shared) : Prop where
  ok : X.Ok
  os : s.os = X.s₀.os
  bare : AllBare s.gens
  base : Un X.fs X.ex X.H₀ H X.s₀.heap s.heap
  loc : ∃ m, s.heap.Ns X.env.locals m ∧ ∀ (i : Nat) (x : Str) (v : V), X.N[i]? = some x → σ[i]? = some (some v) → Vis X.env.scope x → ∃ u, RelV v u ∧ Look X.env s.heap m x u
  cell : ∀ x c, X.env.cells.lookup x = some c → ∃ v, s.heap.IsCell c v
  free : H X.env.locals = none
  freeC : ∀ x c, X.env.cells.lookup x = some c → H c = none
  pin : ∀ p ∈ X.pn ++ pins, s.heap.get? p.1 = some p.2 ∧ H p.1 = none ∧ p.1 ≠ X.env.locals ∧ p.1 ∉ X.fs ∧ ∀ v, p.2.data ≠ .cell v
  hok : HOk X.prog X.w H s.heap
  len : σ.length = X.N.length
section
variable {X : Cx} {pins : List (Addr × Obj)} {σ : List (Option V)} {H H' : Hp} {s : Shared} {h' : Heap}
theorem Cx.Ok.nofr (ok : X.Ok) {b : Addr} {o : Obj} (e : X.base.get? b = some o) : b ∉ X.fs := fun hb => by
  have := (ok.funs.mem hb).1
  rw [e] at this; cases this
theorem Inv.bs (I : Inv X pins σ H s) : ∀ b o, X.base.get? b = some o → s.heap.get? b = some o ∧ H b = none := fun b o e =>
  ⟨I.base.keep b o (I.ok.bs b o e).1 (I.ok.bs b o e).2 (I.ok.nofr e) (I.ok.noex b o e), I.base.free b o (I.ok.bs b o e).1 (I.ok.bs b o e).2 (I.ok.noex b o e)⟩
theorem Inv.bk (I : Inv X pins σ H s) : ∀ b o, X.base.get? b = some o → s.heap.get? b = some o := fun b o e => (I.bs b o e).1
theorem Inv.mod (I : Inv X pins σ H s) : Mod X.K X.mg X.base := I.ok.mod
theorem Inv.kIn (I : Inv X pins σ H s) : X.K.In s.heap := I.ok.mod.kin.keeps I.bk
theorem Inv.lt (I : Inv X pins σ H s) : X.env.locals < s.heap.objs.size := let ⟨_, hn, _⟩ := I.loc; hn.lt
theorem Inv.sz (I : Inv X pins σ H s) : X.s₀.heap.objs.size ≤ s.heap.objs.size := Nat.le_trans I.ok.above (Nat.le_of_lt I.lt)
theorem Inv.nofs (I : Inv X pins σ H s) {a : Addr} (h : s.heap.objs.size ≤ a) : a ∉ X.fs := fun hb => by
  obtain ⟨_, o, ho, _⟩ := I.ok.funs.mem hb
  exact absurd (Nat.lt_of_lt_of_le (Heap.lt_size ho) (Nat.le_trans I.sz h)) (Nat.lt_irrefl _)
theorem Inv.cne (I : Inv X pins σ H s) : ∀ x c, X.env.cells.lookup x = some c → c ≠ X.env.locals := fun x c e z => by
  obtain ⟨v, o, ho, hd⟩ := I.cell x c e
  obtain ⟨m, ⟨o', es, ep, ho', hd', _⟩, _⟩ := I.loc
  rw [z, ho'] at ho; cases ho; rw [hd'] at hd; cases hd
theorem Inv.funs (I : Inv X pins σ H s) : s.heap.FunFrames X.base X.outer := by
  have all : ∀ (l : List Env), (∀ b ∈ frs l, b ∈ X.fs) → X.s₀.heap.FunFrames X.base l → s.heap.FunFrames X.base l := by
    intro l
    induction l with
    | nil => intro _ _; trivial
    | cons env r ih =>
      intro hs hl
      obtain ⟨hk, ⟨L, o, hf, hn, ho, hd⟩, hr⟩ := hl
      have hL : L ∈ X.fs := hs L (by unfold frs; rw [List.filterMap_cons, hf]; exact List.mem_cons_self)
      obtain ⟨sl, e⟩ := I.base.slot L o ho (I.ok.frf L hL) hL fun z => I.ok.exfs L z hL
      exact ⟨hk, ⟨L, _, hf, hn, e, hd⟩, ih (fun b hb => hs b (by unfold frs; rw [List.filterMap_cons, hf]; exact List.mem_cons_of_mem _ hb)) hr⟩
  exact all X.outer (fun _ hb => hb) I.ok.funs
theorem Inv.stack (I : Inv X pins σ H s) : s.heap.FunFrames X.base X.stack := by
  rcases I.ok.stk with e | ⟨e, hf⟩
  · rw [e]; exact I.funs
  · rw [e]
    obtain ⟨m, hn, _⟩ := I.loc
    refine .cons (by rw [I.ok.kind]; decide) hf hn ?_ I.funs
    exact Heap.get?_none_of_le (Nat.le_trans I.ok.bsz I.ok.above)
theorem Inv.stkSub (I : Inv X pins σ H s) : ∀ b ∈ frs X.stack, b ∈ X.env.locals :: X.fs := fun b hb => by
  rcases I.ok.stk with e | ⟨e, hf⟩
  · rw [e] at hb; exact List.mem_cons_of_mem _ hb
  · rw [e] at hb
    unfold frs at hb
    rw [List.filterMap_cons, hf] at hb
    exact hb
theorem Inv.stkFree (I : Inv X pins σ H s) : ∀ b ∈ frs X.stack, H b = none := fun b hb => by
  rcases List.mem_cons.mp (I.stkSub b hb) with e | hb
  · rw [e]; exact I.free
  · obtain ⟨_, o, ho, _⟩ := I.ok.funs.mem hb
    exact I.base.free b o ho (I.ok.frf b hb) fun z => I.ok.exfs b z hb
theorem Inv.step {g' : Array GenState} {t' : Nat} {d' : Drawn} {ch : List Addr} (I : Inv X pins σ H s)
    (hch : ∀ b ∈ ch, (b ∈ X.ex ∨ X.s₀.heap.objs.size ≤ b) ∧ b ≠ X.env.locals ∧ (∀ x c, X.env.cells.lookup x = some c → c ≠ b) ∧ ∀ p ∈ X.pn ++ pins, p.1 ≠ b)
    (keep : ∀ b o, b ≠ X.env.locals → b ∉ X.fs → b ∉ ch → s.heap.get? b = some o → H b = none → h'.get? b = some o)
    (slot : ∀ b o, b ≠ X.env.locals → b ∈ X.fs → b ∉ ch → s.heap.get? b = some o → H b = none → ∃ sl, h'.get? b = some { o with slots := sl }) (free : ∀ b o, b ∉ ch → s.heap.get? b = some o → H b = none → H' b = none)
    (there : ∀ b o, b ∉ ch → s.heap.get? b = some o → ∃ o', h'.get? b = some o')
    (tups : ∀ b xs, H b = some (.tup xs) → H' b = some (.tup xs)) (frzs : ∀ b o u, H b = some (.frz o u) → H' b = some (.frz o u)) (tbls : ∀ b ps, H b = some (.tbl ps) → ∃ more, H' b = some (.tbl (ps ++ more)))
    (ns : ∀ m, s.heap.Ns X.env.locals m → h'.Ns X.env.locals m) (hok : HOk X.prog X.w H' h') (hg : AllBare g') :
    Inv X pins σ H' { s with heap := h', gens := g', drawn := d', toks := t' } := by
  have neL : ∀ b o, X.s₀.heap.get? b = some o → b ≠ X.env.locals := fun b o e => Nat.ne_of_lt (Nat.lt_of_lt_of_le (Heap.lt_size e) I.ok.above)
  have neC : ∀ b o, X.s₀.heap.get? b = some o → b ∉ X.ex → b ∉ ch := fun b o e hx hb => by
    rcases (hch b hb).1 with z | z
    · exact hx z
    · exact absurd (Nat.lt_of_lt_of_le (Heap.lt_size e) z) (Nat.lt_irrefl _)
  have cellK : ∀ x c, X.env.cells.lookup x = some c → ∀ v, s.heap.IsCell c v → h'.IsCell c v := fun x c e v ⟨o, ho, hd⟩ => by
    have nch : c ∉ ch := fun z => (hch c z).2.2.1 x c e rfl
    by_cases hc : c ∈ X.fs
    · obtain ⟨sl, q⟩ := slot c o (I.cne x c e) hc nch ho (I.freeC x c e)
      exact ⟨_, q, hd⟩
    · exact ⟨o, keep c o (I.cne x c e) hc nch ho (I.freeC x c e), hd⟩
  refine ⟨I.ok, I.os, hg, ⟨fun b o e n hb hx => ?_, fun b o e n hb hx => ?_, fun b o e n hx => ?_, fun b o e hx => ?_, fun b xs e => tups b xs (I.base.tups b xs e), fun b o xs e => frzs b o xs (I.base.frzs b o xs e), fun b ps e => ?_⟩, ?_, fun x c e => ?_, ?_, fun x c e => ?_, fun p hp => ?_, hok, I.len⟩
  · exact keep b o (neL b o e) hb (neC b o e hx) (I.base.keep b o e n hb hx) (I.base.free b o e n hx)
  · obtain ⟨sl, e1⟩ := I.base.slot b o e n hb hx
    obtain ⟨sl', e2⟩ := slot b _ (neL b o e) hb (neC b o e hx) e1 (I.base.free b o e n hx)
    exact ⟨sl', e2⟩
  · obtain ⟨o', e1⟩ := I.base.there b o e hx
    exact free b o' (neC b o e hx) e1 (I.base.free b o e n hx)
  · obtain ⟨o', e1⟩ := I.base.there b o e hx
    exact there b o' (neC b o e hx) e1
  · obtain ⟨m1, e1⟩ := I.base.tbls b ps e
    obtain ⟨m2, e2⟩ := tbls b _ e1
    exact ⟨m1 ++ m2, by rw [e2, Array.append_assoc]⟩
  · obtain ⟨m, hn, hl⟩ := I.loc
    refine ⟨m, ns m hn, fun i x v e1 e2 e3 => ?_⟩
    obtain ⟨u, r, l⟩ := hl i x v e1 e2 e3
    refine ⟨u, r, ?_⟩
    rcases l with l | ⟨k, c, e, z⟩
    · exact .inl l
    · exact .inr ⟨k, c, e, cellK x c e _ z⟩
  · obtain ⟨v, z⟩ := I.cell x c e
    exact ⟨v, cellK x c e v z⟩
  · obtain ⟨m, ⟨o, _, _, ho, _⟩, _⟩ := I.loc
    exact free _ o (fun z => (hch _ z).2.1 rfl) ho I.free
  · obtain ⟨v, o, ho, hd⟩ := I.cell x c e
    exact free c o (fun z => (hch c z).2.2.1 x c e rfl) ho (I.freeC x c e)
  · obtain ⟨e, n, ne, nf, d⟩ := I.pin p hp
    have nch : p.1 ∉ ch := fun z => (hch p.1 z).2.2.2 p hp rfl
    exact ⟨keep p.1 p.2 ne nf nch e n, free p.1 p.2 nch e n, ne, nf, d⟩
theorem Inv.un {t' : Nat} (I : Inv X pins σ H s) (u : Un X.fs [] H H' s.heap h') (hok : HOk X.prog X.w H' h') : Inv X pins σ H' { s with heap := h', toks := t' } := by
  obtain ⟨m, ⟨o, es, ep, ho, r⟩, _⟩ := id I.loc
  obtain ⟨sl, hL⟩ := u.any ho I.free (by simp)
  exact I.step (g' := s.gens) (d' := s.drawn) (ch := []) (fun _ z => nomatch z) (fun b o _ hb _ e n => u.keep b o e n hb (by simp)) (fun b o _ hb _ e n => u.slot b o e n hb (by simp)) (fun b o _ e n => u.free b o e n (by simp)) (fun b o _ e => u.there b o e (by simp)) u.tups u.frzs u.tbls (fun m' hm => by
    obtain ⟨o', es', ep', ho', r'⟩ := hm
    rw [ho] at ho'; cases ho'
    exact ⟨_, es', ep', hL, r'⟩) hok I.bare
theorem Inv.call {g' : Array GenState} {t' : Nat} {d' : Drawn} {ch : List Addr} (I : Inv X pins σ H s) (u : Un (frs X.stack) ch H H' s.heap h') (hok : HOk X.prog X.w H' h') (hg : AllBare g')
    (hch : ∀ b ∈ ch, (b ∈ X.ex ∨ X.s₀.heap.objs.size ≤ b) ∧ b ≠ X.env.locals ∧ (∀ x c, X.env.cells.lookup x = some c → c ≠ b) ∧ ∀ p ∈ X.pn ++ pins, p.1 ≠ b) :
    Inv X pins σ H' { s with heap := h', gens := g', drawn := d', toks := t' } := by
  obtain ⟨m, ⟨o, es, ep, ho, r⟩, _⟩ := id I.loc
  obtain ⟨sl, hL⟩ := u.any ho I.free fun z => (hch _ z).2.1 rfl
  exact I.step (ch := ch) hch (fun b o hL hb hc e n => u.keep b o e n (fun z => (List.mem_cons.mp (I.stkSub b z)).elim hL hb) hc) (fun b o _ _ hc e n => u.any e n hc) (fun b o hc e n => u.free b o e n hc) (fun b o hc e => u.there b o e hc) u.tups u.frzs u.tbls (fun m' hm => by
    obtain ⟨o', es', ep', ho', r'⟩ := hm
    rw [ho] at ho'; cases ho'
    exact ⟨_, es', ep', hL, r'⟩) hok hg
theorem Inv.turned {t' : Nat} {it : Addr} (I : Inv X pins σ H s) (k : ∀ b o, b ≠ it → s.heap.get? b = some o → h'.get? b = some o) (hn : H it = none) (hL : it ≠ X.env.locals)
    (h1 : it ∈ X.ex ∨ X.s₀.heap.objs.size ≤ it) (h2 : ∀ x c, X.env.cells.lookup x = some c → c ≠ it) (h3 : ∀ p ∈ X.pn ++ pins, p.1 ≠ it) : Inv X pins σ H { s with heap := h', toks := t' } := by
  have nit : ∀ b u, H b = some u → b ≠ it := fun b u e z => by rw [z, hn] at e; cases e
  refine I.step (g' := s.gens) (d' := s.drawn) (ch := [it]) (fun b hb => ?_) (fun b o _ _ hc e _ => k b o (fun z => hc (by simp [z])) e) (fun b o _ _ hc e _ => ⟨o.slots, k b o (fun z => hc (by simp [z])) e⟩) (fun _ _ _ _ n => n)
    (fun b o hc e => ⟨o, k b o (fun z => hc (by simp [z])) e⟩) (fun _ _ e => e) (fun _ _ _ e => e) (fun b ps e => ⟨#[], by rw [e]; simp⟩) (fun m hm => ?_) (fun b u e => ?_) I.bare
  · have e : b = it := by simpa using hb
    subst e
    exact ⟨h1, hL, h2, h3⟩
  · obtain ⟨o, es, ep, ho, r⟩ := hm
    exact ⟨o, es, ep, k _ o (Ne.symm hL) ho, r⟩
  · refine (I.hok b u e).stay (fun c v hc q => k c v ?_ q) (fun _ q => q) fun _ _ q => q
    rcases hc with z | z
    · rw [z]; exact nit b u e
    · exact nit c _ z
theorem Inv.tok (I : Inv X pins σ H s) (t : Nat) : Inv X pins σ H { s with toks := t } := I.un (h' := s.heap) (t' := t) Un.refl I.hok
theorem Inv.kept {t' : Nat} (I : Inv X pins σ H s) (k : ∀ b u, s.heap.get? b = some u → h'.get? b = some u) : Inv X pins σ H { s with heap := h', toks := t' } := I.un (Un.kept k) (I.hok.kept k)
theorem Inv.laid {a : Addr} {o : HO} {t' : Nat} (I : Inv X pins σ H s) (k : ∀ b u, s.heap.get? b = some u → h'.get? b = some u) (hp : s.heap.objs.size ≤ a) (new : ObjOk X.prog X.w (upd H a o) h' a o) :
    Inv X pins σ (upd H a o) { s with heap := h', toks := t' } := I.un (Un.laid k hp (I.hok.fresh hp)) (I.hok.laid k hp new)
theorem Inv.write {x e : Addr} {o : HO} {t' : Nat} (I : Inv X pins σ H s) (mu : Mut (H x)) (he : e = x ∨ H e = some (.own x)) (k : ∀ b u, b ≠ e → s.heap.get? b = some u → h'.get? b = some u) (heo : ∃ u, h'.get? e = some u)
    (new : ObjOk X.prog X.w (upd H x o) h' x o) : Inv X pins σ (upd H x o) { s with heap := h', toks := t' } := I.un (Un.write mu he k heo) (I.hok.write mu he k heo new)
theorem Inv.pins_of {pins' : List (Addr × Obj)} (I : Inv X pins σ H s) (h : ∀ p ∈ pins', s.heap.get? p.1 = some p.2 ∧ H p.1 = none ∧ p.1 ≠ X.env.locals ∧ p.1 ∉ X.fs ∧ ∀ v, p.2.data ≠ .cell v) : Inv X pins' σ H s :=
  ⟨I.ok, I.os, I.bare, I.base, I.loc, I.cell, I.free, I.freeC, fun p hp => (List.mem_append.mp hp).elim (fun z => I.pin p (List.mem_append_left _ z)) (h p), I.hok, I.len⟩
theorem nodup_ix {N : List Str} (hN : N.Nodup) {i j : Nat} {x : Str} (a : N[i]? = some x) (b : N[j]? = some x) : i = j := by
  obtain ⟨h1, e1⟩ := List.getElem?_eq_some_iff.mp a
  obtain ⟨h2, e2⟩ := List.getElem?_eq_some_iff.mp b
  exact (List.getElem_inj hN).mp (e1.trans e2.symm)
theorem store_ok2 {M : Model} {A : Around} {E : Value → Shared → Prop} {i : Nat} {x : Str} {v : V} {u : Value} {Q : Unit → Shared → Prop} (I : Inv X pins σ H s) (hN : X.N.Nodup) (hi : X.N[i]? = some x) (hx : Loc X.env.scope x) (r : RelV v u)
    (h : ∀ s', Inv X pins (σ.set i (some v)) H s' → (∃ a, Heap.SameBut a s.heap s'.heap ∧ (a = X.env.locals ∨ X.env.cells.lookup x = some a)) → Q () s') (hf : X.fn x = true ∨ X.env.scope.names.lookup x = some .local := by first | exact .inl rfl | exact .inr rfl | assumption) : wpAny M A (storeName X.env x u) Q E s := by
  obtain ⟨m, hn, hl⟩ := id I.loc
  have hcls : (X.env.scope.kind == .class || (X.env.scope.kind == .module && X.env.locals != X.env.globals)) = false := by rw [I.ok.kind]; rfl
  have hiσ : i < σ.length := by rw [I.len]; exact (List.getElem?_eq_some_iff.mp hi).1
  have cne := I.cne
  have tracked : ∀ {a : Addr} {h' : Heap}, (∃ o, s.heap.get? a = some o ∧ H a = none) → Heap.SameBut a s.heap h' → HOk X.prog X.w H h' := fun {a h'} ha hs b ob e => by
    obtain ⟨_, _, hfree⟩ := ha
    refine (I.hok b ob e).stay (fun c w' hc q => (hs.2 c ?_).trans q) (fun _ q => q) fun _ _ q => q
    rintro rfl
    rcases hc with rfl | hc
    · rw [hfree] at e; cases e
    · rw [hfree] at hc; cases hc
  rcases hx with hk | hk
  · refine wpAny_storeName_local hk hn (fun h' hn' hs => ?_) hcls
    obtain ⟨oL, _, _, hoL, _⟩ := id hn
    refine h _ ⟨I.ok, I.os, I.bare, ⟨fun b o e n hb hx => ?_, fun b o e n hb hx => ?_, I.base.free, fun b o e hx => ?_, I.base.tups, I.base.frzs, I.base.tbls⟩, ⟨_, hn', fun j y v' e1 e2 e3 => ?_⟩, fun y c e => ?_, I.free, I.freeC, fun p hp => ?_, tracked ⟨oL, hoL, I.free⟩ hs, by simpa using I.len⟩ ⟨_, hs, .inl rfl⟩
    · exact (hs.2 b (Nat.ne_of_lt (Nat.lt_of_lt_of_le (Heap.lt_size e) I.ok.above))).trans (I.base.keep b o e n hb hx)
    · obtain ⟨sl, e1⟩ := I.base.slot b o e n hb hx
      exact ⟨sl, (hs.2 b (Nat.ne_of_lt (Nat.lt_of_lt_of_le (Heap.lt_size e) I.ok.above))).trans e1⟩
    · obtain ⟨o', e1⟩ := I.base.there b o e hx
      exact ⟨o', (hs.2 b (Nat.ne_of_lt (Nat.lt_of_lt_of_le (Heap.lt_size e) I.ok.above))).trans e1⟩
    · by_cases hj : j = i
      · subst hj
        rw [hi] at e1; cases e1
        rw [List.getElem?_set_self hiσ] at e2
        cases e2
        exact ⟨u, r, .inl ⟨hk, by simp⟩⟩
      · rw [List.getElem?_set_ne (Ne.symm hj)] at e2
        obtain ⟨u', r', q⟩ := hl j y v' e1 e2 e3
        refine ⟨u', r', ?_⟩
        rcases q with ⟨k, e⟩ | ⟨k, c, e, z⟩
        · refine .inl ⟨k, ?_⟩
          have : y ≠ x := fun e => hj (nodup_ix hN e1 (e ▸ hi))
          simp [this, e]
        · exact .inr ⟨k, c, e, z.sameBut hs (cne y c e)⟩
    · obtain ⟨w', z⟩ := I.cell y c e
      exact ⟨w', z.sameBut hs (cne y c e)⟩
    · obtain ⟨e, n, ne, nf, d⟩ := I.pin p hp
      exact ⟨(hs.2 p.1 ne).trans e, n, ne, nf, d⟩
  · have hfn : X.fn x = true := by
      rcases hf with z | z
      · exact z
      · rw [z] at hk; cases hk
    obtain ⟨c, hc⟩ := I.ok.has x (.inl hk)
    obtain ⟨w', z⟩ := I.cell x c hc
    refine wpAny_storeName_cell I.ok.kind hk hc z (fun h' hc' hs => ?_)
    obtain ⟨oc, hoc, hocd⟩ := id z
    refine h { s with heap := h' } ⟨I.ok, I.os, I.bare, ⟨fun b o e n hb hx => ?_, fun b o e n hb hx => ?_, I.base.free, fun b o e hx => ?_, I.base.tups, I.base.frzs, I.base.tbls⟩, ⟨m, hn.sameBut hs (Ne.symm (cne x c hc)), fun j y v' e1 e2 e3 => ?_⟩, fun y c' e => ?_, I.free, I.freeC, fun p hp => ?_, tracked ⟨oc, hoc, I.freeC x c hc⟩ hs, by simpa using I.len⟩ ⟨c, hs, .inr hc⟩
    · exact (hs.2 b (Nat.ne_of_lt (Nat.lt_of_lt_of_le (Heap.lt_size e) (I.ok.cab x c hfn hc)))).trans (I.base.keep b o e n hb hx)
    · obtain ⟨sl, e1⟩ := I.base.slot b o e n hb hx
      exact ⟨sl, (hs.2 b (Nat.ne_of_lt (Nat.lt_of_lt_of_le (Heap.lt_size e) (I.ok.cab x c hfn hc)))).trans e1⟩
    · obtain ⟨o', e1⟩ := I.base.there b o e hx
      exact ⟨o', (hs.2 b (Nat.ne_of_lt (Nat.lt_of_lt_of_le (Heap.lt_size e) (I.ok.cab x c hfn hc)))).trans e1⟩
    · by_cases hj : j = i
      · subst hj
        rw [hi] at e1; cases e1
        rw [List.getElem?_set_self hiσ] at e2
        cases e2
        exact ⟨u, r, .inr ⟨.inl hk, c, hc, hc'⟩⟩
      · rw [List.getElem?_set_ne (Ne.symm hj)] at e2
        obtain ⟨u', r', q⟩ := hl j y v' e1 e2 e3
        refine ⟨u', r', ?_⟩
        rcases q with q | ⟨k, c', e, z'⟩
        · exact .inl q
        · refine .inr ⟨k, c', e, z'.sameBut hs ?_⟩
          rintro rfl
          exact hj (nodup_ix hN e1 (I.ok.inj _ _ _ e hc ▸ hi))
    · by_cases hcc : c' = c
      · subst hcc; exact ⟨_, hc'⟩
      · obtain ⟨w2, z2⟩ := I.cell y c' e
        exact ⟨w2, z2.sameBut hs hcc⟩
    · obtain ⟨e, n, ne, nf, d⟩ := I.pin p hp
      refine ⟨(hs.2 p.1 ?_).trans e, n, ne, nf, d⟩
      intro q
      rw [q, hoc] at e
      have q' : oc = p.2 := Option.some.inj e
      exact d w' (by rw [← q']; exact hocd)
theorem store_ok {M : Model} {A : Around} {E : Value → Shared → Prop} {i : Nat} {x : Str} {v : V} {u : Value} {Q : Unit → Shared → Prop} (I : Inv X pins σ H s) (hN : X.N.Nodup) (hi : X.N[i]? = some x) (hx : Loc X.env.scope x) (r : RelV v u)
    (h : ∀ s', Inv X pins (σ.set i (some v)) H s' → Q () s') (hf : X.fn x = true ∨ X.env.scope.names.lookup x = some .local := by first | exact .inl rfl | exact .inr rfl | assumption) : wpAny M A (storeName X.env x u) Q E s :=
  store_ok2 I hN hi hx r (fun s' I' _ => h s' I') hf
end
noncomputable abbrev XK := Value → Option Addr → Hp → Prop
noncomputable abbrev St := List (Option V)
noncomputable abbrev VK := V → Hp → Prop
noncomputable abbrev TE := St → Hp → VK → Prop
noncomputable abbrev TT := St → Hp → (Bool → Hp → Prop) → Prop
noncomputable abbrev TA := St → Hp → (List V → Hp → Prop) → Prop
structure Ends where
  nx : St → Hp → Prop
  rt : VK
  bk : St → Hp → Prop := fun _ _ => False
  ct : St → Hp → Prop := fun _ _ => False
noncomputable abbrev TS := Ends → St → Hp → Prop
noncomputable def EP (X : Cx) (pins : List (Addr × Obj)) (σ : St) (Q : VK) (u : Value) (s' : Shared) : Prop := ∃ v H', Inv X pins σ H' s' ∧ RelV v u ∧ Q v H'
noncomputable def TP (X : Cx) (pins : List (Addr × Obj)) (σ : St) (Q : Bool → Hp → Prop) (b : Bool) (s' : Shared) : Prop := ∃ H', Inv X pins σ H' s' ∧ Q b H'
noncomputable def AP (X : Cx) (pins : List (Addr × Obj)) (σ : St) (Q : List V → Hp → Prop) (us : List Value) (s' : Shared) : Prop := ∃ vs H', Inv X pins σ H' s' ∧ Vals vs us ∧ Q vs H'
noncomputable def SP (X : Cx) (pins : List (Addr × Obj)) (D : Ends) (f : Flow) (s' : Shared) : Prop :=
  match f with
  | .next => ∃ σ' H', Inv X pins σ' H' s' ∧ D.nx σ' H'
  | .brk => ∃ σ' H', Inv X pins σ' H' s' ∧ D.bk σ' H'
  | .cont => ∃ σ' H', Inv X pins σ' H' s' ∧ D.ct σ' H'
  | .ret u => ∃ v σ' H', Inv X pins σ' H' s' ∧ RelV v u ∧ D.rt v H'
noncomputable def PE (X : Cx) (e : Expr) (t : TE) : Prop :=
  ∀ (pins : List (Addr × Obj)) (s : Shared) (σ : St) (H : Hp) (Q : VK), Inv X pins σ H s → t σ H Q → wpAny (model X.prog X.w) X.A (eval e X.env) (EP X pins σ Q) X.xe s
noncomputable def PT (X : Cx) (e : Expr) (t : TT) : Prop :=
  ∀ (pins : List (Addr × Obj)) (s : Shared) (σ : St) (H : Hp) (Q : Bool → Hp → Prop), Inv X pins σ H s → t σ H Q → wpAny (model X.prog X.w) X.A (isTrue e X.env (eval e X.env)) (TP X pins σ Q) X.xe s
noncomputable def PW (X : Cx) (e : Expr) (t : TT) : Prop :=
  ∀ (whole : Sem Value) (pins : List (Addr × Obj)) (s : Shared) (σ : St) (H : Hp) (Q : Bool → Hp → Prop), Inv X pins σ H s → t σ H Q → wpAny (model X.prog X.w) X.A (isTrue e X.env whole) (TP X pins σ Q) X.xe s
theorem PW.pt {X : Cx} {e : Expr} {t : TT} (h : PW X e t) : PT X e t := h _
noncomputable def PA (X : Cx) (es : List Expr) (t : TA) : Prop :=
  ∀ (pos : Pos) (pins : List (Addr × Obj)) (s : Shared) (σ : St) (H : Hp) (Q : List V → Hp → Prop), Inv X pins σ H s → t σ H Q → wpAny (model X.prog X.w) X.A (spliced (backTo pos (starEach es X.env))) (AP X pins σ Q) X.xe s
noncomputable def PS (X : Cx) (st : Stmt) (t : TS) : Prop :=
  ∀ (pins : List (Addr × Obj)) (s : Shared) (σ : St) (H : Hp) (D : Ends), Inv X pins σ H s → t D σ H → wpAny (model X.prog X.w) X.A (exec st X.env) (SP X pins D) X.xe s
noncomputable def PSs (X : Cx) (st : List Stmt) (t : TS) : Prop :=
  ∀ (pins : List (Addr × Obj)) (s : Shared) (σ : St) (H : Hp) (D : Ends), Inv X pins σ H s → t D σ H → wpAny (model X.prog X.w) X.A (execs st X.env) (SP X pins D) X.xe s
theorem thn {α : Type} {t : Sem α} {Q Q' : α → Shared → Prop} {M : Model} {A : Around} {E : Value → Shared → Prop} {s : Shared} (h : wpAny M A t Q E s) (hQ : ∀ a s, Q a s → Q' a s) : wpAny M A t Q' E s := wpAny_mono h hQ fun _ _ x => x
end L2
namespace L2
open PySem PySem.Spec PyProof.Rows
section
variable {X : Cx}
theorem bin {a b : Expr} {ta tb : TE} (ha : PE X a ta) (hb : PE X b tb) {pins : List (Addr × Obj)} {s : Shared} {σ : St} {H : Hp} {R : V → V → Hp → Prop} (I : Inv X pins σ H s) (h : ta σ H fun x H1 => tb σ H1 fun y H2 => R x y H2)
    {α : Type} {Q : α → Shared → Prop} {f : Value → Value → Sem α}
    (hf : ∀ v u s2 x y H2, Inv X pins σ H2 s2 → RelV x v → RelV y u → R x y H2 → wpAny (model X.prog X.w) X.A (f v u) Q X.xe s2) :
    wpAny (model X.prog X.w) X.A (eval a X.env) (fun v s₁ => wpAny (model X.prog X.w) X.A (eval b X.env) (fun u s₂ => wpAny (model X.prog X.w) X.A (f v u) Q X.xe s₂) X.xe s₁) X.xe s := by
  refine thn (ha pins s σ H _ I h) fun v s1 ⟨x, H1, I1, r1, q1⟩ => ?_
  refine thn (hb pins s1 σ H1 _ I1 q1) fun u s2 ⟨y, H2, I2, r2, q2⟩ => ?_
  exact hf v u s2 x y H2 I2 r1 r2 q2
noncomputable def tVar (i : Nat) : TE := fun σ H Q => ∃ v, σ[i]? = some (some v) ∧ Q v H
noncomputable def tC (v : V) : TE := fun _ H Q => Q v H
theorem pe_var {i : Nat} {x : Str} {pos : Pos} (hN : X.N[i]? = some x) (hv : Vis X.env.scope x) (hd : (x == ("__debug__" : Str)) = false := by decide) (hcd : (x == ("__classdict__" : Str)) = false := by decide) : PE X (.Name x pos) (tVar i) := by
  intro pins s σ H Q I h
  obtain ⟨v, e, h⟩ := h
  obtain ⟨m, hn, hl⟩ := I.loc
  obtain ⟨u, r, l⟩ := hl i x v hN e hv
  have fin : EP X pins σ Q u s := ⟨v, H, I, r, h⟩
  rcases l with ⟨hk, hm⟩ | ⟨hk, c, hc, hcell⟩
  · exact wpAny_Name (wpAny_loadName_local I.ok.kind hk hn hm fin) hd
  · rcases hk with hk | hk
    · exact wpAny_Name (wpAny_loadName_cell I.ok.kind hk hc hcell fin) hd
    · exact wpAny_Name (wpAny_loadName_free I.ok.kind hk hc hcell fin hcd) hd
theorem pe_int {i j pos} : PE X (.Constant (.int i) j pos) (tC (.int i)) := fun _ _ _ H _ I h => wpAny_Constant_int ⟨.int i, H, I.tok _, ⟨_, rfl⟩, h⟩
theorem pe_bl {b j pos} : PE X (.Constant (.bool b) j pos) (tC (.bl b)) := fun _ _ _ H _ I h => Constant_bool ⟨.bl b, H, I, rfl, h⟩
theorem pe_non {j pos} : PE X (.Constant .none j pos) (tC .non) := fun _ _ _ H _ I h => Constant_none ⟨.non, H, I, rfl, h⟩
theorem pe_str {x j pos} : PE X (.Constant (.str x) j pos) (tC (.str x)) := fun _ _ _ H _ I h => Calls.Constant_str ⟨.str x, H, I.tok _, ⟨_, rfl⟩, h⟩
noncomputable def Gl (X : Cx) (x : Str) : Prop := X.env.kindOf x = some .globalImplicit
theorem ld_glob {E : Value → Shared → Prop} {pins : List (Addr × Obj)} {s : Shared} {σ : St} {H : Hp} {x : Str} {u : Value} {pos : Pos} {Q : Value → Shared → Prop} (I : Inv X pins σ H s) (hg : Gl X x) (hm : X.mg x = some u) (h : Q u s)
    (hd : (x == ("__debug__" : Str)) = false := by decide) : wpAny (model X.prog X.w) X.A (eval (.Name x pos) X.env) Q E s :=
  Calls.Name_function_global I.ok.kind hg (Calls.loadGlobal_global (by rw [I.ok.glob]; exact I.mod.glob.keeps I.bk) hm h) hd
theorem ld_blt {E : Value → Shared → Prop} {pins : List (Addr × Obj)} {s : Shared} {σ : St} {H : Hp} {x : Str} {u : Value} {pos : Pos} {Q : Value → Shared → Prop} (I : Inv X pins σ H s) (hg : Gl X x) (hm : X.mg x = none) (hv : bootBuiltins x = some u) (h : Q u s)
    (hn : x ≠ "__name__" := by decide) (hd : (x == ("__debug__" : Str)) = false := by decide) : wpAny (model X.prog X.w) X.A (eval (.Name x pos) X.env) Q E s := by
  obtain ⟨mb, h1, h2⟩ := I.mod.blt
  exact Calls.Name_function_global I.ok.kind hg (Calls.loadGlobal_builtin (by rw [I.ok.glob]; exact I.mod.glob.keeps I.bk) hm (by rw [I.ok.blt]; exact h1.keeps I.bk) ((h2 x hn).trans hv) h) hd
theorem pe_glob {x : Str} {v : V} {u : Value} {pos : Pos} (hg : Gl X x) (hm : X.mg x = some u) (r : RelV v u) (hd : (x == ("__debug__" : Str)) = false := by decide) : PE X (.Name x pos) (tC v) :=
  fun _ _ _ H _ I h => ld_glob I hg hm ⟨v, H, I, r, h⟩ hd
theorem pe_bltn {x : Str} {v : V} {u : Value} {pos : Pos} (hg : Gl X x) (hm : X.mg x = none) (hv : bootBuiltins x = some u) (r : RelV v u) (hn : x ≠ "__name__" := by decide) (hd : (x == ("__debug__" : Str)) = false := by decide) : PE X (.Name x pos) (tC v) :=
  fun _ _ _ H _ I h => ld_blt I hg hm hv ⟨v, H, I, r, h⟩ hn hd
variable {a b : Expr} {ta tb : TE} {pos : Pos}
noncomputable def PC (X : Cx) (op : CmpOp) (a b : Expr) (t : TE) : Prop :=
  ∀ (pins : List (Addr × Obj)) (s : Shared) (σ : St) (H : Hp) (Q : VK), Inv X pins σ H s → t σ H Q →
    wpAny (model X.prog X.w) X.A (eval a X.env) (fun v s₁ => wpAny (model X.prog X.w) X.A (eval b X.env) (fun u s₂ => wpAny (model X.prog X.w) X.A (compareOp op v u) (EP X pins σ Q) X.xe s₂) X.xe s₁) X.xe s
theorem nobehind (b : Expr) {op : CmpOp} (h : op ≠ .In) (h2 : op ≠ .NotIn) : behindInMarks op b = false := by
  have e1 : (op == CmpOp.In) = false := by cases op <;> first | rfl | exact absurd rfl h
  have e2 : (op == CmpOp.NotIn) = false := by cases op <;> first | rfl | exact absurd rfl h2
  cases b <;> simp [behindInMarks, e1, e2]
noncomputable def tIsN (ta : TE) : TE := fun σ H Q => ta σ H fun x H1 => Q (.bl (decide (x = .non))) H1
noncomputable def tNotN (ta : TE) : TE := fun σ H Q => ta σ H fun x H1 => Q (.bl (!decide (x = .non))) H1
theorem RelV.none_iff {x : V} {v : Value} (r : RelV x v) : (v == Value.none) = decide (x = .non) := by
  cases x with
  | non => cases r; rfl
  | bl _ => cases r; rfl
  | int _ => obtain ⟨t, rfl⟩ := r; rfl
  | str _ => obtain ⟨t, rfl⟩ := r; rfl
  | byt _ => obtain ⟨t, rfl⟩ := r; rfl
  | flt _ => obtain ⟨t, rfl⟩ := r; rfl
  | ref _ => cases r; rfl
  | ty _ => cases r; rfl
theorem pc_isN {j pos'} (ha : PE X a ta) : PC X .Is a (.Constant .none j pos') (tIsN ta) := by
  intro pins s σ H Q I h
  refine thn (ha pins s σ H _ I h) fun v s1 ⟨x, H1, I1, r1, q1⟩ => ?_
  exact Constant_none (is_none_gen ⟨.bl _, H1, I1, by rw [r1.none_iff]; rfl, q1⟩)
theorem pc_notN {j pos'} (ha : PE X a ta) : PC X .IsNot a (.Constant .none j pos') (tNotN ta) := by
  intro pins s σ H Q I h
  refine thn (ha pins s σ H _ I h) fun v s1 ⟨x, H1, I1, r1, q1⟩ => ?_
  exact Constant_none (isnot_none_gen ⟨.bl _, H1, I1, by rw [r1.none_iff]; rfl, q1⟩)
noncomputable def tB (t : TE) : TT := fun σ H Q => t σ H fun x H1 => ∃ c, x = .bl c ∧ Q c H1
theorem pe_cmp {op : CmpOp} {t : TE} (h : PC X op a b t) (h1 : behindInMarks op b = false := by first | exact nobehind _ (by decide) (by decide) | rfl) : PE X (.Compare a [op] [b] pos) t := fun pins s σ H Q I hw => wpAny_Compare1 (h pins s σ H Q I hw) h1
theorem pt_cmp {op : CmpOp} {t : TE} (h : PC X op a b t) (h1 : behindInMarks op b = false := by first | exact nobehind _ (by decide) (by decide) | rfl) : PT X (.Compare a [op] [b] pos) (tB t) := by
  intro pins s σ H Q I hw
  refine wpAny_isTrue_Compare1 (thn (h pins s σ H _ I hw) fun v s1 h1 => thn h1 fun u s2 h2 => thn h2 fun c s3 ⟨x, H1, I1, r1, q1⟩ => ?_) h1
  obtain ⟨d, rfl, q⟩ := q1
  cases r1
  exact wpAny_truthy_bool ⟨H1, I1, q⟩
theorem pt_val {e : Expr} {t : TE} (h : PE X e t) (he : ∀ whole, isTrue e X.env whole = (do let v ← whole; standAt e.pos; holding [v] (truthy v)) := by intro _; rfl) : PT X e (tB t) := by
  intro pins s σ H Q I hw
  refine isTrue_plain (thn (h pins s σ H _ I hw) fun v s1 ⟨x, H1, I1, r1, q1⟩ => ?_) (he _)
  obtain ⟨d, rfl, q⟩ := q1
  cases r1
  exact wpAny_truthy_bool ⟨H1, I1, q⟩
variable {tA tB' : TT} {rest : List Expr}
noncomputable def tAnd (t u : TT) : TT := fun σ H Q => t σ H fun c H1 => if c = true then u σ H1 Q else Q false H1
noncomputable def tOr (t u : TT) : TT := fun σ H Q => t σ H fun c H1 => if c = true then Q true H1 else u σ H1 Q
noncomputable def tNot (t : TT) : TT := fun σ H Q => t σ H fun c H1 => Q (!c) H1
theorem pw_and1 (ha : PT X a tA) : PW X (.BoolOp .And [a] pos) tA := by
  intro wh pins s σ H Q I h
  refine isTrue_and (thn (ha pins s σ H Q I h) fun c s1 e => ?_)
  cases c with
  | true => exact isTrue_and_nil e
  | false => exact e
theorem pw_or1 (ha : PT X a tA) : PW X (.BoolOp .Or [a] pos) tA := by
  intro wh pins s σ H Q I h
  refine isTrue_or (thn (ha pins s σ H Q I h) fun c s1 e => ?_)
  cases c with
  | false => exact isTrue_or_nil e
  | true => exact e
theorem pw_and (ha : PT X a tA) (hb : PW X (.BoolOp .And (b :: rest) pos) tB') : PW X (.BoolOp .And (a :: b :: rest) pos) (tAnd tA tB') := by
  intro wh pins s σ H Q I h
  refine isTrue_and (thn (ha pins s σ H _ I h) fun c s1 ⟨H1, I1, q1⟩ => ?_)
  cases c with
  | true => exact hb wh pins s1 σ H1 Q I1 q1
  | false => exact ⟨H1, I1, q1⟩
theorem pw_or (ha : PT X a tA) (hb : PW X (.BoolOp .Or (b :: rest) pos) tB') : PW X (.BoolOp .Or (a :: b :: rest) pos) (tOr tA tB') := by
  intro wh pins s σ H Q I h
  refine isTrue_or (thn (ha pins s σ H _ I h) fun c s1 ⟨H1, I1, q1⟩ => ?_)
  cases c with
  | true => exact ⟨H1, I1, q1⟩
  | false => exact hb wh pins s1 σ H1 Q I1 q1
theorem pt_not (ha : PT X a tA) : PT X (.UnaryOp .Not a pos) (tNot tA) := by
  intro pins s σ H Q I h
  exact isTrue_not (ha pins s σ H (fun c H1 => Q (!c) H1) I h)
noncomputable def tAndV (ta tb : TE) : TE := fun σ H Q => ta σ H fun x H1 => ∃ c, x = .bl c ∧ if c = true then tb σ H1 Q else Q (.bl false) H1
noncomputable def tOrV (ta tb : TE) : TE := fun σ H Q => ta σ H fun x H1 => ∃ c, x = .bl c ∧ if c = true then Q (.bl true) H1 else tb σ H1 Q
noncomputable def tNotV (ta : TE) : TE := fun σ H Q => ta σ H fun x H1 => ∃ c, x = .bl c ∧ Q (.bl (!c)) H1
theorem pe_one {op} {t : TE} (h : PE X a t) : PE X (.BoolOp op [a] pos) t := fun pins s σ H Q I hw => BoolOp_one (h pins s σ H Q I hw)
theorem pe_and (ha : PE X a ta) (hb : PE X (.BoolOp .And (b :: rest) pos) tb) : PE X (.BoolOp .And (a :: b :: rest) pos) (tAndV ta tb) := by
  intro pins s σ H Q I h
  refine BoolOp_and (thn (ha pins s σ H _ I h) fun v s1 ⟨x, H1, I1, r1, q1⟩ => ?_)
  obtain ⟨c, rfl, q1⟩ := q1
  cases r1
  refine wpAny_truthy_bool ?_
  cases c with
  | true => exact hb pins s1 σ H1 Q I1 q1
  | false => exact ⟨.bl false, H1, I1, rfl, q1⟩
theorem pe_or (ha : PE X a ta) (hb : PE X (.BoolOp .Or (b :: rest) pos) tb) : PE X (.BoolOp .Or (a :: b :: rest) pos) (tOrV ta tb) := by
  intro pins s σ H Q I h
  refine BoolOp_or (thn (ha pins s σ H _ I h) fun v s1 ⟨x, H1, I1, r1, q1⟩ => ?_)
  obtain ⟨c, rfl, q1⟩ := q1
  cases r1
  refine wpAny_truthy_bool ?_
  cases c with
  | false => exact hb pins s1 σ H1 Q I1 q1
  | true => exact ⟨.bl true, H1, I1, rfl, q1⟩
theorem pe_not (ha : PE X a ta) : PE X (.UnaryOp .Not a pos) (tNotV ta) := by
  intro pins s σ H Q I h
  refine UnaryOp_ (thn (ha pins s σ H _ I h) fun v s1 ⟨x, H1, I1, r1, q1⟩ => ?_)
  obtain ⟨c, rfl, q1⟩ := q1
  cases r1
  exact not_of (wpAny_truthy_bool ⟨.bl (!c), H1, I1, rfl, q1⟩)
end
end L2
namespace L2
open PySem PySem.Spec PyProof.Rows
noncomputable def SqL (K : PySem.W.Frag) (H : Hp) (a : Addr) (xs : List V) : Prop :=
  Rd H a (.lst xs) ∨
    ∃ (o : Obj) (its : Array Value) (n : Nat), K.lookup a = some o ∧ o.cls = .type "list" ∧ o.dict = none ∧ o.data = .seq its n ∧ its.size ≤ sizeLine ∧ Vals xs its.toList
noncomputable def SqT (K : PySem.W.Frag) (H : Hp) (a : Addr) (xs : List V) : Prop :=
  Rd H a (.tup xs) ∨
    ∃ (o : Obj) (its : Array Value) (n : Nat), K.lookup a = some o ∧ o.cls = .type "tuple" ∧ o.data = .seq its n ∧ its.size ≤ sizeLine ∧ Vals xs its.toList
noncomputable def absV : Value → Option V
  | .none => some .non
  | .bool b => some (.bl b)
  | .int i _ => some (.int i)
  | .str x _ => some (.str x)
  | .bytes b _ => some (.byt b)
  | .float b _ => some (.flt b)
  | .ref a => some (.ref a)
  | .type n => some (.ty n)
  | _ => none
theorem RelV.abs {x : V} {u : Value} (r : RelV x u) : absV u = some x := by
  cases x with
  | non => cases r; rfl
  | bl _ => cases r; rfl
  | int _ => obtain ⟨t, rfl⟩ := r; rfl
  | str _ => obtain ⟨t, rfl⟩ := r; rfl
  | byt _ => obtain ⟨t, rfl⟩ := r; rfl
  | flt _ => obtain ⟨t, rfl⟩ := r; rfl
  | ref _ => cases r; rfl
  | ty _ => cases r; rfl
theorem RelV.inj {x y : V} {u : Value} (r : RelV x u) (q : RelV y u) : x = y := Option.some.inj (r.abs.symm.trans q.abs)
theorem Vals.inj : ∀ {xs ys : List V} {us : List Value}, Vals xs us → Vals ys us → xs = ys
  | _, _, _, .nil, .nil => rfl
  | _, _, _, .cons r t, .cons r' t' => by rw [r.inj r', Vals.inj t t']
section
variable {X : Cx} {pins : List (Addr × Obj)} {σ : St} {H : Hp} {s : Shared} {a : Addr} {xs ys : List V}
theorem SqL.of {K : PySem.W.Frag} (h : H a = some (.lst xs)) : SqL K H a xs := .inl (.inl h)
theorem SqT.of {K : PySem.W.Frag} (h : H a = some (.tup xs)) : SqT K H a xs := .inl (.inl h)
theorem Inv.list (I : Inv X pins σ H s) (h : SqL X.K H a xs) : ∃ its : List Value, Vals xs its ∧ PlainL s.heap a its.toArray ∧ xs.length ≤ sizeLine := by
  rcases h with h | ⟨o, its, n, hk, hc, hd, hs, hz, r⟩
  · obtain ⟨z, its, n, r, e⟩ := h.ok I.hok
    exact ⟨its, r, ⟨_, n, e, rfl, rfl, rfl⟩, z⟩
  · refine ⟨its.toList, r, ⟨o, n, I.kIn a o hk, hc, hd, by simpa using hs⟩, ?_⟩
    have e := r.length
    simp only [Array.length_toList] at e
    trivial
theorem Inv.tuple (I : Inv X pins σ H s) (h : SqT X.K H a xs) : ∃ its : List Value, Vals xs its ∧ IsTup s.heap a its.toArray ∧ xs.length ≤ sizeLine := by
  rcases h with h | ⟨o, its, n, hk, hc, hs, hz, r⟩
  · obtain ⟨z, its, r, p⟩ := h.ok I.hok
    exact ⟨its, r, p, z⟩
  · refine ⟨its.toList, r, ⟨o, I.kIn a o hk, hc, n, by simpa using hs⟩, ?_⟩
    have e := r.length
    simp only [Array.length_toList] at e
    trivial
theorem Inv.list_inj (I : Inv X pins σ H s) (h : SqL X.K H a xs) (h' : SqL X.K H a ys) : xs = ys := by
  obtain ⟨its, r, ⟨o, n, e, _, _, d⟩, _⟩ := I.list h
  obtain ⟨its', r', ⟨o', n', e', _, _, d'⟩, _⟩ := I.list h'
  rw [e] at e'; cases e'
  rw [d] at d'
  injection d' with d1 _
  have : its = its' := by simpa using congrArg Array.toList d1
  subst this
  exact r.inj r'
theorem Inv.tuple_inj (I : Inv X pins σ H s) (h : SqT X.K H a xs) (h' : SqT X.K H a ys) : xs = ys := by
  obtain ⟨its, r, ⟨o, e, _, n, d⟩, _⟩ := I.tuple h
  obtain ⟨its', r', ⟨o', e', _, n', d'⟩, _⟩ := I.tuple h'
  rw [e] at e'; cases e'
  rw [d] at d'
  injection d' with d1 _
  have : its = its' := by simpa using congrArg Array.toList d1
  subst this
  exact r.inj r'
end
noncomputable abbrev Cx.wish (X : Cx) (E : Value → Shared → Prop) : Cx := { X with xe := E }
noncomputable abbrev Cx.nox (X : Cx) : Cx := X.wish fun _ _ => False
theorem Cx.Ok.wish {X : Cx} (ok : X.Ok) (E : Value → Shared → Prop) : (X.wish E).Ok :=
  ⟨ok.mod, ok.kind, ok.glob, ok.blt, ok.above, ok.inj, ok.has, ok.cab, ok.hd, ok.frames, ok.stk, ok.exf, ok.bs, ok.bsz, ok.noex, ok.exfs, ok.funs, ok.frf⟩
theorem Cx.Ok.unwish {X : Cx} {E : Value → Shared → Prop} (ok : (X.wish E).Ok) : X.Ok :=
  ⟨ok.mod, ok.kind, ok.glob, ok.blt, ok.above, ok.inj, ok.has, ok.cab, ok.hd, ok.frames, ok.stk, ok.exf, ok.bs, ok.bsz, ok.noex, ok.exfs, ok.funs, ok.frf⟩
section
variable {X : Cx} {pins : List (Addr × Obj)} {σ : St} {H : Hp} {s : Shared} {E : Value → Shared → Prop}
theorem Inv.wish (I : Inv X pins σ H s) (E : Value → Shared → Prop) : Inv (X.wish E) pins σ H s := ⟨I.ok.wish E, I.os, I.bare, I.base, I.loc, I.cell, I.free, I.freeC, I.pin, I.hok, I.len⟩
theorem Inv.unwish (I : Inv (X.wish E) pins σ H s) : Inv X pins σ H s := ⟨I.ok.unwish, I.os, I.bare, I.base, I.loc, I.cell, I.free, I.freeC, I.pin, I.hok, I.len⟩
theorem SP.unwish {D : Ends} {f : Flow} {s' : Shared} (h : SP (X.wish E) pins D f s') : SP X pins D f s' := by
  cases f with
  | next => obtain ⟨σ', H', I, q⟩ := h; exact ⟨σ', H', I.unwish, q⟩
  | brk => obtain ⟨σ', H', I, q⟩ := h; exact ⟨σ', H', I.unwish, q⟩
  | cont => obtain ⟨σ', H', I, q⟩ := h; exact ⟨σ', H', I.unwish, q⟩
  | ret u => obtain ⟨v, σ', H', I, r, q⟩ := h; exact ⟨v, σ', H', I.unwish, r, q⟩
theorem PSs.nox {st : List Stmt} {t : TS} (h : PSs X.nox st t) : PSs X st t := fun pins s σ H D I hw =>
  wpAny_mono (h pins s σ H D (I.wish _) hw) (fun _ _ q => q.unwish) fun _ _ z => False.elim z
end
section
variable {X : Cx} {st : Stmt} {rest : List Stmt} {t u : TS} {e : Expr} {te : TE} {pos : Pos}
noncomputable def tNext : TS := fun D σ H => D.nx σ H
noncomputable def tSeq (t u : TS) : TS := fun D σ H => t { D with nx := u D } σ H
theorem pss_nil : PSs X [] tNext := fun _ _ σ H _ I h => wpAny_execs_nil ⟨σ, H, I, h⟩
theorem pss_cons (h1 : PS X st t) (h2 : PSs X rest u) : PSs X (st :: rest) (tSeq t u) := by
  intro pins s σ H D I h
  refine wpAny_execs_cons (thn (h1 pins s σ H { D with nx := u D } I h) fun f s1 q => ?_)
  cases f with
  | next =>
    obtain ⟨σ', H', I', q⟩ := q
    exact h2 pins s1 σ' H' D I' q
  | ret v => exact q
  | brk => exact q
  | cont => exact q
theorem pss_one (h1 : PS X st t) : PSs X [st] t := by
  intro pins s σ H D I h
  refine wpAny_execs_cons (thn (h1 pins s σ H D I h) fun f s1 q => ?_)
  cases f with
  | next => exact wpAny_execs_nil q
  | ret v => exact q
  | brk => exact q
  | cont => exact q
theorem Inv.quiet {pins : List (Addr × Obj)} {σ : St} {H : Hp} {s : Shared} (I : Inv X pins σ H s) : interactive X.env = false := by simp [interactive, I.ok.kind]
noncomputable def tDrop (te : TE) : TS := fun D σ H => te σ H fun _ H1 => D.nx σ H1
theorem ps_expr (he : PE X e te) (hs : swapsWith e none pos.line X.env = pure false := by rfl) : PS X (.Expr e pos) (tDrop te) := by
  intro pins s σ H D I h
  exact wpAny_Expr_any (thn (he pins s σ H _ I h) fun v s1 ⟨x, H1, I1, r1, q1⟩ => ⟨σ, H1, I1, q1⟩) I.quiet hs
noncomputable def tRet (te : TE) : TS := fun D σ H => te σ H D.rt
theorem ps_ret (he : PE X e te) : PS X (.Return (some e) pos) (tRet te) := by
  intro pins s σ H D I h
  exact wpAny_Return_some (thn (he pins s σ H _ I h) fun v s1 ⟨x, H1, I1, r1, q1⟩ => ⟨x, σ, H1, I1, r1, q1⟩)
noncomputable def tIfS (c : TT) (t u : TS) : TS := fun D σ H => c σ H fun b H1 => if b = true then t D σ H1 else u D σ H1
theorem ps_if {c : Expr} {a b : List Stmt} {tc : TT} (hc : PT X c tc) (ha : PSs X a t) (hb : PSs X b u) : PS X (.If c a b pos) (tIfS tc t u) := by
  intro pins s σ H D I h
  refine wpAny_If (thn (hc pins s σ H _ I h) fun d s1 ⟨H1, I1, q1⟩ => ?_)
  cases d with
  | true => exact ha pins s1 σ H1 D I1 q1
  | false => exact hb pins s1 σ H1 D I1 q1
end
noncomputable abbrev TG := V → St → Hp → (St → Hp → Prop) → Prop
noncomputable abbrev TGs := List V → St → Hp → (St → Hp → Prop) → Prop
noncomputable def PG (X : Cx) (target : Expr) (t : TG) : Prop :=
  ∀ (pins : List (Addr × Obj)) (s : Shared) (σ : St) (H : Hp) (v : V) (u : Value) (Q : St → Hp → Prop), Inv X pins σ H s → RelV v u → t v σ H Q →
    wpAny (model X.prog X.w) X.A (assign target X.env u) (fun _ s' => ∃ σ' H', Inv X pins σ' H' s' ∧ Q σ' H') X.xe s
noncomputable def PGs (X : Cx) (ts : List Expr) (t : TGs) : Prop :=
  ∀ (pins : List (Addr × Obj)) (s : Shared) (σ : St) (H : Hp) (vs : List V) (us : List Value) (Q : St → Hp → Prop), Inv X pins σ H s → Vals vs us → t vs σ H Q →
    wpAny (model X.prog X.w) X.A (assignInOrder ((assignEach ts X.env).map (·.2)) us) (fun _ s' => ∃ σ' H', Inv X pins σ' H' s' ∧ Q σ' H') X.xe s
section
variable {X : Cx} {pos : Pos}
noncomputable def gName (i : Nat) : TG := fun v σ H Q => Q (σ.set i (some v)) H
theorem pg_name {i : Nat} {x : Str} (hN : X.N.Nodup) (hi : X.N[i]? = some x) (hx : Loc X.env.scope x) (hf : X.fn x = true ∨ X.env.scope.names.lookup x = some .local := by first | exact .inl rfl | exact .inr rfl | assumption) : PG X (.Name x pos) (gName i) := by
  intro pins s σ H v u Q I r h
  exact wpAny_assign_Name (store_ok I hN hi hx r (fun s' I' => ⟨_, H, I', h⟩) hf)
noncomputable def gNil : TGs := fun vs σ H Q => vs = [] ∧ Q σ H
noncomputable def gCons (t : TG) (u : TGs) : TGs := fun vs σ H Q => ∃ v r, vs = v :: r ∧ t v σ H fun σ' H' => u r σ' H' Q
theorem pgs_nil : PGs X [] gNil := by
  intro pins s σ H vs us Q I r h
  obtain ⟨e, h⟩ := h
  subst e
  cases r
  exact assignInOrder_nil ⟨σ, H, I, h⟩
theorem pgs_cons {e : Expr} {es : List Expr} {t : TG} {u : TGs} (h1 : PG X e t) (h2 : PGs X es u)
    (hs : (assignEach (e :: es) X.env).map (·.2) = assign e X.env :: (assignEach es X.env).map (·.2) := by rfl) : PGs X (e :: es) (gCons t u) := by
  intro pins s σ H vs us Q I r h
  obtain ⟨v, vr, e1, h⟩ := h
  subst e1
  cases r with
  | cons r rr =>
    rw [hs]
    refine assignInOrder_cons (thn (h1 pins s σ H _ _ _ I r h) fun _ s1 ⟨σ1, H1, I1, q1⟩ => ?_)
    exact h2 pins s1 σ1 H1 _ _ Q I1 rr q1
noncomputable def gTup (K : PySem.W.Frag) (n : Nat) (t : TGs) : TG := fun v σ H Q => ∃ a xs, v = .ref a ∧ SqT K H a xs ∧ xs.length = n ∧ t xs σ H Q
theorem pg_tup {es : List Expr} {k : Nat} {t : TGs} {n : Nat} (hc : X.calm = true) (h : PGs X es t)
    (hn : (assignEach es X.env).length = n := by rfl) (hst : (assignEach es X.env).findIdx? (·.1) = none := by rfl) : PG X (.Tuple es k pos) (gTup X.K n t) := by
  intro pins s σ H v u Q I r hw
  obtain ⟨a, xs, e1, hq, hl, hw⟩ := hw
  subst e1
  cases r
  obtain ⟨its, rv, ht, hz⟩ := I.tuple hq
  refine assign_Tuple_tuple (I.ok.hd hc) ht (by simp [hn, ← hl, rv.length]) hst fun h' hx => ?_
  have I1 : Inv X pins σ H { s with heap := h' } := I.kept (t' := s.toks) fun b o e => hx b o (Nat.ne_of_lt (Heap.lt_size e)) e
  exact h pins _ σ H xs _ Q I1 (by simpa using rv) hw
noncomputable def tAsg (te : TE) (g : TG) : TS := fun D σ H => te σ H fun x H1 => g x σ H1 D.nx
theorem ps_asg {tg e : Expr} {te : TE} {g : TG} (he : PE X e te) (hg : PG X tg g) (hs : swapsWithSole [tg] e pos.line X.env = pure false := by rfl) (hw : swappedStores [tg] e X.env = pure none := by rfl)
    (h1 : (assignEach [tg] X.env).map (·.2) = [assign tg X.env] := by rfl) : PS X (.Assign [tg] e pos) (tAsg te g) := by
  intro pins s σ H D I h
  refine wpAny_Assign_stores (thn (he pins s σ H _ I h) fun v s1 ⟨x, H1, I1, r1, q1⟩ => ?_) hs hw
  rw [h1]
  exact thn (hg pins s1 σ H1 x v _ I1 r1 q1) fun _ s2 q => q
theorem ps_set {i : Nat} {x : Str} {e : Expr} {te : TE} {pos' : Pos} (hN : X.N.Nodup) (hi : X.N[i]? = some x) (hx : Loc X.env.scope x) (he : PE X e te) (hs : swapsWith e (some (.Name x pos')) pos.line X.env = pure false := by rfl) (hf : X.fn x = true ∨ X.env.scope.names.lookup x = some .local := by first | exact .inl rfl | exact .inr rfl | assumption) :
    PS X (.Assign [.Name x pos'] e pos) (tAsg te (gName i)) := by
  intro pins s σ H D I h
  refine wpAny_Assign_Name (thn (he pins s σ H _ I h) fun v s1 ⟨y, H1, I1, r1, q1⟩ => ?_) hs
  exact store_ok I1 hN hi hx r1 (fun s2 I2 => ⟨_, H1, I2, q1⟩) hf
end
section
variable {X : Cx} {pos : Pos}
noncomputable def tWhile (c : TT) (tb : TS) : TS := fun D σ H => ∃ W : Nat → St → Hp → Prop, (∃ m, W m σ H) ∧ ∀ m σ H, W m σ H →
  c σ H fun b H1 => if b = true then ∃ N : St → Hp → Prop, (∀ σ' H', N σ' H' → ∃ m', m' < m ∧ W m' σ' H') ∧ tb { D with nx := N, ct := N, bk := D.nx } σ H1 else D.nx σ H1
theorem ps_while {c : Expr} {body : List Stmt} {tc : TT} {tb : TS} (hp : PassesOwn (model X.prog X.w) X.A X.env X.xe) (hc : PT X c tc) (hb : PSs X body tb) : PS X (.While c body [] pos) (tWhile tc tb) := by
  intro pins s σ H D I h
  obtain ⟨W, ⟨m0, w0⟩, turn⟩ := h
  refine wpAny_While (codeAny_whileLoop (fun n s' => ∃ σ' H', Inv X pins σ' H' s' ∧ W n σ' H') ?_ m0 ⟨σ, H, I, w0⟩)
  rintro n s1 ⟨σ1, H1, I1, w1⟩
  refine wpAny_passesOwn hp (thn (hc pins s1 σ1 H1 _ I1 (turn n σ1 H1 w1)) fun b s2 ⟨H2, I2, q2⟩ => ?_)
  cases b with
  | true =>
    obtain ⟨N, hN, q2⟩ := q2
    rw [if_pos rfl]
    refine wpAny_passesOwn hp (thn (hb pins s2 σ1 H2 _ I2 q2) fun f s3 q3 => ?_)
    cases f with
    | next =>
      obtain ⟨σ3, H3, I3, n3⟩ := q3
      obtain ⟨m', hm, w3⟩ := hN σ3 H3 n3
      exact ⟨m', hm, σ3, H3, I3, w3⟩
    | cont =>
      obtain ⟨σ3, H3, I3, n3⟩ := q3
      obtain ⟨m', hm, w3⟩ := hN σ3 H3 n3
      exact ⟨m', hm, σ3, H3, I3, w3⟩
    | brk => exact q3
    | ret v => exact q3
  | false =>
    rw [if_neg Bool.false_ne_true]
    exact wpAny_execs_nil ⟨σ1, H2, I2, q2⟩
end
structure It where
  go : Nat → Hp → Prop
  yld : Nat → Hp → V → Hp → Prop
  stop : Nat → Hp → Prop
noncomputable def FpOk (X : Cx) (pins : List (Addr × Obj)) (H : Hp) (b : Addr) : Prop :=
  H b = none ∧ b ≠ X.env.locals ∧ b ∉ X.fs ∧ (b ∈ X.ex ∨ X.s₀.heap.objs.size ≤ b) ∧ (∀ x c, X.env.cells.lookup x = some c → c ≠ b) ∧ ∀ p ∈ X.pn ++ pins, p.1 ≠ b
theorem Inv.fpOk {X : Cx} {pins : List (Addr × Obj)} {σ : St} {H H' : Hp} {s : Shared} {b : Addr} (I : Inv X pins σ H s) (hb : s.heap.objs.size ≤ b) (hn : H' b = none) : FpOk X pins H' b := by
  refine ⟨hn, Nat.ne_of_gt (Nat.lt_of_lt_of_le I.lt hb), I.nofs hb, .inr (Nat.le_trans I.sz hb), fun x c e z => ?_, fun p hp z => ?_⟩
  · obtain ⟨v, q⟩ := I.cell x c e
    exact absurd (Nat.lt_of_lt_of_le q.lt (by rw [z]; exact hb)) (Nat.lt_irrefl _)
  · exact absurd (Nat.lt_of_lt_of_le (Heap.lt_size (I.pin p hp).1) (by rw [z]; exact hb)) (Nat.lt_irrefl _)
structure Turn (P : Program) (w : World) (K : PySem.W.Frag) (tg : Expr) (J : It) (fp : List Addr) (it : Addr) (tn : Nat → Heap → Prop) : Prop where
  mem : it ∈ fp
  obj : ∀ i h, tn i h → ∀ b ∈ fp, ∃ o, h.get? b = some o ∧ ∀ v, o.data ≠ .cell v
  keep : ∀ i h h', tn i h → (∀ b ∈ fp, ∀ o, h.get? b = some o → h'.get? b = some o) → tn i h'
  item : ∀ (X : Cx), X.prog = P → X.w = w → X.K = K → X.calm = true → ∀ (i : Nat) (pins : List (Addr × Obj)) (s : Shared) (σ : St) (H : Hp) (E : Value → Shared → Prop), Inv X pins σ H s → (∀ b ∈ fp, FpOk X pins H b) → tn i s.heap → J.go i H →
    wpAny (model P w) X.A (pyNext (.ref it)) (fun r s1 => ∃ u, r = some u ∧
      wpAny (model P w) X.A (letOwnedTupleGo tg (.ref it) u) (fun _ s2 => ∃ x H', Inv X pins σ H' s2 ∧ RelV x u ∧ J.yld i H x H' ∧ tn (i + 1) s2.heap ∧ ∀ b ∈ fp, H' b = none) E s1) E s
  done : ∀ (X : Cx), X.prog = P → X.w = w → X.K = K → X.calm = true → ∀ (i : Nat) (pins : List (Addr × Obj)) (s : Shared) (σ : St) (H : Hp) (E : Value → Shared → Prop), Inv X pins σ H s → (∀ b ∈ fp, FpOk X pins H b) → tn i s.heap → J.stop i H →
    wpAny (model P w) X.A (pyNext (.ref it)) (fun r s1 => r = none ∧ Inv X pins σ H s1) E s
  self : ∀ (A : Around) (i : Nat) (s : Shared) (Q : Value → Shared → Prop) (E : Value → Shared → Prop), tn i s.heap → Q (.ref it) s → wpAny (model P w) A (pyIter (.ref it)) Q E s
noncomputable abbrev TI := St → Hp → (It → Hp → Prop) → Prop
noncomputable def PIE (X : Cx) (pins : List (Addr × Obj)) (σ : St) (tg : Expr) (R : It → Hp → Prop) (itv : Value) (s2 : Shared) : Prop :=
  ∃ (it : Addr) (fp : List Addr) (tn : Nat → Heap → Prop) (J : It) (H' : Hp), itv = .ref it ∧ Inv X pins σ H' s2 ∧ Turn X.prog X.w X.K tg J fp it tn ∧ tn 0 s2.heap ∧ (∀ b ∈ fp, FpOk X pins H' b) ∧ R J H'
noncomputable def PI (X : Cx) (tg iter : Expr) (wi : TI) : Prop :=
  ∀ (pins : List (Addr × Obj)) (s : Shared) (σ : St) (H : Hp) (R : It → Hp → Prop), Inv X pins σ H s → wi σ H R →
    wpAny (model X.prog X.w) X.A (eval iter X.env) (fun v s1 => wpAny (model X.prog X.w) X.A (pyIter v) (PIE X pins σ tg R) X.xe s1) X.xe s
theorem go_of {M : Model} {A : Around} {E : Value → Shared → Prop} {s : Shared} {tg : Expr} {it : Addr} {u : Value} {o : Obj} {n : String} {vs : Array Value} {Q : Unit → Shared → Prop} (ho : s.heap.get? it = some o) (hc : o.cls = .type n) (hd : o.data = .fields vs)
    (hn : ["enumerate", "zip", "dict_itemiterator", "dict_reverseitemiterator", "odict_iterator", "itertools.zip_longest", "itertools.pairwise"].contains n = false) (hQ : Q () s) : wpAny M A (letOwnedTupleGo tg (.ref it) u) Q E s := by
  unfold letOwnedTupleGo
  cases tg <;> first
    | exact wpAny_pure hQ
    | (cases u <;> first
        | exact wpAny_pure hQ
        | (refine wpAny_bind (wpAny_load ho ?_)
           rw [hc, hd]
           show wpAny M A (if (["enumerate", "zip", "dict_itemiterator", "dict_reverseitemiterator", "odict_iterator", "itertools.zip_longest", "itertools.pairwise"].contains n && vs[0]? == some (rawInt _)) = true then _ else _) Q E s
           rw [if_neg (by intro h; rw [hn, Bool.false_and] at h; cases h)]
           exact wpAny_pure hQ))
noncomputable def Itl (K : PySem.W.Frag) (a : Addr) : It :=
  ⟨fun i H => ∃ xs x, SqL K H a xs ∧ xs[i]? = some x, fun i H x H' => H' = H ∧ ∀ xs, SqL K H a xs → xs[i]? = some x, fun i H => ∃ xs, SqL K H a xs ∧ xs.length ≤ i⟩
noncomputable def Itr (lo : Int) (n : Nat) : It := ⟨fun i _ => i < n, fun i H x H' => H' = H ∧ x = .int (lo + i), fun i _ => n ≤ i⟩
theorem turn_list {P : Program} {w : World} {K : PySem.W.Frag} {tg : Expr} (a it : Addr) : Turn P w K tg (Itl K a) [it] it (fun i h => h.IsListIter it a i) where
  mem := by simp
  obj := fun i h st b hb => by
    have e : b = it := by simpa using hb
    subst e
    obtain ⟨o, e, c, d⟩ := st
    exact ⟨o, e, fun v z => by rw [d] at z; cases z⟩
  keep := fun i h h' st k => st.at fun o e => k it (by simp) o e
  item := by
    intro X hP hw hK hc i pins s σ H E I hf st hg
    subst hP hw hK
    obtain ⟨xs, x, hq, hx⟩ := hg
    obtain ⟨its, rv, p, hz⟩ := I.list hq
    obtain ⟨u, hu, ru⟩ := rv.get hx
    obtain ⟨f0, f1, f2, f3, f4, f5⟩ := hf it (by simp)
    refine wpAny_pyNext_list_item st p.isList (x := u) (by simpa using hu) fun h' st' sb => ?_
    have I1 : Inv X pins σ H { s with heap := h' } := I.turned (t' := s.toks) (fun b o hb e => (sb.2 b hb).trans e) f0 f1 f3 f4 f5
    obtain ⟨o, e, c, d⟩ := id st'
    exact ⟨u, rfl, go_of (s := { s with heap := h' }) e c d (by decide) ⟨x, H, I1, ru, ⟨rfl, fun ys hy => by rw [I.list_inj hy hq]; exact hx⟩, st', fun b hb => (hf b hb).1⟩⟩
  done := by
    intro X hP hw hK hc i pins s σ H E I hf st hg
    subst hP hw hK
    obtain ⟨xs, hq, hx⟩ := hg
    obtain ⟨its, rv, p, hz⟩ := I.list hq
    obtain ⟨f0, f1, f2, f3, f4, f5⟩ := hf it (by simp)
    have hl := rv.length
    exact wpAny_pyNext_list_end (I.ok.hd hc) st p.isList (by simp; trivial) fun h' eb => ⟨rfl, I.turned (t' := s.toks) (fun b o hb e => eb b o hb e) f0 f1 f3 f4 f5⟩
  self := fun _ _ _ _ _ st h => wpAny_pyIter_listiter st h
theorem turn_range {P : Program} {w : World} {K : PySem.W.Frag} {tg : Expr} (it : Addr) (lo : Int) (n : Nat) : Turn P w K tg (Itr lo n) [it] it (fun i h => IsRangeIter h it (lo + (i : Nat) * 1) ((n : Int) - (i : Nat)) 1) where
  mem := by simp
  obj := fun i h st b hb => by
    have e : b = it := by simpa using hb
    subst e
    exact ⟨_, st, fun v z => by
      have z' : Data.fields _ = Data.cell v := z
      cases z'⟩
  keep := fun i h h' st k => k it (by simp) _ st
  item := by
    intro X hP hw hK hc i pins s σ H E I hf st hg
    subst hP hw hK
    obtain ⟨f0, f1, f2, f3, f4, f5⟩ := hf it (by simp)
    have W := Walks.range (prog := X.prog) (w := X.w) (I.ok.hd hc) it lo 1 n
    refine W.item i s _ _ hg st fun v h' tk hv st' kk => ?_
    obtain ⟨t, rfl⟩ := hv
    have I1 : Inv X pins σ H { s with heap := h', toks := tk } := I.turned (fun b o hb e => kk b o (by simpa using hb) e) f0 f1 f3 f4 f5
    refine ⟨_, rfl, go_of (s := { s with heap := h', toks := tk }) (n := "range_iterator") st' rfl rfl (by decide) ⟨.int (lo + i), H, I1, ⟨t, ?_⟩, ⟨rfl, rfl⟩, st', fun b hb => (hf b hb).1⟩⟩
    rw [Int.mul_one]
  done := by
    intro X hP hw hK hc i pins s σ H E I hf st hg
    subst hP hw hK
    obtain ⟨f0, f1, f2, f3, f4, f5⟩ := hf it (by simp)
    exact wpAny_pyNext_range_end (I.ok.hd hc) st (by have : n ≤ i := hg; trivial) fun h' eb => ⟨rfl, I.turned (t' := s.toks) (fun b o hb e => eb b o hb e) f0 f1 f3 f4 f5⟩
  self := fun _ _ _ _ _ st h => wpAny_pyIter_rangeiter st h
end L2
namespace L2
open PySem PySem.Spec PyProof.Rows
section
variable {X : Cx} {tg : Expr}
noncomputable def iList (K : PySem.W.Frag) (tl : TE) : TI := fun σ H R => tl σ H fun x H1 => ∃ a, x = .ref a ∧ (∃ xs, SqL K H1 a xs) ∧ R (Itl K a) H1
theorem pi_list {l : Expr} {tl : TE} (hl : PE X l tl) : PI X tg l (iList X.K tl) := by
  intro pins s σ H R I h
  refine thn (hl pins s σ H _ I h) fun v s1 ⟨x, H1, I1, r1, q1⟩ => ?_
  obtain ⟨a, e, ⟨xs, hq⟩, q⟩ := q1
  subst e
  cases r1
  obtain ⟨its, rv, p, hz⟩ := I1.list hq
  refine wpAny_pyIter_list p.isList ?_
  refine ⟨s1.heap.objs.size, [s1.heap.objs.size], _, _, H1, rfl, I1.kept (t' := s1.toks) fun b o e => Heap.get?_push_of_some _ e, turn_list a _, ⟨_, Heap.get?_push_size _ rfl, rfl, rfl⟩, fun b hb => ?_, q⟩
  have e : b = s1.heap.objs.size := by simpa using hb
  subst e
  exact I1.fpOk (Nat.le_refl _) (I1.hok.fresh (Nat.le_refl _))
theorem range_it {pins : List (Addr × Obj)} {σ : St} {H : Hp} {s : Shared} {R : It → Hp → Prop} {E : Value → Shared → Prop} {lo hi : Int} {t u v : Tok} {tk : Nat} (I : Inv X pins σ H s) (h1 : -(2 ^ 62) ≤ lo) (h2 : lo < 2 ^ 62) (h3 : -(2 ^ 62) ≤ hi) (h4 : hi < 2 ^ 62)
    (q : R (Itr lo (hi - lo).toNat) H) : wpAny (model X.prog X.w) X.A (pyIter (.ref s.heap.objs.size)) (PIE X pins σ tg R) E { s with heap := s.heap.push { cls := .type "range", data := .fields #[.int lo t, .int hi u, .int 1 v] }, toks := tk } := by
  refine wpAny_pyIter_range (IsRange.new ..) (small_one h1 h2 h3 h4) ?_
  have I1 : Inv X pins σ H { s with heap := s.heap.push { cls := .type "range", data := .fields #[.int lo t, .int hi u, .int 1 v] }, toks := tk } := I.kept fun b o e => Heap.get?_push_of_some _ e
  refine ⟨(s.heap.push { cls := .type "range", data := .fields #[.int lo t, .int hi u, .int 1 v] }).objs.size, [(s.heap.push { cls := .type "range", data := .fields #[.int lo t, .int hi u, .int 1 v] }).objs.size], _, _, H, rfl,
    I1.kept (t' := tk) fun b o e => Heap.get?_push_of_some _ e, turn_range _ lo (hi - lo).toNat, ?_, fun b hb => ?_, q⟩
  · have e1 : lo + ((0 : Nat) : Int) * 1 = lo := by simp
    have e2 : (((hi - lo).toNat : Nat) : Int) - ((0 : Nat) : Int) = Builtin.Range.rangeSize lo hi 1 := by rw [rangeSize_one]; split <;> trivial
    show IsRangeIter _ _ (lo + ((0 : Nat) : Int) * 1) ((((hi - lo).toNat : Nat) : Int) - ((0 : Nat) : Int)) 1
    rw [e1, e2]
    exact Heap.get?_push_size _ rfl
  · have e : b = (s.heap.push { cls := .type "range", data := .fields #[.int lo t, .int hi u, .int 1 v] }).objs.size := by simpa using hb
    subst e
    exact I1.fpOk (Nat.le_refl _) (I1.hok.fresh (Nat.le_refl _))
noncomputable def iRng1 (ta : TA) : TI := fun σ H R => ta σ H fun vs H1 => ∃ j : Int, vs = [.int j] ∧ -(2 ^ 62) ≤ j ∧ j < 2 ^ 62 ∧ R (Itr 0 j.toNat) H1
noncomputable def iRng2 (ta : TA) : TI := fun σ H R => ta σ H fun vs H1 => ∃ i j : Int, vs = [.int i, .int j] ∧ (-(2 ^ 62) ≤ i ∧ i < 2 ^ 62 ∧ -(2 ^ 62) ≤ j ∧ j < 2 ^ 62) ∧ R (Itr i (j - i).toNat) H1
theorem pi_range1 {a : Expr} {ta : TA} {p pos : Pos} (hg : Gl X "range") (hm : X.mg "range" = none) (ha : PA X [a] ta) (hs : starEach [a] X.env = [(false, eval a X.env)] := by rfl) : PI X tg (.Call (.Name "range" p) [a] [] pos) (iRng1 ta) := by
  intro pins s σ H R I h
  refine Call_ (ld_blt I hg hm boot_range (PyProof.Rows.callWith_type1 (thn (ha pos pins s σ H _ I h) fun us s1 ⟨vs, H1, I1, r1, q1⟩ => ?_) hs rfl))
  obtain ⟨j, e, q1, q2, q⟩ := q1
  subst e
  cases r1 with
  | cons r rr =>
    cases rr
    obtain ⟨t, rfl⟩ := r
    exact call_range_1 (range_it I1 (by trivial) (by trivial) q1 q2 (by simpa using q))
theorem pi_range2 {a b : Expr} {ta : TA} {p pos : Pos} (hg : Gl X "range") (hm : X.mg "range" = none) (ha : PA X [a, b] ta) (hs : starEach [a, b] X.env = [(false, eval a X.env), (false, eval b X.env)] := by rfl) (hs2 : starEach [b] X.env = [(false, eval b X.env)] := by rfl) :
    PI X tg (.Call (.Name "range" p) [a, b] [] pos) (iRng2 ta) := by
  intro pins s σ H R I h
  refine Call_ (ld_blt I hg hm boot_range (PyProof.Rows.callWith_type1 (thn (ha pos pins s σ H _ I h) fun us s1 ⟨vs, H1, I1, r1, q1⟩ => ?_) (by rw [hs, hs2]) (by rw [hs2]; rfl)))
  obtain ⟨i, j, e, ⟨q1, q2, q3, q4⟩, q⟩ := q1
  subst e
  cases r1 with
  | cons r rr =>
    cases rr with
    | cons r' rr =>
      cases rr
      obtain ⟨t, rfl⟩ := r
      obtain ⟨t', rfl⟩ := r'
      exact call_range_2 (range_it I1 q1 q2 q3 q4 q)
noncomputable def tFor (wi : TI) (g : TG) (tb : TS) : TS := fun D σ H => wi σ H fun J H1 => ∃ W : Nat → Nat → St → Hp → Prop, (∃ m, W 0 m σ H1) ∧ ∀ i m σ H, W i m σ H →
  (J.stop i H ∧ D.nx σ H) ∨ (J.go i H ∧ ∃ N : St → Hp → Prop, (∀ σ' H', N σ' H' → ∃ m', m' < m ∧ W (i + 1) m' σ' H') ∧ ∀ x H', J.yld i H x H' → g x σ H' fun σ2 H2 => tb { D with nx := N, ct := N, bk := D.nx } σ2 H2)
noncomputable def pinsAt (fp : List Addr) (h : Heap) : List (Addr × Obj) := fp.filterMap fun b => (h.get? b).map fun o => (b, o)
theorem mem_pinsAt {fp : List Addr} {h : Heap} {b : Addr} {o : Obj} (hb : b ∈ fp) (e : h.get? b = some o) : (b, o) ∈ pinsAt fp h := List.mem_filterMap.mpr ⟨b, hb, by rw [e]; rfl⟩
theorem of_pinsAt {fp : List Addr} {h : Heap} {p : Addr × Obj} (hp : p ∈ pinsAt fp h) : p.1 ∈ fp ∧ h.get? p.1 = some p.2 := by
  obtain ⟨b, hb, e⟩ := List.mem_filterMap.mp hp
  cases q : h.get? b with
  | none => rw [q] at e; cases e
  | some o =>
    rw [q] at e
    have e' : (b, o) = p := Option.some.inj e
    subst e'
    exact ⟨hb, q⟩
theorem Inv.pinned {pins : List (Addr × Obj)} {σ : St} {H : Hp} {s : Shared} {fp : List Addr} (I : Inv X pins σ H s) (hf : ∀ b ∈ fp, FpOk X pins H b) (ho : ∀ b ∈ fp, ∃ o, s.heap.get? b = some o ∧ ∀ v, o.data ≠ .cell v) : Inv X (pins ++ pinsAt fp s.heap) σ H s :=
  I.pins_of fun p hp => (List.mem_append.mp hp).elim (fun z => I.pin p (List.mem_append_right _ z)) fun z => by
    obtain ⟨hb, e⟩ := of_pinsAt z
    obtain ⟨f0, f1, f2, _⟩ := hf p.1 hb
    obtain ⟨o, e', d⟩ := ho p.1 hb
    rw [e] at e'; cases e'
    exact ⟨e, f0, f1, f2, d⟩
theorem Inv.unpinned {pins pl : List (Addr × Obj)} {σ : St} {H : Hp} {s : Shared} (I : Inv X (pins ++ pl) σ H s) : Inv X pins σ H s := I.pins_of fun p hp => I.pin p (List.mem_append_right _ (List.mem_append_left _ hp))
theorem ps_for {iter : Expr} {body : List Stmt} {wi : TI} {g : TG} {tb : TS} {pos : Pos} (hp : PassesOwn (model X.prog X.w) X.A X.env X.xe) (hc : X.calm = true) (hi : PI X tg iter wi) (hg : PG X tg g) (hb : PSs X body tb)
    (hs : ∀ x, foldedSetIterable iter X.env x = pure x := by intro _; rfl) : PS X (.For tg iter body [] pos) (tFor wi g tb) := by
  intro pins s σ H D I h
  refine wpAny_For (thn (hi pins s σ H _ I h) fun v s1 h1 => thn h1 fun itv s2 h2 => ?_) hs
  obtain ⟨it, fp, tn, J, H2, e, I2, T, st2, f2, W, ⟨m0, w0⟩, turn⟩ := h2
  subst e
  -- what stays true of the iterator's objects through the loop
  have stat : ∀ {H' : Hp}, (∀ b ∈ fp, H' b = none) → ∀ b ∈ fp, FpOk X pins H' b := fun hn b hb => ⟨hn b hb, (f2 b hb).2⟩
  refine codeAny_forLoop_any (fun n s' => ∃ i σ' H', Inv X pins σ' H' s' ∧ tn i s'.heap ∧ (∀ b ∈ fp, H' b = none) ∧ W i n σ' H') ?_ m0 ⟨0, σ, H2, I2, st2, fun b hb => (f2 b hb).1, w0⟩
  rintro n s3 ⟨i, σ3, H3, I3, st3, fr3, w3⟩
  rcases turn i n σ3 H3 w3 with ⟨stop, qn⟩ | ⟨go, N, hN, step⟩
  · refine wpAny_passesOwn hp (thn (T.done X rfl rfl rfl hc i pins s3 σ3 H3 X.xe I3 (stat fr3) st3 stop) fun r s4 ⟨hr, I4⟩ => ?_)
    subst hr
    exact wpAny_execs_nil ⟨σ3, H3, I4, qn⟩
  · refine wpAny_passesOwn hp (thn (T.item X rfl rfl rfl hc i pins s3 σ3 H3 X.xe I3 (stat fr3) st3 go) fun r s4 ⟨u, hr, h4⟩ => ?_)
    subst hr
    refine wpAny_passesOwn hp (thn h4 fun _ s5 ⟨x, H5, I5, r5, y5, st5, fr5⟩ => ?_)
    have I5' := I5.pinned (stat fr5) (T.obj _ _ st5)
    refine wpAny_passesOwn hp (thn (hg _ s5 σ3 H5 x u _ I5' r5 (step x H5 y5)) fun _ s6 ⟨σ6, H6, I6, q6⟩ => ?_)
    refine wpAny_passesOwn hp (thn (hb _ s6 σ6 H6 _ I6 q6) fun f s7 q7 => ?_)
    have again : ∀ {σ7 : St} {H7 : Hp}, Inv X (pins ++ pinsAt fp s5.heap) σ7 H7 s7 → N σ7 H7 → ∃ m, m < n ∧ ∃ i σ' H', Inv X pins σ' H' s7 ∧ tn i s7.heap ∧ (∀ b ∈ fp, H' b = none) ∧ W i m σ' H' := fun {σ7 H7} I7 n7 => by
      obtain ⟨m', hm, w7⟩ := hN σ7 H7 n7
      refine ⟨m', hm, i + 1, σ7, H7, I7.unpinned, T.keep _ _ _ st5 fun b hb o e => (I7.pin (b, o) (List.mem_append_right _ (List.mem_append_right _ (mem_pinsAt hb e)))).1, fun b hb => ?_, w7⟩
      obtain ⟨o, e, d⟩ := T.obj _ _ st5 b hb
      exact (I7.pin (b, o) (List.mem_append_right _ (List.mem_append_right _ (mem_pinsAt hb e)))).2.1
    cases f with
    | next => obtain ⟨σ7, H7, I7, n7⟩ := q7; exact again I7 n7
    | cont => obtain ⟨σ7, H7, I7, n7⟩ := q7; exact again I7 n7
    | brk => obtain ⟨σ7, H7, I7, q7⟩ := q7; exact ⟨σ7, H7, I7.unpinned, q7⟩
    | ret v => obtain ⟨x7, σ7, H7, I7, r7, q7⟩ := q7; exact ⟨x7, σ7, H7, I7.unpinned, r7, q7⟩
end
theorem for_list {K : PySem.W.Frag} {a : Addr} {xs : List V} {g : TG} {tb : TS} {D : Ends} {σ : St} {H : Hp} (Pv : Nat → St → Hp → Prop) (h0 : Pv 0 σ H) (hl : ∀ i σ H, i ≤ xs.length → Pv i σ H → SqL K H a xs)
    (hs : ∀ i x σ H, xs[i]? = some x → Pv i σ H → g x σ H fun σ2 H2 => tb { D with nx := Pv (i + 1), ct := Pv (i + 1), bk := D.nx } σ2 H2) (hd : ∀ σ H, Pv xs.length σ H → D.nx σ H) :
    ∃ W : Nat → Nat → St → Hp → Prop, (∃ m, W 0 m σ H) ∧ ∀ i m σ H, W i m σ H →
      ((Itl K a).stop i H ∧ D.nx σ H) ∨ ((Itl K a).go i H ∧ ∃ N : St → Hp → Prop, (∀ σ' H', N σ' H' → ∃ m', m' < m ∧ W (i + 1) m' σ' H') ∧ ∀ x H', (Itl K a).yld i H x H' → g x σ H' fun σ2 H2 => tb { D with nx := N, ct := N, bk := D.nx } σ2 H2) := by
  refine ⟨fun i m σ H => m = xs.length - i ∧ i ≤ xs.length ∧ Pv i σ H, ⟨xs.length, by simp, Nat.zero_le _, h0⟩, ?_⟩
  rintro i m σ H ⟨rfl, hi, p⟩
  have q := hl i σ H hi p
  by_cases hlt : i < xs.length
  · refine .inr ⟨⟨xs, xs[i], q, by simp [hlt]⟩, Pv (i + 1), fun σ' H' p' => ⟨xs.length - (i + 1), by trivial, rfl, hlt, p'⟩, fun x H' y => ?_⟩
    obtain ⟨e, y⟩ := y
    subst e
    exact hs i x σ _ (y xs q) p
  · have e : i = xs.length := by trivial
    subst e
    exact .inl ⟨⟨xs, q, Nat.le_refl _⟩, hd σ H p⟩
theorem for_range {lo : Int} {n : Nat} {g : TG} {tb : TS} {D : Ends} {σ : St} {H : Hp} (Pv : Nat → St → Hp → Prop) (h0 : Pv 0 σ H)
    (hs : ∀ i σ H, i < n → Pv i σ H → g (.int (lo + i)) σ H fun σ2 H2 => tb { D with nx := Pv (i + 1), ct := Pv (i + 1), bk := D.nx } σ2 H2) (hd : ∀ σ H, Pv n σ H → D.nx σ H) :
    ∃ W : Nat → Nat → St → Hp → Prop, (∃ m, W 0 m σ H) ∧ ∀ i m σ H, W i m σ H →
      ((Itr lo n).stop i H ∧ D.nx σ H) ∨ ((Itr lo n).go i H ∧ ∃ N : St → Hp → Prop, (∀ σ' H', N σ' H' → ∃ m', m' < m ∧ W (i + 1) m' σ' H') ∧ ∀ x H', (Itr lo n).yld i H x H' → g x σ H' fun σ2 H2 => tb { D with nx := N, ct := N, bk := D.nx } σ2 H2) := by
  refine ⟨fun i m σ H => m = n - i ∧ i ≤ n ∧ Pv i σ H, ⟨n, by simp, Nat.zero_le _, h0⟩, ?_⟩
  rintro i m σ H ⟨rfl, hi, p⟩
  by_cases hlt : i < n
  · refine .inr ⟨hlt, Pv (i + 1), fun σ' H' p' => ⟨n - (i + 1), by trivial, rfl, hlt, p'⟩, fun x H' y => ?_⟩
    obtain ⟨e, y⟩ := y
    subst e y
    exact hs i σ _ hlt p
  · have e : i = n := by trivial
    subst e
    exact .inl ⟨Nat.le_refl _, hd σ H p⟩
end L2
namespace L2
open PySem PySem.Spec PyProof.Rows
noncomputable abbrev R2 := V → V → Hp → VK → Prop
noncomputable def OpR (X : Cx) (f : Value → Value → Sem Value) (r : R2) : Prop :=
  ∀ (pins : List (Addr × Obj)) (s : Shared) (σ : St) (H : Hp) (x y : V) (v u : Value) (Q : VK), Inv X pins σ H s → RelV x v → RelV y u → r x y H Q →
    wpAny (model X.prog X.w) X.A (f v u) (EP X pins σ Q) X.xe s
noncomputable def CallR (X : Cx) (f : Value) (r : List V → Hp → VK → Prop) : Prop :=
  ∀ (pins : List (Addr × Obj)) (s : Shared) (σ : St) (H : Hp) (xs : List V) (us : List Value) (Q : VK), Inv X pins σ H s → Vals xs us → r xs H Q →
    wpAny (model X.prog X.w) X.A (call f us) (EP X pins σ Q) X.xe s
noncomputable def tOp (r : R2) (ta tb : TE) : TE := fun σ H Q => ta σ H fun x H1 => tb σ H1 fun y H2 => r x y H2 Q
noncomputable def rI (C : Int → Int → Prop) (g : Int → Int → V) : R2 := fun x y H Q => ∃ i j, x = .int i ∧ y = .int j ∧ C i j ∧ Q (g i j) H
noncomputable def rI0 (g : Int → Int → V) : R2 := fun x y H Q => ∃ i j, x = .int i ∧ y = .int j ∧ Q (g i j) H
section
variable {X : Cx} {a b c : Expr} {ta tb tc : TE} {pos : Pos}
theorem binT (ha : PE X a ta) (hb : PE X b tb) {pins : List (Addr × Obj)} {s : Shared} {σ : St} {H : Hp} {R : V → V → Hp → Prop} (I : Inv X pins σ H s)
    (h : ta σ H fun x H1 => tb σ H1 fun y H2 => R x y H2) {Q : Value → Shared → Prop} {f : Value → Value → Sem Value}
    (hf : ∀ v u s2 x y H2, Inv X pins σ H2 s2 → RelV x v → RelV y u → R x y H2 → wpAny (model X.prog X.w) X.A (f v u) Q X.xe s2) :
    wpAny (model X.prog X.w) X.A (eval a X.env) (fun v s₁ => wpAny (model X.prog X.w) X.A (eval b X.env) (fun u s₂ => wpAny (model X.prog X.w) X.A (f v u) Q X.xe s₂) X.xe s₁) X.xe s := by
  refine thn (ha pins s σ H _ I h) fun v s1 ⟨x, H1, I1, r1, q1⟩ => ?_
  refine thn (hb pins s1 σ H1 _ I1 q1) fun u s2 ⟨y, H2, I2, r2, q2⟩ => ?_
  exact hf v u s2 x y H2 I2 r1 r2 q2
theorem pe_op {op : Operator} {r : R2} (ho : OpR X (binaryOp op) r) (ha : PE X a ta) (hb : PE X b tb) : PE X (.BinOp a op b pos) (tOp r ta tb) := by
  intro pins s σ H Q I h
  exact wpAny_BinOp (binT ha hb I h fun v u s2 x y H2 I2 rx ry q => ho pins s2 σ H2 x y v u Q I2 rx ry q)
theorem opI {f : Value → Value → Sem Value} {C : Int → Int → Prop} {g : Int → Int → Int}
    (rule : ∀ (i j : Int) (t u : Tok) (s : Shared) (Q : Value → Shared → Prop) (E : Value → Shared → Prop), C i j → Q (.int (g i j) s.toks) { s with toks := s.toks + 1 } → wpAny (model X.prog X.w) X.A (f (.int i t) (.int j u)) Q E s) :
    OpR X f (rI C fun i j => .int (g i j)) := by
  intro pins s σ H x y v u Q I rx ry h
  obtain ⟨i, j, rfl, rfl, hc, q⟩ := h
  obtain ⟨t, rfl⟩ := rx
  obtain ⟨t', rfl⟩ := ry
  exact rule i j t t' s _ _ hc ⟨.int (g i j), H, I.tok _, ⟨_, rfl⟩, q⟩
theorem opI0 {f : Value → Value → Sem Value} {g : Int → Int → Int}
    (rule : ∀ (i j : Int) (t u : Tok) (s : Shared) (Q : Value → Shared → Prop) (E : Value → Shared → Prop), Q (.int (g i j) s.toks) { s with toks := s.toks + 1 } → wpAny (model X.prog X.w) X.A (f (.int i t) (.int j u)) Q E s) :
    OpR X f (rI0 fun i j => .int (g i j)) := by
  intro pins s σ H x y v u Q I rx ry h
  obtain ⟨i, j, rfl, rfl, q⟩ := h
  obtain ⟨t, rfl⟩ := rx
  obtain ⟨t', rfl⟩ := ry
  exact rule i j t t' s _ _ ⟨.int (g i j), H, I.tok _, ⟨_, rfl⟩, q⟩
theorem opB0 {f : Value → Value → Sem Value} {g : Int → Int → Bool}
    (rule : ∀ (i j : Int) (t u : Tok) (s : Shared) (Q : Value → Shared → Prop) (E : Value → Shared → Prop), Q (.bool (g i j)) s → wpAny (model X.prog X.w) X.A (f (.int i t) (.int j u)) Q E s) :
    OpR X f (rI0 fun i j => .bl (g i j)) := by
  intro pins s σ H x y v u Q I rx ry h
  obtain ⟨i, j, rfl, rfl, q⟩ := h
  obtain ⟨t, rfl⟩ := rx
  obtain ⟨t', rfl⟩ := ry
  exact rule i j t t' s _ _ ⟨.bl (g i j), H, I, rfl, q⟩
noncomputable def CDiv (i j : Int) : Prop := 0 < j ∧ j < 1073741824
noncomputable def CPow (i j : Int) : Prop := 0 ≤ j ∧ j ≤ 1000000 ∧ i.natAbs < 2 ^ 64
noncomputable def CMul (i j : Int) : Prop := (-(2 ^ 64) < i ∧ i < 2 ^ 64) ∨ (-(2 ^ 64) < j ∧ j < 2 ^ 64)
theorem CMul.ok {i j : Int} (h : CMul i j) : IntMulOk i j := by
  rcases h with ⟨h1, h2⟩ | ⟨h1, h2⟩
  · exact .of_left (intBits_le_64 h1 h2)
  · exact .of_right (intBits_le_64 h1 h2)
theorem op_add : OpR X (binaryOp .Add) (rI0 fun i j => .int (i + j)) := opI0 fun _ _ _ _ _ _ _ q => add_int q
theorem op_sub : OpR X (binaryOp .Sub) (rI0 fun i j => .int (i - j)) := opI0 fun _ _ _ _ _ _ _ q => sub_int q
theorem op_mul : OpR X (binaryOp .Mult) (rI CMul fun i j => .int (i * j)) := opI fun _ _ _ _ _ _ _ hc q => mul_int q hc.ok
theorem op_fdiv : OpR X (binaryOp .FloorDiv) (rI CDiv fun i j => .int (i / j)) := opI fun i j _ _ _ _ _ hc q => by
  have h1 : (0 : Int) < j := hc.1
  have h2 : j < 1073741824 := hc.2
  exact floordiv_int (by trivial) (by rw [Int.fdiv_eq_ediv_of_nonneg i (by trivial)]; exact q) (.inl (PyProof.noPylong_small (by trivial)))
theorem op_mod : OpR X (binaryOp .Mod) (rI (fun _ j => 0 < j) fun i j => .int (i % j)) := opI fun i j _ _ _ _ _ hc q => by
  have h1 : (0 : Int) < j := hc
  exact mod_int' (by trivial) (by rw [Int.fmod_eq_emod_of_nonneg i (by trivial)]; exact q)
theorem op_pow : OpR X (binaryOp .Pow) (rI CPow fun i j => .int (i ^ j.toNat)) := opI fun _ _ _ _ _ _ _ hc q => pow_int_small hc.1 hc.2.1 hc.2.2 q
end
noncomputable def scal : V → V → Bool
  | .non, .non => true | .non, .int _ => true | .int _, .non => true | .non, .bl _ => true | .bl _, .non => true | .non, .str _ => true | .str _, .non => true
  | .int _, .int _ => true | .bl _, .bl _ => true | .str _, .str _ => true | .byt _, .byt _ => true
  | .int _, .str _ => true | .str _, .int _ => true | .bl _, .str _ => true | .str _, .bl _ => true
  | _, _ => false
noncomputable def rEq : R2 := fun x y H Q => scal x y = true ∧ Q (.bl (decide (x = y))) H
noncomputable def rNe : R2 := fun x y H Q => scal x y = true ∧ Q (.bl (!decide (x = y))) H
theorem dec_int {i j : Int} : decide (V.int i = V.int j) = (i == j) := by
  rw [Bool.eq_iff_iff]
  simp
theorem dec_bl {i j : Bool} : decide (V.bl i = V.bl j) = (i == j) := by
  rw [Bool.eq_iff_iff]
  simp
theorem dec_str {i j : Str} : decide (V.str i = V.str j) = (i == j) := by
  rw [Bool.eq_iff_iff]
  simp
theorem dec_byt {i j : Array UInt8} : decide (V.byt i = V.byt j) = (i.toList == j.toList) := by
  rw [Bool.eq_iff_iff]
  cases i
  cases j
  simp
section
variable {X : Cx} {a b c : Expr} {ta tb tc : TE} {pos : Pos}
theorem fin_bl {pins : List (Addr × Obj)} {σ : St} {H : Hp} {s : Shared} {Q : VK} {k k' : Bool} (I : Inv X pins σ H s) (q : Q (.bl k) H) (e : k = k') : EP X pins σ Q (.bool k') s := by
  subst e
  exact ⟨.bl k, H, I, rfl, q⟩
theorem op_eq : OpR X (compareOp .Eq) rEq := by
  intro pins s σ H x y v u Q I rx ry h
  obtain ⟨hs, q⟩ := h
  cases x with
  | non =>
    cases rx
    cases y with
    | non => cases ry; exact PySem.EqNone.eq_none_none (fin_bl I q (by simp))
    | bl j => cases ry; exact PySem.EqNone.eq_none_bool (fin_bl I q (by simp))
    | int j => obtain ⟨t', rfl⟩ := ry; exact PySem.EqNone.eq_none_int (fin_bl I q (by simp))
    | str j => obtain ⟨t', rfl⟩ := ry; exact PySem.EqNone.eq_none_str (fin_bl I q (by simp))
    | _ => exact absurd (show false = true from hs) Bool.false_ne_true
  | bl i =>
    cases rx
    cases y with
    | non => cases ry; exact PySem.EqNone.eq_bool_none (fin_bl I q (by simp))
    | bl j => cases ry; exact eq_bool (fin_bl I q dec_bl)
    | str j => obtain ⟨t', rfl⟩ := ry; exact PySem.EqMixed.eq_bool_str (fin_bl I q (by simp))
    | _ => exact absurd (show false = true from hs) Bool.false_ne_true
  | int i =>
    obtain ⟨t, rfl⟩ := rx
    cases y with
    | non => cases ry; exact PySem.EqNone.eq_int_none (fin_bl I q (by simp))
    | int j => obtain ⟨t', rfl⟩ := ry; exact eq_int (fin_bl I q dec_int)
    | str j => obtain ⟨t', rfl⟩ := ry; exact PySem.EqMixed.eq_int_str (fin_bl I q (by simp))
    | _ => exact absurd (show false = true from hs) Bool.false_ne_true
  | str i =>
    obtain ⟨t, rfl⟩ := rx
    cases y with
    | non => cases ry; exact PySem.EqNone.eq_str_none (fin_bl I q (by simp))
    | bl j => cases ry; exact PySem.EqMixed.eq_str_bool (fin_bl I q (by simp))
    | int j => obtain ⟨t', rfl⟩ := ry; exact PySem.EqMixed.eq_str_int (fin_bl I q (by simp))
    | str j => obtain ⟨t', rfl⟩ := ry; exact eq_str (fin_bl I q dec_str)
    | _ => exact absurd (show false = true from hs) Bool.false_ne_true
  | byt i =>
    obtain ⟨t, rfl⟩ := rx
    cases y with
    | byt j => obtain ⟨t', rfl⟩ := ry; exact PySem.W.eq_bytes (fin_bl I q dec_byt)
    | _ => exact absurd (show false = true from hs) Bool.false_ne_true
  | _ => cases y <;> exact absurd (show false = true from hs) Bool.false_ne_true
theorem op_ne : OpR X (compareOp .NotEq) rNe := by
  intro pins s σ H x y v u Q I rx ry h
  obtain ⟨hs, q⟩ := h
  cases x with
  | non =>
    cases rx
    cases y with
    | non => cases ry; exact PySem.EqNone.ne_none_none (fin_bl I q (by simp))
    | bl j => cases ry; exact PySem.EqNone.ne_none_bool (fin_bl I q (by simp))
    | int j => obtain ⟨t', rfl⟩ := ry; exact PySem.EqNone.ne_none_int (fin_bl I q (by simp))
    | str j => obtain ⟨t', rfl⟩ := ry; exact PySem.EqNone.ne_none_str (fin_bl I q (by simp))
    | _ => exact absurd (show false = true from hs) Bool.false_ne_true
  | bl i =>
    cases rx
    cases y with
    | non => cases ry; exact PySem.EqNone.ne_bool_none (fin_bl I q (by simp))
    | bl j => cases ry; exact ne_bool (fin_bl I q (congrArg not dec_bl))
    | str j => obtain ⟨t', rfl⟩ := ry; exact PySem.EqMixed.ne_bool_str (fin_bl I q (by simp))
    | _ => exact absurd (show false = true from hs) Bool.false_ne_true
  | int i =>
    obtain ⟨t, rfl⟩ := rx
    cases y with
    | non => cases ry; exact PySem.EqNone.ne_int_none (fin_bl I q (by simp))
    | int j => obtain ⟨t', rfl⟩ := ry; exact ne_int (fin_bl I q (congrArg not dec_int))
    | str j => obtain ⟨t', rfl⟩ := ry; exact PySem.EqMixed.ne_int_str (fin_bl I q (by simp))
    | _ => exact absurd (show false = true from hs) Bool.false_ne_true
  | str i =>
    obtain ⟨t, rfl⟩ := rx
    cases y with
    | non => cases ry; exact PySem.EqNone.ne_str_none (fin_bl I q (by simp))
    | bl j => cases ry; exact PySem.EqMixed.ne_str_bool (fin_bl I q (by simp))
    | int j => obtain ⟨t', rfl⟩ := ry; exact PySem.EqMixed.ne_str_int (fin_bl I q (by simp))
    | str j => obtain ⟨t', rfl⟩ := ry; exact ne_str (fin_bl I q (congrArg not dec_str))
    | _ => exact absurd (show false = true from hs) Bool.false_ne_true
  | byt i =>
    obtain ⟨t, rfl⟩ := rx
    cases y with
    | byt j => obtain ⟨t', rfl⟩ := ry; exact PySem.W.ne_bytes (fin_bl I q (congrArg not dec_byt))
    | _ => exact absurd (show false = true from hs) Bool.false_ne_true
  | _ => cases y <;> exact absurd (show false = true from hs) Bool.false_ne_true
theorem op_lt : OpR X (compareOp .Lt) (rI0 fun i j => .bl (decide (i < j))) := opB0 fun _ _ _ _ _ _ _ q => lt_int q
theorem op_le : OpR X (compareOp .LtE) (rI0 fun i j => .bl (decide (i ≤ j))) := opB0 fun _ _ _ _ _ _ _ q => le_int q
theorem op_gt : OpR X (compareOp .Gt) (rI0 fun i j => .bl (decide (j < i))) := opB0 fun _ _ _ _ _ _ _ q => gt_int q
theorem op_ge : OpR X (compareOp .GtE) (rI0 fun i j => .bl (decide (j ≤ i))) := opB0 fun _ _ _ _ _ _ _ q => ge_int q
theorem nomark (b : Expr) {op : CmpOp} (h : op ≠ .In := by decide) (h2 : op ≠ .NotIn := by decide) : behindInMarks op b = false := by
  have e1 : (op == CmpOp.In) = false := by cases op <;> first | rfl | exact absurd rfl h
  have e2 : (op == CmpOp.NotIn) = false := by cases op <;> first | rfl | exact absurd rfl h2
  cases b <;> simp [behindInMarks, e1, e2]
theorem pe_cmpR {op : CmpOp} {r : R2} (ho : OpR X (compareOp op) r) (ha : PE X a ta) (hb : PE X b tb) (hm : behindInMarks op b = false) : PE X (.Compare a [op] [b] pos) (tOp r ta tb) := by
  intro pins s σ H Q I h
  exact wpAny_Compare1 (binT ha hb I h fun v u s2 x y H2 I2 rx ry q => ho pins s2 σ H2 x y v u Q I2 rx ry q) hm
noncomputable def tTest (t : TE) : TT := fun σ H Q => t σ H fun x H' => ∃ k, x = .bl k ∧ Q k H'
theorem pt_cmpR {op : CmpOp} {r : R2} (ho : OpR X (compareOp op) r) (ha : PE X a ta) (hb : PE X b tb) (hm : behindInMarks op b = false) : PT X (.Compare a [op] [b] pos) (tTest (tOp r ta tb)) := by
  intro pins s σ H Q I h
  refine wpAny_isTrue_Compare1 (thn (ha pins s σ H _ I h) fun v s1 ⟨x, H1, I1, r1, q1⟩ => thn (hb pins s1 σ H1 _ I1 q1) fun u s2 ⟨y, H2, I2, r2, q2⟩ =>
    thn (ho pins s2 σ H2 x y v u _ I2 r1 r2 q2) fun c s3 ⟨z, H3, I3, r3, k, e, q3⟩ => ?_) hm
  subst e
  cases r3
  exact wpAny_truthy_bool ⟨H3, I3, q3⟩
noncomputable def tChain (r r' : R2) (ta tb tc : TE) : TE := fun σ H Q => ta σ H fun x H1 => tb σ H1 fun y H2 => r x y H2 fun z H3 => ∃ k, z = .bl k ∧
  (if k = true then tc σ H3 fun w' H4 => r' y w' H4 Q else Q (.bl false) H3)
theorem pe_chain {op op' : CmpOp} {r r' : R2} (ho : OpR X (compareOp op) r) (ho' : OpR X (compareOp op') r') (ha : PE X a ta) (hb : PE X b tb) (hc : PE X c tc)
    (hm : lastMarks [op, op'] [b, c] = false := by with_unfolding_all rfl) : PE X (.Compare a [op, op'] [b, c] pos) (tChain r r' ta tb tc) := by
  intro pins s σ H Q I h
  refine Compare_chain (thn (ha pins s σ H _ I h) fun v s1 ⟨x, H1, I1, r1, q1⟩ => chain_link (thn (hb pins s1 σ H1 _ I1 q1) fun u s2 ⟨y, H2, I2, r2, q2⟩ =>
    thn (ho pins s2 σ H2 x y v u _ I2 r1 r2 q2) fun d s3 ⟨z, H3, I3, r3, k, e, q3⟩ => ?_)) hm
  subst e
  cases r3
  refine wpAny_truthy_bool ?_
  cases k with
  | false => exact ite_ff ⟨.bl false, H3, I3, rfl, q3⟩
  | true => exact ite_tt (chain_last (thn (hc pins s3 σ H3 _ I3 q3) fun w' s4 ⟨z', H4, I4, r4, q4⟩ => ho' pins s4 σ H4 y z' u w' Q I4 r2 r4 q4))
theorem line63 : (sizeLine : Nat) < 2 ^ 63 := by rw [sizeLine_eq]; decide
theorem vals1 {x : V} {us : List Value} (r : Vals [x] us) : ∃ u, us = [u] ∧ RelV x u := by
  cases r with
  | cons r1 r2 => cases r2; exact ⟨_, rfl, r1⟩
theorem vals2 {x y : V} {us : List Value} (r : Vals [x, y] us) : ∃ u w', us = [u, w'] ∧ RelV x u ∧ RelV y w' := by
  cases r with
  | cons r1 r2 =>
    cases r2 with
    | cons r3 r4 => cases r4; exact ⟨_, _, rfl, r1, r3⟩
theorem call_min2 (hc : X.calm = true) : CallR X (.builtin "min") (fun xs H Q => ∃ i j, xs = [.int i, .int j] ∧ Q (.int (if j < i then j else i)) H) := by
  intro pins s σ H xs us Q I r h
  obtain ⟨i, j, rfl, q⟩ := h
  obtain ⟨u, w', rfl, ⟨t, rfl⟩, ⟨t', rfl⟩⟩ := vals2 r
  refine min_two_ints (I.ok.hd hc) fun h' tk k => ⟨_, H, I.kept k, ?_, q⟩
  by_cases hj : j < i
  · rw [if_pos hj, if_pos hj]; exact ⟨_, rfl⟩
  · rw [if_neg hj, if_neg hj]; exact ⟨_, rfl⟩
end
end L2
namespace L2
open PySem PySem.Spec PyProof.Rows
structure ObjM (h : Heap) (x dx C : Addr) (mA : Str → Option Value) : Prop where
  obj : h.get? x = some (PySem.W.instObj C dx)
  ns : h.Ns1 dx mA
  ne : dx ≠ x
theorem lookIn_ns {h : Heap} {dx : Addr} {mA : Str → Option Value} (n : h.Ns1 dx mA) : ∃ od, h.get? dx = some od ∧ ∀ name, PySem.W.lookIn name od = some (mA name) := by
  obtain ⟨o, es, ep, ho, hd, hk, _, hm⟩ := n
  refine ⟨o, ho, fun name => ?_⟩
  have e := hm name
  unfold nsFind findBy at e
  rw [← Array.find?_toList] at e
  unfold PySem.W.lookIn
  rw [hd]
  dsimp only
  split
  · rename_i y q
    rw [q] at e
    exact congrArg some e
  · rename_i q
    rw [q] at e
    have a : es.toList.any (·.refKey) = false := by
      rw [List.any_eq_false]
      intro y hy
      obtain ⟨z, t, hkey⟩ := hk y (Array.mem_toList_iff.mp hy)
      simp [DictEntry.refKey, hkey]
    have a' : ¬ es.toList.any (·.refKey) = true := by rw [a]; exact Bool.false_ne_true
    rw [if_neg a']
    exact congrArg some e
theorem ObjM.look {h : Heap} {x dx C : Addr} {mA : Str → Option Value} (I : ObjM h x dx C mA) : ∃ od, PySem.W.InstAt h x (PySem.W.instObj C dx) C (some od) ∧ ∀ name, PySem.W.lookIn name od = some (mA name) :=
  let ⟨od, ho, hl⟩ := lookIn_ns I.ns
  ⟨od, ⟨I.obj, rfl, rfl, ho⟩, hl⟩
section
variable {prog : Program} {w : World} {A : Around} {E : Value → Shared → Prop} {s : Shared} {K : PySem.W.Frag} {x dx C f : Addr} {mA : Str → Option Value} {name : Str} {v : Value}
end
theorem RelO.some_of {v : V} {o : Option Value} (r : RelO (some v) o) : ∃ u, o = some u ∧ RelV v u := by
  cases o with
  | none => exact (show False from r).elim
  | some u => exact ⟨u, rfl, r⟩
section
variable {P : Program} {w : World} {H H' : Hp} {h h' : Heap} {a C dx : Addr} {fs fs' : List (Str × V)}
theorem ins_get (hok : HOk P w H h) (e : H a = some (.ins C dx fs)) : ∃ mA, ObjM h a dx C mA ∧ (∀ f, RelO (fs.lookup f) (mA f)) ∧ PySem.Within mA (fs.map (·.1)) ∧ fs.length ≤ 1000 ∧ H dx = some (.own a) := by
  obtain ⟨d, z, ne, ob, mA, n, r, q⟩ := (show ObjOk P w H h a (.ins C dx fs) from hok a _ e)
  exact ⟨mA, ⟨ob, n, ne⟩, r, q, z, d⟩
end
structure Cls (K : PySem.W.Frag) (C : Addr) : Prop where
  pg : PySem.W.plainGet K C Str.empty = true
  hd : PySem.W.hasDictIn K C = true
  po : PySem.W.plainOver K C = true
  sa : PySem.W.findIn K (.ref C) "__setattr__" = some (some (.builtin "object.__setattr__"))
theorem Cls.get {K : PySem.W.Frag} {C : Addr} (c : Cls K C) (f : Str) : PySem.W.plainGet K C f = true := c.pg
structure Con (K : PySem.W.Frag) (C : Addr) (f : Str) (v : V) (u : Value) : Prop where
  at_ : PySem.W.findIn K (.ref C) f = some (some u)
  rel : RelV v u
  get : PySem.W.specialIn K u "__get__" = some none
  cp : PySem.W.copiedNames.contains f = false
structure Meth (K : PySem.W.Frag) (C : Addr) (m : Str) (f : Addr) : Prop where
  at_ : PySem.W.findIn K (.ref C) m = some (some (.ref f))
  fn : PySem.W.isFn K (.ref f) = true
  kp : PySem.W.keepIn K (.ref f) = true
section
variable {X : Cx} {pins : List (Addr × Obj)} {σ : St} {H : Hp} {s : Shared} {a C dx : Addr} {fs : List (Str × V)} {f : Str} {v : V} {A : Around} {E : Value → Shared → Prop}
end
section
variable {X : Cx} {o e value : Expr} {f : Str} {pos pos' tpos : Pos} {ta tv : TE}
end
section
variable {X : Cx} {pins : List (Addr × Obj)} {σ : St} {H : Hp} {s : Shared} {A : Around} {E : Value → Shared → Prop} {Q : Value → Shared → Prop} {c : Value} {b : Bool}
inductive TyOf (K : PySem.W.Frag) (H : Hp) : V → Value → Prop where
  | non : TyOf K H .non (.type "NoneType")
  | bl (x : Bool) : TyOf K H (.bl x) (.type "bool")
  | int (i : Int) : TyOf K H (.int i) (.type "int")
  | str (x : Str) : TyOf K H (.str x) (.type "str")
  | flt (x : UInt64) : TyOf K H (.flt x) (.type "float")
  | lst {a : Addr} {xs : List V} (e : H a = some (.lst xs)) : TyOf K H (.ref a) (.type "list")
  | frz {a : Addr} {o : Obj} {xs : List V} (e : H a = some (.frz o (.lst xs))) : TyOf K H (.ref a) (.type "list")
  | tup {a : Addr} {xs : List V} (e : H a = some (.tup xs)) : TyOf K H (.ref a) (.type "tuple")
  | dK {a : Addr} {kvs : List (Key × V)} (e : H a = some (.dK kvs)) : TyOf K H (.ref a) (.type "dict")
  | dT {a : Addr} {kvs : List (List Key × V)} (e : H a = some (.dT kvs)) : TyOf K H (.ref a) (.type "dict")
  | ins {a C dx : Addr} {fs : List (Str × V)} (e : H a = some (.ins C dx fs)) (cl : Cls K C) (ha : PySem.W.findIn K (.ref C) "__class__" = some (some (.builtin "object.__class__")))
      (hn : PySem.W.specialIn K (.builtin "object.__class__") "__get__" = some (some (.builtin "getset_descriptor.__get__"))) (htk : PySem.W.takesIn K (.builtin "object.__class__") = some true)
      (hm : PySem.W.mroIn K C (.type "object") = some true) : TyOf K H (.ref a) (.ref C)
theorem isinst_ok {x : V} {u t : Value} (I : Inv X pins σ H s) (rx : RelV x u) (ty : TyOf X.K H x t) (e : PySem.W.kitOne X.K t c = some b) (h : ∀ tk, Q (.bool b) { s with toks := tk }) :
    wpAny (model X.prog X.w) A (call (.builtin "isinstance") [u, c]) Q E s := by
  cases ty with
  | non => cases (show u = Value.none from rx); exact PySem.W.kia_one PySem.W.kitx_none I.kIn True.intro e (fun z => nomatch z) h
  | bl y => cases (show u = Value.bool y from rx); exact PySem.W.kia_one PySem.W.kitx_bool I.kIn True.intro e (fun z => nomatch z) h
  | int i => obtain ⟨t, q⟩ := (show ∃ t, u = Value.int i t from rx); cases q; exact PySem.W.kia_one PySem.W.kitx_int I.kIn True.intro e (fun z => nomatch z) h
  | str y => obtain ⟨t, q⟩ := (show ∃ t, u = Value.str y t from rx); cases q; exact PySem.W.kia_one PySem.W.kitx_str I.kIn True.intro e (fun z => nomatch z) h
  | flt y => obtain ⟨t, q⟩ := (show ∃ t, u = Value.float y t from rx); cases q; exact PySem.W.kia_one PySem.W.kitx_float I.kIn True.intro e (fun z => nomatch z) h
  | @lst a xs ea =>
    cases (show u = Value.ref a from rx)
    obtain ⟨_, _, n, _, h1⟩ := (show ObjOk X.prog X.w H s.heap a (.lst xs) from I.hok a _ ea)
    exact PySem.W.kia_one PySem.W.kitx_list I.kIn ⟨_, h1, rfl⟩ e (fun z => nomatch z) h
  | @frz a ob xs ea =>
    cases (show u = Value.ref a from rx)
    obtain ⟨_, _, _, n, _, h1⟩ := (show ObjOk X.prog X.w H s.heap a (.frz ob (.lst xs)) from I.hok a _ ea)
    exact PySem.W.kia_one PySem.W.kitx_list I.kIn ⟨_, h1, rfl⟩ e (fun z => nomatch z) h
  | @tup a xs ea =>
    cases (show u = Value.ref a from rx)
    obtain ⟨_, _, _, p⟩ := (show ObjOk X.prog X.w H s.heap a (.tup xs) from I.hok a _ ea)
    obtain ⟨o, h1, h2, _⟩ := p
    exact PySem.W.kia_one PySem.W.kitx_tuple I.kIn ⟨o, h1, h2⟩ e (fun z => nomatch z) h
  | @dK a kvs ea =>
    cases (show u = Value.ref a from rx)
    obtain ⟨_, _, vs, _, p⟩ := (show ObjOk X.prog X.w H s.heap a (.dK kvs) from I.hok a _ ea)
    obtain ⟨o, es, ep, h1, h2, _⟩ := p
    exact PySem.W.kia_one PySem.W.kitx_dict I.kIn ⟨o, h1, h2.1⟩ e (fun z => nomatch z) h
  | @dT a kvs ea =>
    cases (show u = Value.ref a from rx)
    obtain ⟨_, _, xs, _, o, es, ep, h1, h2, _⟩ := (show ObjOk X.prog X.w H s.heap a (.dT kvs) from I.hok a _ ea)
    exact PySem.W.kia_one PySem.W.kitx_dict I.kIn ⟨o, h1, h2.1⟩ e (fun z => nomatch z) h
  | @ins a C dx fs ea cl ha hn htk hm =>
    cases (show u = Value.ref a from rx)
    obtain ⟨mA, O, _⟩ := ins_get I.hok ea
    obtain ⟨od, J, _⟩ := O.look
    exact PySem.W.kia_one (PySem.W.kitx_own (cl.get _) cl.hd ha hn htk hm) I.kIn J e (fun z => nomatch z) h
end
end L2
namespace L2
open PySem PySem.Spec PyProof.Rows
structure Room (k : Nat) (A : Around) : Prop where
  hd : A.handled = none
  dp : A.depth + 3 * k + 5 < recursionLimit
  un : A.units + 16 * k + 200 < cLine
theorem Room.mono {j k : Nat} {A : Around} (r : Room k A) (h : j ≤ k) : Room j A := ⟨r.hd, by have := r.dp; trivial, by have := r.un; trivial⟩
theorem Room.deeper {k : Nat} {A : Around} (r : Room (k + 1) A) (env : Env) : Room k (A.deeper env) :=
  ⟨r.hd, by have := r.dp; show A.depth + 1 + 3 * k + 5 < _; trivial, by have := r.un; show A.units + 3 + 16 * k + 200 < _; trivial⟩
theorem Room.depth {k : Nat} {A : Around} (r : Room k A) : A.depth < recursionLimit := by have := r.dp; trivial
theorem Room.units {k : Nat} {A : Around} (r : Room k A) : A.units + 64 < cLine := by have := r.un; trivial
noncomputable def tNil : TA := fun _ H Q => Q [] H
noncomputable def tCons (ta : TE) (tr : TA) : TA := fun σ H Q => ta σ H fun x H1 => tr σ H1 fun xs H2 => Q (x :: xs) H2
section
variable {X : Cx} {e : Expr} {es : List Expr} {te : TE} {t : TA} {pos : Pos}
theorem pa_nil : PA X [] tNil := fun _ _ _ _ H Q I h => Calls.spliced_nil ⟨[], H, I, .nil, h⟩
theorem pa_cons (ha : PE X e te) (hr : PA X es t) (hs : starEach (e :: es) X.env = (false, eval e X.env) :: starEach es X.env := by rfl) : PA X (e :: es) (tCons te t) := by
  intro pos pins s σ H Q I h
  rw [hs]
  show wpAny _ _ (spliced ((false, eval e X.env) :: backTo pos (starEach es X.env))) _ _ s
  refine Calls.spliced_cons (thn (ha pins s σ H _ I h) fun u s1 ⟨x, H1, I1, r1, q1⟩ => ?_)
  exact thn (hr pos pins s1 σ H1 _ I1 q1) fun us s2 ⟨xs, H2, I2, r2, q2⟩ => ⟨x :: xs, H2, I2, .cons r1 r2, q2⟩
noncomputable def tTup (t : TA) : TE := fun σ H Q => t σ H fun xs H1 => xs.length ≤ sizeLine ∧ ∀ p, H1 p = none → Q (.ref p) (upd H1 p (.tup xs))
noncomputable def tLst (t : TA) : TE := fun σ H Q => t σ H fun xs H1 => xs.length ≤ sizeLine ∧ ∀ p, H1 p = none → Q (.ref p) (upd H1 p (.lst xs))
theorem pe_tup {x1} (h : PA X es t) : PE X (.Tuple es x1 pos) (tTup t) := by
  intro pins s σ H Q I hq
  refine wpAny_Tuple_spliced (thn (h pos pins s σ H _ I hq) fun us s1 ⟨xs, H1, I1, r, z, q⟩ => ⟨by rw [← r.length]; exact z, ?_⟩)
  have hf : H1 s1.heap.objs.size = none := I1.hok.fresh (Nat.le_refl _)
  refine ⟨.ref s1.heap.objs.size, upd H1 s1.heap.objs.size (.tup xs), I1.laid (t' := s1.toks) (fun b u e => Heap.get?_push_of_some _ e) (Nat.le_refl _) ?_, rfl, q _ hf⟩
  exact ⟨z, us, r, ⟨_, Heap.get?_push_size _ rfl, rfl, _, rfl⟩⟩
theorem pe_lst (h : PA X es t) : PE X (.List es pos) (tLst t) := by
  intro pins s σ H Q I hq
  refine wpAny_List_spliced (thn (h pos pins s σ H _ I hq) fun us s1 ⟨xs, H1, I1, r, z, q⟩ => ⟨by rw [← r.length]; exact z, ?_⟩)
  have hf : H1 s1.heap.objs.size = none := I1.hok.fresh (Nat.le_refl _)
  refine ⟨.ref s1.heap.objs.size, upd H1 s1.heap.objs.size (.lst xs), I1.laid (t' := s1.toks) (fun b u e => Heap.get?_push_of_some _ e) (Nat.le_refl _) ?_, rfl, q _ hf⟩
  exact ⟨z, us, 0, r, Heap.get?_push_size _ rfl⟩
end
noncomputable abbrev Sp := List V → Hp → VK → XK → Prop
noncomputable abbrev CXT := List Env → Hp → Shared → XK → Value → Shared → Prop
structure Env0 (P : Program) (w : World) (K : PySem.W.Frag) (mg : Str → Option Value) (base : Heap) (A : Around) (outer : List Env) (s : Shared) (H : Hp) : Prop where
  frames : A.frames = some outer
  mod : Mod K mg base
  bs : ∀ b o, base.get? b = some o → s.heap.get? b = some o ∧ H b = none
  bsz : base.objs.size ≤ s.heap.objs.size
  funs : s.heap.FunFrames base outer
  frf : ∀ b ∈ frs outer, H b = none
  hok : HOk P w H s.heap
  bare : AllBare s.gens
noncomputable def CE (outer : List Env) (P : Program) (w : World) (H : Hp) (s : Shared) (Q : VK) (u : Value) (s' : Shared) : Prop :=
  ∃ v H', s'.os = s.os ∧ AllBare s'.gens ∧ Un (frs outer) [] H H' s.heap s'.heap ∧ HOk P w H' s'.heap ∧ RelV v u ∧ Q v H'
noncomputable def CR (CX : CXT) (outer : List Env) (P : Program) (w : World) (H : Hp) (s : Shared) (Q : VK) (E : XK) (r : Result) (s' : Shared) : Prop :=
  match r with
  | .ok (.ret u) => CE outer P w H s Q u s'
  | .ok _ => False
  | .error e => CX outer H s E e s'
structure FnOk (P : Program) (w : World) (K : PySem.W.Frag) (mg : Str → Option Value) (base : Heap) (CX : CXT) (k : Nat) (f : Addr) (fd : FuncData) (ps : List Str) (sp : Sp) : Prop where
  len : ∀ vs H Q E, sp vs H Q E → vs.length = ps.length
  run : ∀ (A : Around) (outer : List Env) (s : Shared) (H : Hp) (args : Args) (us : List Value) (vs : List V) (Q : VK) (E : XK), Room k A → Env0 P w K mg base A outer s H → BindsTo s fd args (ps.zip us) → Vals vs us → sp vs H Q E →
    codeAny (model P w) A (.call (.ref f) args) (CR CX outer P w H s Q E) s
section
variable {X : Cx} {pins : List (Addr × Obj)} {σ : St} {H : Hp} {s s' : Shared}
theorem Inv.env0 (I : Inv X pins σ H s) : Env0 X.prog X.w X.K X.mg X.base X.A X.stack s H :=
  ⟨I.ok.frames, I.ok.mod, I.bs, Nat.le_trans I.ok.bsz I.sz, I.stack, I.stkFree, I.hok, I.bare⟩
theorem Inv.after {Q : VK} {u : Value} (I : Inv X pins σ H s) (h : CE X.stack X.prog X.w H s Q u s') : EP X pins σ Q u s' := by
  obtain ⟨v, H', os, bare, un, hok, r, q⟩ := h
  obtain ⟨hh, g, d, t, os'⟩ := s'
  obtain rfl : os' = s.os := os
  exact ⟨v, H', I.call (h' := hh) (g' := g) (d' := d) (t' := t) (ch := []) un hok bare (fun b z => absurd z (by simp)), r, q⟩
end
noncomputable def tCall (sp : Sp) (dvs : List V) (E : XK) (t : TA) : TE := fun σ H Q => t σ H fun vs H1 => sp (vs ++ dvs) H1 Q E
noncomputable def Binds (K : PySem.W.Frag) (fd : FuncData) (ps : List Str) (ds : List Value) : Prop :=
  ∀ (s : Shared) (us : List Value), K.In s.heap → (us ++ ds).length = ps.length → BindsTo s fd ⟨us, []⟩ (ps.zip (us ++ ds))
theorem Binds.all {K : PySem.W.Frag} {fd : FuncData} {ps : List Str} (h : ∀ us : List Value, us.length = ps.length → bindArgs fd ⟨us, []⟩ = pure (ps.zip us)) : Binds K fd ps [] := fun s us _ hl => by
  rw [List.append_nil] at hl ⊢
  exact .of_eq (h us hl)
noncomputable def Passes (CX : CXT) (X : Cx) (E : XK) : Prop := ∀ (pins : List (Addr × Obj)) (σ : St) (H : Hp) (s : Shared) (e : Value) (s' : Shared), Inv X pins σ H s → CX X.stack H s E e s' → X.xe e s'
section
variable {X : Cx} {CX : CXT} {k : Nat} {f C : Addr} {fd : FuncData} {ps : List Str} {sp : Sp} {dvs : List V} {ds : List Value} {E : XK} {x m : Str} {p pos apos : Pos} {e o : Expr} {es : List Expr} {ta : TE} {t : TA}
theorem run_fn {pins : List (Addr × Obj)} {σ : St} {H : Hp} {s : Shared} {Q : VK} {us : List Value} {vs : List V} (F : FnOk X.prog X.w X.K X.mg X.base CX k f fd ps sp) (hr : Room k X.A) (hb : Binds X.K fd ps ds) (hd : Vals dvs ds) (hx : Passes CX X E)
    (I : Inv X pins σ H s) (r : Vals vs us) (h : sp (vs ++ dvs) H Q E) : wpAny (model X.prog X.w) X.A (call (.ref f) us) (EP X pins σ Q) X.xe s := by
  have r2 : Vals (vs ++ dvs) (us ++ ds) := r.append hd
  have hl : (us ++ ds).length = ps.length := by rw [← r2.length]; exact F.len _ _ _ _ h
  refine wpAny_call (codeAny_mono (F.run X.A X.stack s H ⟨us, []⟩ (us ++ ds) (vs ++ dvs) Q E hr I.env0 (hb s us I.kIn hl) r2 h) fun r s' hq => ?_)
  cases r with
  | error e => exact hx pins σ H s e s' I hq
  | ok fl =>
    cases fl with
    | ret u => exact I.after hq
    | next => exact False.elim hq
    | brk => exact False.elim hq
    | cont => exact False.elim hq
theorem pe_call (F : FnOk X.prog X.w X.K X.mg X.base CX k f fd ps sp) (hr : Room k X.A) (hg : Gl X x) (hm : X.mg x = some (.ref f)) (hk : PySem.W.keepIn X.K (.ref f) = true) (hb : Binds X.K fd ps ds) (hd : Vals dvs ds) (hx : Passes CX X E)
    (ha : PA X (e :: es) t) (hdb : (x == ("__debug__" : Str)) = false := by decide) (he : starEach (e :: es) X.env = (false, eval e X.env) :: starEach es X.env := by rfl) (hpl : (backTo pos (starEach es X.env)).any (·.1) = false := by rfl) :
    PE X (.Call (.Name x p) (e :: es) [] pos) (tCall sp dvs E t) := by
  intro pins s σ H Q I h
  refine wpAny_Call_Name_kw (ld_glob I hg hm ?_ hdb)
  refine PySem.W.callWith_K (h₀ := X.base) I.ok.mod.kin hk (thn (ha pos pins s σ H _ I h) fun us s1 ⟨vs, H1, I1, r, q⟩ => ⟨I1.kIn, ?_⟩) he hpl
  exact run_fn F hr hb hd hx I1 r q
structure Mk (K : PySem.W.Frag) (C f : Addr) : Prop where
  makes : PySem.W.makesIn K C = true
  init : PySem.W.findIn K (.ref C) "__init__" = some (some (.ref f))
  fn : PySem.W.isFn K (.ref f) = true
  kp : PySem.W.keepIn K (.ref C) = true
end
section
variable {X : Cx} {CX : CXT} {k : Nat} {f C : Addr} {fd : FuncData} {ps ks : List Str} {sp : Sp} {E : XK} {x m : Str} {p pos apos kpos : Pos} {e o : Expr} {es : List Expr} {kws : List Keyword} {te ta : TE} {t tk : TA} {nm : Option Str}
structure KBinds (K : PySem.W.Frag) (fd : FuncData) (ps ks : List Str) (g : List Value → List Value → List Value) (gV : List V → List V → List V) : Prop where
  to : ∀ (s : Shared) (us ws : List Value), K.In s.heap → (g us ws).length = ps.length → BindsTo s fd ⟨us, ks.zip ws⟩ (ps.zip (g us ws))
  rel : ∀ {vs : List V} {us : List Value} {zs : List V} {ws : List Value}, Vals vs us → Vals zs ws → Vals (gV vs zs) (g us ws)
variable {g : List Value → List Value → List Value} {gV : List V → List V → List V}
end
structure FnScope (N P : List Str) (sc : Scope) : Prop where
  kind : sc.kind = .function
  co : sc.isCoroutine = false
  gen : sc.isGenerator = false
  nd : N.Nodup
  pre : N.take P.length = P
  par : ∀ x ∈ P, sc.names.lookup x = some .local ∨ sc.names.lookup x = some .cell
  nofree : ∀ y ∈ sc.names, y.2 ≠ .free
theorem bindL_out {kindOf : Str → Option NameKind} {x : Str} : ∀ {binds : List (Str × Value)} {m : Str → Option Value}, (∀ v, (x, v) ∉ binds) → bindL kindOf binds m x = m x
  | [], _, _ => rfl
  | (n, v) :: r, m, h => by
    unfold bindL
    rw [bindL_out fun w hw => h w (List.mem_cons_of_mem _ hw)]
    split
    · have : x ≠ n := by rintro rfl; exact h v List.mem_cons_self
      simp [this]
    · rfl
theorem bindC_out {kindOf : Str → Option NameKind} {x : Str} : ∀ {binds : List (Str × Value)} {m : Str → Option Value}, (∀ v, (x, v) ∉ binds) → bindC kindOf binds m x = m x
  | [], _, _ => rfl
  | (n, v) :: r, m, h => by
    unfold bindC
    rw [bindC_out fun w hw => h w (List.mem_cons_of_mem _ hw)]
    split
    · rfl
    · have : x ≠ n := by rintro rfl; exact h v List.mem_cons_self
      simp [this]
theorem bindL_get {kindOf : Str → Option NameKind} {x : Str} {v : Value} : ∀ {P : List Str} {vs : List Value} {i : Nat} {m : Str → Option Value}, P.Nodup → P[i]? = some x → vs[i]? = some v → kindOf x = some .local →
    bindL kindOf (P.zip vs) m x = some v
  | [], _, _, _, _, h, _, _ => by simp at h
  | _ :: _, [], _, _, _, _, h, _ => by simp at h
  | p :: P, w :: vs, 0, m, nd, h1, h2, hk => by
    simp at h1 h2; subst h1; subst h2
    show bindL kindOf ((p, w) :: P.zip vs) m p = _
    unfold bindL
    rw [bindL_out fun v hv => (List.nodup_cons.mp nd).1 (List.of_mem_zip hv).1, if_pos hk]
    simp
  | p :: P, w :: vs, i + 1, m, nd, h1, h2, hk => by
    show bindL kindOf ((p, w) :: P.zip vs) m x = _
    unfold bindL
    exact bindL_get (i := i) (List.nodup_cons.mp nd).2 (by simpa using h1) (by simpa using h2) hk
theorem bindC_get {kindOf : Str → Option NameKind} {x : Str} {v : Value} : ∀ {P : List Str} {vs : List Value} {i : Nat} {m : Str → Option Value}, P.Nodup → P[i]? = some x → vs[i]? = some v → kindOf x ≠ some .local →
    bindC kindOf (P.zip vs) m x = some v
  | [], _, _, _, _, h, _, _ => by simp at h
  | _ :: _, [], _, _, _, _, h, _ => by simp at h
  | p :: P, w :: vs, 0, m, nd, h1, h2, hk => by
    simp at h1 h2; subst h1; subst h2
    show bindC kindOf ((p, w) :: P.zip vs) m p = _
    unfold bindC
    rw [bindC_out fun v hv => (List.nodup_cons.mp nd).1 (List.of_mem_zip hv).1, if_neg hk]
    simp
  | p :: P, w :: vs, i + 1, m, nd, h1, h2, hk => by
    show bindC kindOf ((p, w) :: P.zip vs) m x = _
    unfold bindC
    exact bindC_get (i := i) (List.nodup_cons.mp nd).2 (by simpa using h1) (by simpa using h2) hk
noncomputable def start (N : List Str) (vs : List V) : St := vs.map some ++ List.replicate (N.length - vs.length) none
noncomputable def cxOf (CX : CXT) (P : Program) (w : World) (K : PySem.W.Frag) (mg : Str → Option Value) (base : Heap) (N : List Str) (qual : Str) (scope : Scope) (f : Addr) (cd : Value) (A : Around) (outer : List Env) (s : Shared) (H : Hp) (E : XK) : Cx where
  prog := P
  w := w
  K := K
  mg := mg
  base := base
  A := A.deeper (envOfC qual scope s.heap.objs.size f cd)
  N := N
  s₀ := s
  H₀ := H
  env := envOfC qual scope s.heap.objs.size f cd
  outer := outer
  stack := envOfC qual scope s.heap.objs.size f cd :: outer
  ex := []
  calm := true
  fn := fun _ => true
  pn := []
  xe := fun e s' => wpAny (model P w) (A.deeper (envOfC qual scope s.heap.objs.size f cd)) (leaving (envOfC qual scope s.heap.objs.size f cd) e) (fun _ s'' => CX outer H s E e s'') (fun e' s'' => CX outer H s E e' s'') s'
theorem cell_has {sc : Scope} {n : Nat} {x : Str} (h : sc.names.lookup x = some .cell) : ∃ c, (cellsFrom n sc.names []).lookup x = some c := by
  have q := PySem.W.cellsFrom_some sc.names n [] (.inl h)
  exact Option.isSome_iff_exists.mp q
theorem inv_start {CX : CXT} {P : Program} {w : World} {K : PySem.W.Frag} {mg : Str → Option Value} {base : Heap} {N ps : List Str} {qual : Str} {scope : Scope} {f : Addr} {cd : Value} {A : Around} {outer : List Env} {s s1 : Shared} {H : Hp} {E : XK} {us : List Value} {vs : List V}
    (S : FnScope N ps scope) (hd : A.handled = none) (e0 : Env0 P w K mg base A outer s H) (hl : vs.length = ps.length) (r : Vals vs us)
    (x : InCallC s s.heap.objs.size (bindL (envOfC qual scope s.heap.objs.size f cd).kindOf (ps.zip us) fun _ => none) (cellsFrom (s.heap.objs.size + 1) scope.names []) (bindC (envOfC qual scope s.heap.objs.size f cd).kindOf (ps.zip us) fun _ => none) s1) :
    Inv (cxOf CX P w K mg base N qual scope f cd A outer s H E) [] (start N vs) H s1 := by
  have hpl : ps.length ≤ N.length := by have := congrArg List.length S.pre; rw [List.length_take] at this; trivial
  obtain ⟨h1, tk, rfl, hk⟩ := x.done
  have noA : ∀ b : Addr, b ∉ (cxOf CX P w K mg base N qual scope f cd A outer s H E).ex := fun b z => absurd (show b ∈ ([] : List Addr) from z) (by simp)
  refine ⟨⟨e0.mod, S.kind, rfl, rfl, Nat.le_refl _, fun y z c h1 h2 => ?_, fun y hy => ?_, fun y c _ h => ?_, fun _ => hd, Around.frames_deeper e0.frames, .inr ⟨rfl, rfl⟩, fun b z => absurd z (noA b), e0.bs, e0.bsz, fun b _ _ => noA b, fun b z => absurd z (noA b), e0.funs, e0.frf⟩,
    rfl, e0.bare, Un.kept hk, ⟨_, x.toInCall.ns, fun i y v h1 h2 h3 => ?_⟩, fun y c h => ⟨_, x.cell y c h⟩, e0.hok.fresh (Nat.le_refl _), fun y c h => ?_, fun p hp => absurd (show p ∈ ([] : List (Addr × Obj)) from hp) (by simp), e0.hok.kept hk, ?_⟩
  · exact name_of_addr x.apart (PySem.mem_of_lookup h1) (PySem.mem_of_lookup h2)
  · have hy : scope.names.lookup y = some .cell ∨ scope.names.lookup y = some .free := hy
    rcases hy with hy | hy
    · exact cell_has hy
    · exact absurd rfl (S.nofree _ (PySem.mem_of_lookup hy))
  · exact Nat.le_of_lt (x.above y c (PySem.mem_of_lookup h))
  · have hi : i < vs.length := by
      unfold start at h2
      by_cases hi : i < vs.length
      · exact hi
      · rw [List.getElem?_append_right (by simpa using hi)] at h2
        rw [List.getElem?_replicate] at h2
        split at h2 <;> cases h2
    have ha : vs[i]? = some v := by
      unfold start at h2
      rw [List.getElem?_append_left (by simpa using hi), List.getElem?_map] at h2
      cases e : vs[i]? with
      | none => rw [e] at h2; cases h2
      | some a => rw [e] at h2; cases h2; rfl
    obtain ⟨u, hu, rv⟩ := r.get ha
    have hp : ps[i]? = some y := by
      rw [← S.pre, List.getElem?_take_of_lt (by trivial)]; exact h1
    have ndP : ps.Nodup := by rw [← S.pre]; exact S.nd.sublist (List.take_sublist _ _)
    refine ⟨u, rv, ?_⟩
    rcases S.par y (List.mem_of_getElem? hp) with k | k
    · exact .inl ⟨k, bindL_get ndP hp hu k⟩
    · obtain ⟨c, e⟩ := cell_has (n := s.heap.objs.size + 1) k
      refine .inr ⟨.inl k, c, e, ?_⟩
      have q := x.cell y c e
      rw [bindC_get ndP hp hu (by show scope.names.lookup y ≠ _; rw [k]; decide)] at q
      exact q
  · exact e0.hok.fresh (Nat.le_of_lt (x.above y c (PySem.mem_of_lookup h)))
  · unfold start
    show _ = N.length
    rw [List.length_append, List.length_map, List.length_replicate]
    trivial
theorem fn_of {CX : CXT} {P : Program} {w : World} {K : PySem.W.Frag} {mg : Str → Option Value} {base : Heap} {k : Nat} {f : Addr} {name qual : Str} {params : Arguments} {body : List Stmt} {scope : Scope} {dV kV doc pm cdv ct oc : Value} {an od : Option Addr}
    {osl : Array (Option Value)} {N ps : List Str} {sp : Sp} (lk : K.lookup f = some ⟨oc, od, .func (PySem.W.fnOf name qual params body scope dV kV doc pm an cdv ct), osl⟩) (hcd : PySem.W.codeIn K cdv qual = true) (S : FnScope N ps scope)
    (len : ∀ vs H Q E, sp vs H Q E → vs.length = ps.length)
    (hbody : ∀ (A : Around) (outer : List Env) (s : Shared) (H : Hp) (vs : List V) (Q : VK) (E : XK), Room k (A.deeper (envOfC qual scope s.heap.objs.size f cdv)) → sp vs H Q E →
      ∃ t, PSs (cxOf CX P w K mg base N qual scope f cdv A outer s H E) body t ∧ t { nx := fun _ H' => Q .non H', rt := Q } (start N vs) H) :
    FnOk P w K mg base CX (k + 1) f (PySem.W.fnOf name qual params body scope dV kV doc pm an cdv ct) ps sp := by
  refine ⟨len, fun A outer s H args us vs Q E hr e0 hb r hsp => ?_⟩
  have hl := len _ _ _ _ hsp
  have KX : K.In s.heap := e0.mod.kin.keeps fun b o e => (e0.bs b o e).1
  have lim : s.heap.NoLimit := e0.mod.nolimit.keeps fun b o e => (e0.bs b o e).1
  have hkind : ∀ y ∈ ps.zip us, scope.names.lookup y.1 = some .local ∨ (scope.names.lookup y.1 = some .cell ∧ ((cellsFrom (s.heap.objs.size + 1) scope.names []).lookup y.1).isSome = true) := fun ⟨n, v⟩ hy => by
    rcases S.par n (List.of_mem_zip hy).1 with q | q
    · exact .inl q
    · exact .inr ⟨q, PySem.W.cellsFrom_some _ _ _ (.inl q)⟩
  refine codeAny_call_function hr.depth (KX _ _ lk) rfl S.co S.gen rfl (PySem.W.codeRec_of KX hcd) (hb _ _ _ _ ?_)
  refine wpAny_newFunctionEnv_cells S.kind hkind fun env he s1 x => ?_
  subst he
  refine ⟨lim.keeps x.toInCall.keep, codeAny_func ?_⟩
  obtain ⟨t, ht, hq⟩ := hbody A outer s H vs Q E (hr.deeper _) hsp
  have I : Inv (cxOf CX P w K mg base N qual scope f cdv A outer s H E) [] (start N vs) H s1 := inv_start S hr.hd e0 hl r x
  refine wpAny_mono (ht [] s1 (start N vs) H _ I hq) (fun fl s' hs => ?_) fun e s' hs => hs
  have fin : ∀ {σ' : St} {H' : Hp} {v : V} {u : Value}, Inv (cxOf CX P w K mg base N qual scope f cdv A outer s H E) [] σ' H' s' → RelV v u → Q v H' → CE outer P w H s Q u s' :=
    fun {σ' H' v u} J rv q => ⟨v, H', J.os, J.bare, J.base, J.hok, rv, q⟩
  cases fl with
  | ret u =>
    obtain ⟨v, σ', H', J, rv, q⟩ := hs
    exact fin J rv q
  | next =>
    obtain ⟨σ', H', J, q⟩ := hs
    exact fin (v := V.non) (u := Value.none) J rfl q
  | brk =>
    obtain ⟨_, _, _, q⟩ := hs
    exact False.elim q
  | cont =>
    obtain ⟨_, _, _, q⟩ := hs
    exact False.elim q
end L2
namespace L2
open PySem PySem.Spec PyProof.Rows
section
variable {X : Cx} {x : Str} {p pos : Pos} {e : Expr} {es : List Expr} {t : TA} {id T : String} {r : List V → Hp → VK → Prop}
noncomputable def tCB (r : List V → Hp → VK → Prop) (t : TA) : TE := fun σ H Q => t σ H fun vs H1 => r vs H1 Q
theorem pe_callB (hc : CallR X (.builtin id) r) (hg : Gl X x) (hm : X.mg x = none) (hv : bootBuiltins x = some (.builtin id)) (ha : PA X (e :: es) t) (hn : x ≠ "__name__" := by decide) (hdb : (x == ("__debug__" : Str)) = false := by decide)
    (he : starEach (e :: es) X.env = (false, eval e X.env) :: starEach es X.env := by rfl) (hpl : (backTo pos (starEach es X.env)).any (·.1) = false := by rfl) : PE X (.Call (.Name x p) (e :: es) [] pos) (tCB r t) := by
  intro pins s σ H Q I h
  refine wpAny_Call_Name_kw (ld_blt I hg hm hv ?_ hn hdb)
  exact PyProof.Rows.callWith_builtin1 (thn (ha pos pins s σ H _ I h) fun us s1 ⟨vs, H1, I1, r1, q1⟩ => hc pins s1 σ H1 vs us Q I1 r1 q1) he hpl
theorem pe_callTy (hc : CallR X (.type T) r) (hg : Gl X x) (hm : X.mg x = none) (hv : bootBuiltins x = some (.type T)) (ha : PA X (e :: es) t) (hn : x ≠ "__name__" := by decide) (hdb : (x == ("__debug__" : Str)) = false := by decide)
    (he : starEach (e :: es) X.env = (false, eval e X.env) :: starEach es X.env := by rfl) (hpl : (backTo pos (starEach es X.env)).any (·.1) = false := by rfl) : PE X (.Call (.Name x p) (e :: es) [] pos) (tCB r t) := by
  intro pins s σ H Q I h
  refine wpAny_Call_Name_kw (ld_blt I hg hm hv ?_ hn hdb)
  exact PyProof.Rows.callWith_type1 (thn (ha pos pins s σ H _ I h) fun us s1 ⟨vs, H1, I1, r1, q1⟩ => hc pins s1 σ H1 vs us Q I1 r1 q1) he hpl
end
end L2
namespace HT
open PySem PyProof.Rows
section
open PySem.SeqAt
open PySem.AutoSeq1 (wpAny_loadPart')
open PySem.MeetsSeq PySem.MeetsSeq2 PySem.MeetsSeq3
end
section
variable {prog : Program} {w : World} {A : Around} {E : Value → Shared → Prop} {s : Shared}
noncomputable def sIx (n d : Nat) : Option Int → Nat
  | none => d
  | some v => if v < 0 then (v + (n : Int)).toNat else min v.toNat n
theorem sIx_none (n d : Nat) : sIx n d none = d := rfl
theorem sIx_nat (n d k : Nat) : sIx n d (some (k : Int)) = min k n := by
  show (if (k : Int) < 0 then ((k : Int) + (n : Int)).toNat else min (k : Int).toNat n) = min k n
  rw [if_neg (by trivial), Int.toNat_natCast]
theorem sIx_le (n d : Nat) (hd : d ≤ n) (o : Option Int) : sIx n d o ≤ n := by
  cases o with
  | none => exact hd
  | some v =>
    show (if v < 0 then (v + (n : Int)).toNat else min v.toNat n) ≤ n
    by_cases hv : v < 0
    · rw [if_pos hv]; trivial
    · rw [if_neg hv]; exact Nat.min_le_right _ _
theorem clip_eq (v : Int) (n d : Nat) : (if v < 0 then max (v + (n : Int)) 0 else min v (n : Int)) = ((sIx n d (some v) : Nat) : Int) := by
  show (if v < 0 then max (v + (n : Int)) 0 else min v (n : Int)) = (((if v < 0 then (v + (n : Int)).toNat else min v.toNat n) : Nat) : Int)
  by_cases hv : v < 0
  · simp only [if_pos hv]; trivial
  · simp only [if_neg hv]; trivial
theorem adjust_gen (lo hi : Option Int) (n : Nat) : Builtin.Slice.sliceAdjust lo hi 1 (n : Int) = (((sIx n 0 lo : Nat) : Int), ((sIx n n hi : Nat) : Int)) := by
  have h1 : ¬ ((1 : Int) < 0) := by trivial
  unfold Builtin.Slice.sliceAdjust
  simp only [h1, if_false]
  refine Prod.ext ?_ ?_
  · cases lo with
    | none => rfl
    | some v => exact clip_eq v n 0
  · cases hi with
    | none => rfl
    | some v => exact clip_eq v n n
theorem places_gen (i j : Nat) : Builtin.Slice.slicePlaces (i : Int) (j : Int) 1 = j - i := by
  unfold Builtin.Slice.slicePlaces
  have h1 : (1 : Int) > 0 := by trivial
  simp only [h1, if_true, Int.ediv_one]
  split <;> trivial
theorem slicePart_ {v : Value} {o : Option Int} {Q : Option Int → Shared → Prop} (p : IsPart v o) (h : Q o s) : wpAny (model prog w) A (Builtin.Slice.slicePartIndex v) Q E s := by
  cases p with
  | none => exact slicePart_none h
  | int i t => exact slicePart_int h
theorem sliceApplied_gen {sl : Addr} {vl vu : Value} {lo hi : Option Int} {n : Nat} {Q : Int × Int × Nat → Shared → Prop} (hs : s.heap.IsSliceOf sl vl vu .none) (pl : IsPart vl lo) (pu : IsPart vu hi)
    (h : Q (((sIx n 0 lo : Nat) : Int), 1, sIx n n hi - sIx n 0 lo) s) : wpAny (model prog w) A (Builtin.Slice.sliceApplied (.ref sl) (pure (n : Int))) Q E s := by
  obtain ⟨os, hos, hcs, hds⟩ := id hs
  unfold Builtin.Slice.sliceApplied Builtin.Slice.sliceFields
  refine wpAny_bind (wpAny_bind (wpAny_field hos hds (x := vl) rfl (wpAny_bind (wpAny_field hos hds (x := vu) rfl (wpAny_bind (wpAny_field hos hds (x := .none) rfl (wpAny_pure ?_)))))))
  refine wpAny_bind (slicePart_none ?_)
  show wpAny _ _ (if ((1 : Int) == 0) = true then _ else _) _ _ s
  rw [if_neg (by decide)]
  refine wpAny_bind (slicePart_ pl (wpAny_bind (slicePart_ pu (wpAny_bind (wpAny_pure ?_)))))
  show wpAny _ _ (match Builtin.Slice.sliceAdjust lo hi 1 (n : Int) with | (lo, hi) => pure (lo, (1 : Int), Builtin.Slice.slicePlaces lo hi 1)) _ _ s
  rw [adjust_gen lo hi n]
  show wpAny _ _ (pure (((sIx n 0 lo : Nat) : Int), (1 : Int), Builtin.Slice.slicePlaces ((sIx n 0 lo : Nat) : Int) ((sIx n n hi : Nat) : Int) 1)) _ _ s
  rw [places_gen]
  exact wpAny_pure h
theorem pick_gen (xs : Array Value) (i k : Nat) : ((List.range k).filterMap fun (m : Nat) => xs[((i : Int) + (m : Int) * 1).toNat]?).toArray = ((xs.toList.drop i).take k).toArray := by
  have e : (fun (m : Nat) => xs[((i : Int) + (m : Int) * 1).toNat]?) = fun m => xs[i + m]? := by
    funext m
    have : ((i : Int) + (m : Int) * 1).toNat = i + m := by trivial
    rw [this]
  rw [e]
  have := pick_run xs i k
  rw [List.filterMap_map] at this
  have e2 : ((fun x => xs[x]?) ∘ fun x => i + x) = fun m => xs[i + m]? := rfl
  rw [e2] at this
  rw [this]
theorem getItem_tuple_cut {t sl : Addr} {items : Array Value} {vl vu : Value} {lo hi : Option Int} {Q : Value → Shared → Prop} (ht : IsTup s.heap t items) (hs : s.heap.IsSliceOf sl vl vu .none) (pl : IsPart vl lo) (pu : IsPart vu hi)
    (hw : ¬ (sIx items.size 0 lo = 0 ∧ sIx items.size items.size hi = items.size))
    (h : Q (.ref s.heap.objs.size) { s with heap := s.heap.push { cls := .type "tuple", data := .seq ((items.toList.drop (sIx items.size 0 lo)).take (sIx items.size items.size hi - sIx items.size 0 lo)).toArray } })
    (hsz : items.size ≤ sizeLine) : wpAny (model prog w) A (getItem (.ref t) (.ref sl)) Q E s := by
  have htake : sizeOk (.seq ((items.toList.drop (sIx items.size 0 lo)).take (sIx items.size items.size hi - sIx items.size 0 lo)).toArray) := by
    show ((items.toList.drop (sIx items.size 0 lo)).take (sIx items.size items.size hi - sIx items.size 0 lo)).toArray.size ≤ sizeLine
    rw [List.size_toArray, List.length_take, List.length_drop, Array.length_toList]
    trivial
  have hj : sIx items.size items.size hi ≤ items.size := sIx_le _ _ (Nat.le_refl _) hi
  obtain ⟨os, hos, hcs, hds⟩ := id hs
  have hTs : s.TypeIs (.ref sl) "slice" := ⟨os, hos, hcs⟩
  unfold getItem
  try with_reducible refine wpAny_holding ?_
  first | refine wpAny_bind (wpAny_pure ?_) | skip
  refine wpAny_bind (wpAny_sequenceKey ht.typeIs (by decide) ?_)
  refine wpAny_bind (wpAny_callSpecial?_slot (name := Str.ofString "__getitem__") ht.typeIs PyProof.Rows.slot_tuple_getitem
    (wpAny_call_entry PyProof.Rows.slot_tuple_getitem ht.typeIs entry_tuple_getitem ?_ (args_tuple_getitem _ _)))
  show wpAny _ _ (Builtin.Tuple.tupleItemsOf (.ref t) >>= _) _ _ s
  refine wpAny_bind (tupleItemsOf_ ht ?_)
  refine wpAny_bind (wpAny_typeOf hTs ?_)
  rw [if_pos (by decide)]
  refine wpAny_bind (sliceApplied_gen hs pl pu ?_)
  have hno : ¬ ((((sIx items.size 0 lo : Nat) : Int) == 0 && (1 : Int) == 1 && (sIx items.size items.size hi - sIx items.size 0 lo) == items.size) = true) := by
    intro q
    rw [Bool.and_eq_true, Bool.and_eq_true] at q
    have q1 : ((sIx items.size 0 lo : Nat) : Int) = 0 := eq_of_beq q.1.1
    have q2 : sIx items.size items.size hi - sIx items.size 0 lo = items.size := eq_of_beq q.2
    exact hw ⟨by trivial, by trivial⟩
  show wpAny _ _ (if (((sIx items.size 0 lo : Nat) : Int) == 0 && (1 : Int) == 1 && (sIx items.size items.size hi - sIx items.size 0 lo) == items.size) = true then _ else _) _ _ s
  rw [if_neg hno, pick_gen]
  first
    | exact wpAny_bind (m := Builtin.Tuple.tupleExact _) (wpAny_newObj_type (wpAny_pure ⟨_, rfl, wpAny_pure h⟩) htake)
    | exact wpAny_bind (m := Builtin.Tuple.tupleExact _) (wpAny_newObj_type (wpAny_bind (wpAny_pure (wpAny_pure ⟨_, rfl, wpAny_pure h⟩))) htake)
    | exact wpAny_bind (wpAny_bind (m := Builtin.Tuple.tupleExact _) (wpAny_newObj_type (wpAny_pure (wpAny_pure ⟨_, rfl, wpAny_pure h⟩)) htake))
    | exact wpAny_bind (wpAny_bind (m := Builtin.Tuple.tupleExact _) (wpAny_newObj_type (wpAny_pure ⟨_, rfl, wpAny_pure h⟩) htake))
end
end HT
namespace L2
open PySem PySem.Spec PyProof.Rows
noncomputable abbrev TO := St → Hp → (Option Int → Hp → Prop) → Prop
noncomputable def PO (X : Cx) (e : Option Expr) (t : TO) : Prop :=
  ∀ (pins : List (Addr × Obj)) (s : Shared) (σ : St) (H : Hp) (Q : Option Int → Hp → Prop), Inv X pins σ H s → t σ H Q →
    wpAny (model X.prog X.w) X.A (evalPart e X.env) (fun u s' => ∃ o H', Inv X pins σ H' s' ∧ IsPart u o ∧ Q o H') X.xe s
noncomputable def tNoPart : TO := fun _ H Q => Q none H
noncomputable def tPart (t : TE) : TO := fun σ H Q => t σ H fun x H1 => ∃ i, x = .int i ∧ Q (some i) H1
section
variable {X : Cx} {e : Expr} {te : TE} {lo hi : Option Expr} {tl th : TO} {pos p2 : Pos}
theorem po_none : PO X none tNoPart := by
  intro pins s σ H Q I h
  rw [evalPart_none]
  exact wpAny_pure ⟨none, H, I, .none, h⟩
theorem po_some (h : PE X e te) : PO X (some e) (tPart te) := by
  intro pins s σ H Q I hw
  rw [evalPart_some]
  refine thn (h pins s σ H _ I hw) fun u s1 ⟨x, H1, I1, r1, q1⟩ => ?_
  obtain ⟨i, rfl, q⟩ := q1
  obtain ⟨t, rfl⟩ := r1
  exact ⟨some i, H1, I1, .int i t, q⟩
noncomputable def SlR (X : Cx) (r : V → Option Int → Option Int → Hp → VK → Prop) : Prop :=
  ∀ (pins : List (Addr × Obj)) (s : Shared) (σ : St) (H : Hp) (x : V) (v vl vu : Value) (lo hi : Option Int) (sl : Addr) (Q : VK), Inv X pins σ H s → RelV x v → s.heap.IsSliceOf sl vl vu .none → IsPart vl lo → IsPart vu hi → r x lo hi H Q →
    ∃ T id, typeLookup (.type T) "__getitem__" = pure (some (.builtin id)) ∧ s.TypeIs v T ∧ wpAny (model X.prog X.w) X.A (getItem v (.ref sl)) (EP X pins σ Q) X.xe s
noncomputable def tSl (r : V → Option Int → Option Int → Hp → VK → Prop) (te : TE) (tl th : TO) : TE := fun σ H Q => te σ H fun x H1 => tl σ H1 fun l H2 => th σ H2 fun u H3 => r x l u H3 Q
theorem pe_slice {r : V → Option Int → Option Int → Hp → VK → Prop} (hr : SlR X r) (he : PE X e te) (hl : PO X lo tl) (hu : PO X hi th) : PE X (.Subscript e (.Slice lo hi none p2) pos) (tSl r te tl th) := by
  intro pins s σ H Q I h
  refine Subscript_ (thn (he pins s σ H _ I h) fun v s1 ⟨x, H1, I1, r1, q1⟩ => ?_)
  refine wpAny_Slice (thn (hl pins s1 σ H1 _ I1 q1) fun vl s2 ⟨l, H2, I2, pl, q2⟩ => thn (hu pins s2 σ H2 _ I2 q2) fun vu s3 ⟨u, H3, I3, pu, q3⟩ => ?_)
  rw [evalPart_none]
  refine wpAny_pure ?_
  have I4 : Inv X pins σ H3 { s3 with heap := s3.heap.push { cls := .type "slice", data := .fields #[vl, vu, .none] } } := I3.kept (t' := s3.toks) fun b ob q => Heap.get?_push_of_some _ q
  obtain ⟨T, id, hT, ht, hg⟩ := hr pins { s3 with heap := s3.heap.push { cls := .type "slice", data := .fields #[vl, vu, .none] } } σ H3 x v vl vu l u s3.heap.objs.size Q I4 r1 (Heap.IsSliceOf.new ..) pl pu q3
  show wpAny (model X.prog X.w) X.A (subscriptTail e (.Slice lo hi none p2) v (.ref s3.heap.objs.size)) (EP X pins σ Q) X.xe { s3 with heap := s3.heap.push { cls := .type "slice", data := .fields #[vl, vu, .none] } }
  exact tail_any (ops := [.ref s3.heap.objs.size, v]) ht hT hg (by with_unfolding_all rfl)
noncomputable def cutV (xs : List V) (lo hi : Option Int) : List V := (xs.drop (HT.sIx xs.length 0 lo)).take (HT.sIx xs.length xs.length hi - HT.sIx xs.length 0 lo)
theorem cutV_length (xs : List V) (lo hi : Option Int) : (cutV xs lo hi).length ≤ xs.length := by
  unfold cutV
  rw [List.length_take, List.length_drop]
  trivial
noncomputable def rSlT (K : PySem.W.Frag) : V → Option Int → Option Int → Hp → VK → Prop := fun x lo hi H Q => ∃ a xs, x = .ref a ∧ SqT K H a xs ∧
  ¬ (HT.sIx xs.length 0 lo = 0 ∧ HT.sIx xs.length xs.length hi = xs.length) ∧ ∀ p, H p = none → Q (.ref p) (upd H p (.tup (cutV xs lo hi)))
theorem sl_tup : SlR X (rSlT X.K) := by
  intro pins s σ H x v vl vu lo hi sl Q I rx hs pl pu h
  obtain ⟨a, xs, rfl, hx, hw, q⟩ := h
  cases rx
  obtain ⟨its, r, ht, hz⟩ := I.tuple hx
  have hlen : its.toArray.size = xs.length := by rw [List.size_toArray]; exact r.length.symm
  refine ⟨"tuple", _, PyProof.Rows.slot_tuple_getitem.lookup, ht.typeIs, ?_⟩
  refine HT.getItem_tuple_cut ht hs pl pu (by rw [hlen]; exact hw) ?_ (by rw [hlen]; exact hz)
  rw [hlen]
  refine ⟨.ref s.heap.objs.size, _, I.laid (t' := s.toks) (o := .tup (cutV xs lo hi)) (fun b ob q => Heap.get?_push_of_some _ q) (Nat.le_refl _) ?_, rfl, q _ (I.hok.fresh (Nat.le_refl _))⟩
  exact ⟨Nat.le_trans (cutV_length xs lo hi) hz, _, (r.drop (HT.sIx xs.length 0 lo)).take (HT.sIx xs.length xs.length hi - HT.sIx xs.length 0 lo), IsTup.new _ _⟩
end
end L2
namespace L2
open PySem PySem.Spec PyProof.Rows
noncomputable def ixN (n : Nat) (i : Int) : Option Nat := if 0 ≤ i then (if i < n then some i.toNat else none) else if -(n : Int) ≤ i then some (i + n).toNat else none
noncomputable def atI {α : Type} (xs : List α) (i : Int) : Option α := (ixN xs.length i).bind fun j => xs[j]?
theorem ixN_seq {n : Nat} {i : Int} {j : Nat} (h : ixN n i = some j) : seqIndex? i n = some j ∧ j < n ∧ -(n : Int) ≤ i ∧ i < n := by
  unfold ixN at h
  by_cases h0 : 0 ≤ i
  · rw [if_pos h0] at h
    by_cases h1 : i < n
    · rw [if_pos h1] at h
      have e : i.toNat = j := Option.some.inj h
      exact ⟨by rw [seqIndex_of h0 h1, e], by trivial, by trivial, h1⟩
    · rw [if_neg h1] at h; cases h
  · rw [if_neg h0] at h
    by_cases h1 : -(n : Int) ≤ i
    · rw [if_pos h1] at h
      have e : (i + n).toNat = j := Option.some.inj h
      exact ⟨by rw [seqIndex_neg (by trivial) h1, e], by trivial, h1, by trivial⟩
    · rw [if_neg h1] at h; cases h
theorem atI_get {α : Type} {xs : List α} {i : Int} {v : α} (h : atI xs i = some v) : ∃ j, seqIndex? i xs.length = some j ∧ xs[j]? = some v ∧ j < xs.length ∧ -(xs.length : Int) ≤ i ∧ i < xs.length := by
  unfold atI at h
  cases e : ixN xs.length i with
  | none => rw [e] at h; cases h
  | some j =>
    rw [e] at h
    obtain ⟨h1, h2, h3, h4⟩ := ixN_seq e
    exact ⟨j, h1, h, h2, h3, h4⟩
theorem atI_nat {α : Type} {xs : List α} {j : Nat} {v : α} (h : xs[j]? = some v) : atI xs (j : Int) = some v := by
  have hj : j < xs.length := (List.getElem?_eq_some_iff.mp h).1
  have e : ixN xs.length (j : Int) = some j := by
    unfold ixN
    rw [if_pos (by trivial), if_pos (by trivial)]; simp
  unfold atI; rw [e]; exact h
noncomputable def PlainIx (b : Expr) : Prop := ∀ o i, subscripted b false o i = operate [o, i] (getItem o i)
noncomputable def IxR (X : Cx) (r : R2) : Prop :=
  ∀ (value slice : Expr) (pins : List (Addr × Obj)) (s : Shared) (σ : St) (H : Hp) (x y : V) (v u : Value) (Q : VK), Inv X pins σ H s → RelV x v → RelV y u → r x y H Q →
    subscripted slice false v u = operate [v, u] (getItem v u) → wpAny (model X.prog X.w) X.A (subscriptTail value slice v u) (EP X pins σ Q) X.xe s
noncomputable def MtR (X : Cx) (id : String) (r : V → List V → Hp → VK → Prop) : Prop :=
  ∀ (pins : List (Addr × Obj)) (s : Shared) (σ : St) (H : Hp) (x : V) (xs : List V) (v : Value) (us : List Value) (Q : VK), Inv X pins σ H s → RelV x v → Vals xs us → r x xs H Q →
    wpAny (model X.prog X.w) X.A (call (.builtin id) (v :: us)) (EP X pins σ Q) X.xe s
section
variable {X : Cx} {a b : Expr} {ta tb : TE} {pos : Pos}
theorem pe_ix {r : R2} (hr : IxR X r) (ha : PE X a ta) (hb : PE X b tb) (hs : PlainIx b) : PE X (.Subscript a b pos) (tOp r ta tb) := by
  intro pins s σ H Q I h
  exact Subscript_ (binT ha hb I h fun v u s2 x y H2 I2 rx ry q => hr a b pins s2 σ H2 x y v u Q I2 rx ry q (hs _ _))
noncomputable def rIxL (K : PySem.W.Frag) : R2 := fun x y H Q => ∃ p xs i v, x = .ref p ∧ y = .int i ∧ SqL K H p xs ∧ atI xs i = some v ∧ Q v H
noncomputable def rIxT (K : PySem.W.Frag) : R2 := fun x y H Q => ∃ p xs i v, x = .ref p ∧ y = .int i ∧ SqT K H p xs ∧ atI xs i = some v ∧ Q v H
theorem ix_list : IxR X (rIxL X.K) := by
  intro value slice pins s σ H x y v u Q I rx ry h hs
  obtain ⟨p, xs, i, z, rfl, rfl, hq, he, q⟩ := h
  cases rx
  obtain ⟨t, rfl⟩ := ry
  obtain ⟨its, r, pl, hz⟩ := I.list hq
  obtain ⟨j, h1, h2, h3, h4, h5⟩ := atI_get he
  obtain ⟨w, ew, rw'⟩ := r.get h2
  have hl := r.length
  have hn := line63
  have fin : EP X pins σ Q w s := ⟨z, H, I, rw', q⟩
  by_cases h0 : 0 ≤ i
  · have hj : i.toNat = j := by
      rw [seqIndex_of h0 h5] at h1
      exact Option.some.inj h1
    exact item_listR pl.isList h0 (by trivial) (by rw [hj]; simpa using ew) fin hs
  · have hj : (i + (its.toArray.size : Int)).toNat = j := by
      rw [seqIndex_neg (by trivial) h4] at h1
      rw [List.size_toArray, ← hl]
      exact Option.some.inj h1
    exact subscriptTail_builtinR (x := w) pl.isList.typeIs slot_list_getitem.lookup
      (wpAny_getItem_list_neg (Q := fun r s' => r = w ∧ EP X pins σ Q r s') pl.isList (by trivial) (by rw [List.size_toArray] <;> trivial) (by trivial) (by rw [hj]; simpa using ew) ⟨rfl, fin⟩) hs
theorem ix_tup : IxR X (rIxT X.K) := by
  intro value slice pins s σ H x y v u Q I rx ry h hs
  obtain ⟨p, xs, i, z, rfl, rfl, hq, he, q⟩ := h
  cases rx
  obtain ⟨t, rfl⟩ := ry
  obtain ⟨its, r, pl, hz⟩ := I.tuple hq
  obtain ⟨j, h1, h2, h3, h4, h5⟩ := atI_get he
  obtain ⟨w, ew, rw'⟩ := r.get h2
  have hl := r.length
  have hn := line63
  have fin : EP X pins σ Q w s := ⟨z, H, I, rw', q⟩
  exact subscriptTail_builtinR (x := w) pl.typeIs slot_tuple_getitem.lookup
    (getItem_tuple (j := j) (Q := fun r s' => r = w ∧ EP X pins σ Q r s') pl (by trivial) (by trivial) (by rw [List.size_toArray, ← hl]; exact h1) (by simpa using ew) ⟨rfl, fin⟩) hs
theorem slice_bounds (lo hi : Option Int) (n : Nat) : (sliceBounds lo hi none n).1 = ((HT.sIx n 0 lo : Nat) : Int) ∧ (sliceBounds lo hi none n).2.1 = ((HT.sIx n n hi : Nat) : Int) ∧ (sliceBounds lo hi none n).2.2 = 1 := by
  refine ⟨?_, ?_, rfl⟩
  · cases lo with
    | none => simp [sliceBounds, HT.sIx]
    | some i =>
      simp only [sliceBounds, HT.sIx, Option.getD_none, show (1 : Int) > 0 by decide, if_true]
      by_cases h : i < 0
      · simp only [h, if_true] <;> trivial
      · simp only [h, if_false] <;> trivial
  · cases hi with
    | none => simp [sliceBounds, HT.sIx]
    | some i =>
      simp only [sliceBounds, HT.sIx, Option.getD_none, show (1 : Int) > 0 by decide, if_true]
      by_cases h : i < 0
      · simp only [h, if_true] <;> trivial
      · simp only [h, if_false] <;> trivial
theorem slicePick_cut (its : List Value) (lo hi : Option Int) : slicePick its.toArray lo hi none = ((its.drop (HT.sIx its.length 0 lo)).take (HT.sIx its.length its.length hi - HT.sIx its.length 0 lo)).toArray := by
  obtain ⟨h1, h2, h3⟩ := slice_bounds lo hi its.toArray.size
  unfold slicePick
  rw [h1, h2, h3]
  simp only [sliceRange_one, pick_run, List.size_toArray] <;> rfl
noncomputable def rSlL (K : PySem.W.Frag) : V → Option Int → Option Int → Hp → VK → Prop := fun x lo hi H Q => ∃ a xs, x = .ref a ∧ SqL K H a xs ∧ ∀ p, H p = none → Q (.ref p) (upd H p (.lst (cutV xs lo hi)))
theorem sl_list : SlR X (rSlL X.K) := by
  intro pins s σ H x v vl vu lo hi sl Q I rx hs pl pu h
  obtain ⟨a, xs, rfl, hx, q⟩ := h
  cases rx
  obtain ⟨its, r, ht, hz⟩ := I.list hx
  have hlen := r.length
  refine ⟨"list", _, slot_list_getitem.lookup, ht.isList.typeIs, ?_⟩
  refine wpAny_getItem_list_slice ht.isList hs pl pu .none (by simp) ?_ (by rw [List.size_toArray] <;> trivial)
  rw [slicePick_cut, ← hlen]
  refine ⟨.ref s.heap.objs.size, _, I.laid (t' := s.toks) (o := .lst (cutV xs lo hi)) (fun b ob q => Heap.get?_push_of_some _ q) (Nat.le_refl _) ?_, rfl, q _ (I.hok.fresh (Nat.le_refl _))⟩
  exact ⟨Nat.le_trans (cutV_length xs lo hi) hz, _, 0, (r.drop (HT.sIx xs.length 0 lo)).take (HT.sIx xs.length xs.length hi - HT.sIx xs.length 0 lo), Heap.get?_push_size _ rfl⟩
noncomputable def flatV : V → Bool
  | .non => true
  | .bl _ => true
  | .int _ => true
  | .str _ => true
  | _ => false
noncomputable def eqV : V → V → Bool
  | .non, .non => true
  | .bl a, .bl b => a == b
  | .bl a, .int b => (if a then 1 else 0) == b
  | .int a, .bl b => a == (if b then 1 else 0)
  | .int a, .int b => a == b
  | .str a, .str b => a == b
  | _, _ => false
theorem eqAt_V {A : Around} {s : Shared} {y x : V} {u v : Value} (ry : RelV y u) (rx : RelV x v) (fy : flatV y = true) (fx : flatV x = true) : SeqAt.EqAt A s u v (eqV y x) := by
  cases y with
  | non =>
    cases ry
    cases x with
    | non => cases rx; exact SeqAt.EqAt.same _
    | bl b => cases rx; exact SeqAt.EqAt.none_bool b
    | int b => obtain ⟨t, rfl⟩ := rx; exact SeqAt.EqAt.none_int b t
    | str b => obtain ⟨t, rfl⟩ := rx; exact SeqAt.EqAt.none_str b t
    | _ => exact absurd (show false = true from fx) Bool.false_ne_true
  | bl a =>
    cases ry
    cases x with
    | non => cases rx; exact SeqAt.EqAt.bool_none a
    | bl b => cases rx; exact SeqAt.EqAt.bool_bool a b
    | int b => obtain ⟨t, rfl⟩ := rx; exact SeqAt.EqAt.bool_int a b t
    | str b => obtain ⟨t, rfl⟩ := rx; exact SeqAt.EqAt.bool_str a b t
    | _ => exact absurd (show false = true from fx) Bool.false_ne_true
  | int a =>
    obtain ⟨t', rfl⟩ := ry
    cases x with
    | non => cases rx; exact SeqAt.EqAt.int_none a t'
    | bl b => cases rx; exact SeqAt.EqAt.int_bool a t' b
    | int b => obtain ⟨t, rfl⟩ := rx; exact SeqAt.EqAt.int_int a t' b t
    | str b => obtain ⟨t, rfl⟩ := rx; exact SeqAt.EqAt.int_str a t' b t
    | _ => exact absurd (show false = true from fx) Bool.false_ne_true
  | str a =>
    obtain ⟨t', rfl⟩ := ry
    cases x with
    | non => cases rx; exact SeqAt.EqAt.str_none a t'
    | bl b => cases rx; exact SeqAt.EqAt.str_bool a t' b
    | int b => obtain ⟨t, rfl⟩ := rx; exact SeqAt.EqAt.str_int a t' b t
    | str b => obtain ⟨t, rfl⟩ := rx; exact SeqAt.EqAt.str_str a t' b t
    | _ => exact absurd (show false = true from fx) Bool.false_ne_true
  | _ => exact absurd (show false = true from fy) Bool.false_ne_true
noncomputable def eqU (x : V) (u : Value) : Bool := match u with
  | .none => eqV .non x
  | .bool b => eqV (.bl b) x
  | .int i _ => eqV (.int i) x
  | .str z _ => eqV (.str z) x
  | _ => false
theorem eqU_of {x y : V} {u : Value} (r : RelV y u) (f : flatV y = true) : eqU x u = eqV y x := by
  cases y with
  | non => cases r; rfl
  | bl b => cases r; rfl
  | int i => obtain ⟨t, rfl⟩ := r; rfl
  | str z => obtain ⟨t, rfl⟩ := r; rfl
  | _ => exact absurd (show false = true from f) Bool.false_ne_true
theorem any_eqU {x : V} : ∀ {xs : List V} {us : List Value}, Vals xs us → xs.all flatV = true → us.any (eqU x) = xs.any fun y => eqV y x
  | _, _, .nil, _ => rfl
  | y :: xs, u :: us, .cons r t, f => by
    rw [List.all_cons, Bool.and_eq_true] at f
    rw [List.any_cons, List.any_cons, eqU_of r f.1, any_eqU t f.2]
theorem mem_eqAt {A : Around} {s : Shared} {x : V} {v : Value} (rx : RelV x v) (fx : flatV x = true) : ∀ {xs : List V} {us : List Value}, Vals xs us → xs.all flatV = true → ∀ u ∈ us, SeqAt.EqAt A s u v (eqU x u)
  | _, _, .nil, _ => fun u hu => by cases hu
  | y :: xs, u :: us, .cons r t, f => fun u' hu => by
    rw [List.all_cons, Bool.and_eq_true] at f
    rcases List.mem_cons.mp hu with rfl | hu
    · rw [eqU_of r f.1]; exact eqAt_V r rx f.1 fx
    · exact mem_eqAt rx fx t f.2 u' hu
noncomputable def inV (x : V) (xs : List V) : Bool := xs.any fun y => eqV y x
noncomputable def rIn (K : PySem.W.Frag) (neg : Bool) : R2 := fun x y H Q => ∃ p xs, y = .ref p ∧ (SqL K H p xs ∨ SqT K H p xs) ∧ flatV x = true ∧ xs.all flatV = true ∧ Q (.bl (if neg then !inV x xs else inV x xs)) H
theorem op_notIn_seq : OpR X (compareOp .NotIn) (rIn X.K true) := by
  intro pins s σ H x y v u Q I rx ry h
  obtain ⟨p, xs, rfl, hq, fx, fs, q⟩ := h
  cases ry
  rcases hq with hq | hq
  · obtain ⟨its, r, pl, hz⟩ := I.list hq
    refine SeqAt.notIn_listAt (eqU x) pl.isList (fun w hw => mem_eqAt rx fx r fs w (by simpa using hw)) ⟨.bl _, H, I, rfl, ?_⟩
    rw [show its.toArray.any (eqU x) = its.any (eqU x) by simp, any_eqU r fs]
    exact q
  · obtain ⟨its, r, pl, hz⟩ := I.tuple hq
    refine SeqAt.notIn_tupleAt (eqU x) pl (fun w hw => mem_eqAt rx fx r fs w (by simpa using hw)) ⟨.bl _, H, I, rfl, ?_⟩
    rw [show its.toArray.any (eqU x) = its.any (eqU x) by simp, any_eqU r fs]
    exact q
theorem call_len_seq : CallR X (.builtin "len") (fun xs H Q => ∃ p ys, xs = [.ref p] ∧ (SqL X.K H p ys ∨ SqT X.K H p ys) ∧ Q (.int ys.length) H) := by
  intro pins s σ H xs us Q I r h
  obtain ⟨p, ys, rfl, hq, q⟩ := h
  obtain ⟨u, rfl, rx⟩ := vals1 r
  cases rx
  have hn := line63
  rcases hq with hq | hq
  · obtain ⟨its, r', pl, hz⟩ := I.list hq
    have hlen := r'.length
    exact Calls.call_len_list pl.isList (by simp only [List.size_toArray] <;> trivial) ⟨.int ys.length, H, I.tok _, ⟨s.toks + 1, by rw [List.size_toArray, hlen]⟩, q⟩
  · obtain ⟨its, r', pl, hz⟩ := I.tuple hq
    have hlen := r'.length
    exact len_tuple pl (by simp only [List.size_toArray] <;> trivial) ⟨.int ys.length, H, I.tok _, ⟨s.toks + 1, by rw [List.size_toArray, hlen]⟩, q⟩
theorem call_list_of : CallR X (.type "list") (fun xs H Q => ∃ p ys, xs = [.ref p] ∧ (SqL X.K H p ys ∨ SqT X.K H p ys) ∧ ∀ l, H l = none → Q (.ref l) (upd H l (.lst ys))) := by
  intro pins s σ H xs us Q I r h
  obtain ⟨p, ys, rfl, hq, q⟩ := h
  obtain ⟨u, rfl, rx⟩ := vals1 r
  cases rx
  have fin : ∀ (its : List Value), Vals ys its → ys.length ≤ sizeLine → ∀ (h' : Heap) (c' : Nat), (∀ b o', s.heap.get? b = some o' → h'.get? b = some o') →
      h'.get? s.heap.objs.size = some { cls := .type "list", dict := none, data := .seq its.toArray c', slots := #[] } → EP X pins σ Q (.ref s.heap.objs.size) { s with heap := h' } := fun its r' hz h' c' kp e =>
    ⟨.ref s.heap.objs.size, _, I.laid (t' := s.toks) kp (Nat.le_refl _) (show ObjOk X.prog X.w _ h' _ (.lst ys) from ⟨hz, its, c', r', e⟩), rfl, q _ (I.hok.fresh (Nat.le_refl _))⟩
  rcases hq with hq | hq
  · obtain ⟨its, r', pl, hz⟩ := I.list hq
    have hlen := r'.length
    obtain ⟨o, ho, hc, n, hd⟩ := pl.isList
    exact call_list_seq p (.inl rfl) ho hc hd (fun h' c' kp e => fin its r' hz h' c' kp e) (by simp only [List.size_toArray] <;> trivial)
  · obtain ⟨its, r', pl, hz⟩ := I.tuple hq
    have hlen := r'.length
    obtain ⟨o, ho, hc, n, hd⟩ := pl
    exact call_list_seq p (.inr rfl) ho hc hd (fun h' c' kp e => fin its r' hz h' c' kp e) (by simp only [List.size_toArray] <;> trivial)
noncomputable def tyV (K : PySem.W.Frag) (T : String) (x : V) (H : Hp) : Prop := match x with
  | .str _ => T = "str"
  | .int _ => T = "int"
  | .ref p => (T = "list" ∧ ∃ xs, SqL K H p xs) ∨ (T = "tuple" ∧ ∃ o, K.lookup p = some o ∧ o.cls = .type "tuple" ∧ o.dict = none) ∨
      (T = "dict" ∧ ((∃ kvs, H p = some (.dK kvs)) ∨ ∃ kvs, H p = some (.dT kvs))) ∨ (T = "set" ∧ ∃ S n, H p = some (.set S n))
  | _ => False
theorem tyV_is {pins : List (Addr × Obj)} {σ : St} {H : Hp} {s : Shared} {T : String} {x : V} {v : Value} (I : Inv X pins σ H s) (r : RelV x v) (ty : tyV X.K T x H) :
    s.TypeIs v T ∧ ∀ a, v = .ref a → ∃ ob, s.heap.get? a = some ob ∧ ob.dict = none := by
  cases x with
  | str z =>
    obtain ⟨t, rfl⟩ := r
    cases (show T = "str" from ty)
    exact ⟨typeIs_str s z t, fun _ e => nomatch e⟩
  | int i =>
    obtain ⟨t, rfl⟩ := r
    cases (show T = "int" from ty)
    exact ⟨typeIs_int s i t, fun _ e => nomatch e⟩
  | ref p =>
    cases r
    rcases ty with ⟨rfl, xs, hq⟩ | ⟨rfl, o, hk, hc, hd⟩ | ⟨rfl, hk⟩ | ⟨rfl, S, n, hk⟩
    · obtain ⟨its, _, pl, _⟩ := I.list hq
      refine ⟨pl.isList.typeIs, fun a e => ?_⟩
      cases e
      obtain ⟨o, n, e, c, hd, _⟩ := pl
      exact ⟨o, e, hd⟩
    · refine ⟨⟨o, I.kIn p o hk, hc⟩, fun a e => ?_⟩
      cases e
      exact ⟨o, I.kIn _ o hk, hd⟩
    · have z : ∃ o, s.heap.get? p = some o ∧ o.ExactDict := by
        rcases hk with ⟨kvs, hk⟩ | ⟨kvs, hk⟩
        · obtain ⟨_, _, _, _, o, _, _, e, ex, _⟩ := I.hok p _ hk
          exact ⟨o, e, ex⟩
        · obtain ⟨_, _, _, _, o, _, _, e, ex, _⟩ := I.hok p _ hk
          exact ⟨o, e, ex⟩
      obtain ⟨o, e, ex⟩ := z
      refine ⟨⟨o, e, ex.1⟩, fun a e2 => ?_⟩
      cases e2
      exact ⟨o, e, ex.2.1⟩
    · obtain ⟨o, _, _, _, e, ex, _⟩ := I.hok p _ hk
      refine ⟨⟨o, e, ex.1⟩, fun a e2 => ?_⟩
      cases e2
      exact ⟨o, e, ex.2.1⟩
  | _ => exact False.elim ty
noncomputable def tBM0 (K : PySem.W.Frag) (T : String) (r : V → List V → Hp → VK → Prop) (to : TE) : TE := fun σ H Q => to σ H fun x H1 => tyV K T x H1 ∧ r x [] H1 Q
noncomputable def tBM (K : PySem.W.Frag) (T : String) (r : V → List V → Hp → VK → Prop) (to : TE) (t : TA) : TE := fun σ H Q => to σ H fun x H1 => tyV K T x H1 ∧ t σ H1 fun xs H2 => r x xs H2 Q
variable {o e : Expr} {es : List Expr} {to : TE} {t : TA} {name : Str} {apos cpos : Pos} {T id : String} {r : V → List V → Hp → VK → Prop}
theorem pe_bm0 (pa : PlainAttrs T) (slot : Slot T name id) (hty : typeOf (.builtin id) = pure (.type "method_descriptor")) (hm : MtR X id r) (ho : PE X o to)
    (hbase : attributeBase o name X.env (eval o X.env) = eval o X.env := by rfl) (hline : (apos.endLine == cpos.line) = true := by rfl) : PE X (.Call (.Attribute o name apos) [] [] cpos) (tBM0 X.K T r to) := by
  intro pins s σ H Q I h
  refine wpAny_Call_method0_late hbase hline (thn (ho pins s σ H _ I h) fun v s1 ⟨x, H1, I1, r1, ty, q1⟩ => ?_)
  obtain ⟨h1, h2⟩ := tyV_is I1 r1 ty
  exact ⟨T, id, pa, slot, hty, h1, h2, Calls.callWith_builtin rfl (PySem.evalArgs_none (hm pins s1 σ H1 x [] v [] Q I1 r1 .nil q1))⟩
theorem pe_bm (pa : PlainAttrs T) (slot : Slot T name id) (hty : typeOf (.builtin id) = pure (.type "method_descriptor")) (hm : MtR X id r) (ho : PE X o to) (ha : PA X (e :: es) t)
    (hbase : attributeBase o name X.env (eval o X.env) = eval o X.env := by rfl)
    (hfew : ((backTo cpos (starEach (e :: es) X.env)).all (fun x => !x.1) && (backToKw cpos (keywordEach [] X.env)).all (fun x => x.1.isSome)
      && decide ((e :: es).length + ([] : List Keyword).length + (if ([] : List Keyword).isEmpty then 0 else 1) < 30)) = true := by rfl)
    (hline : (apos.endLine == cpos.line) = true := by rfl) (hs : starEach (e :: es) X.env = (false, eval e X.env) :: starEach es X.env := by rfl) (hplain : (backTo cpos (starEach es X.env)).any (·.1) = false := by rfl) :
    PE X (.Call (.Attribute o name apos) (e :: es) [] cpos) (tBM X.K T r to t) := by
  intro pins s σ H Q I h
  refine wpAny_Call_method_late hbase hfew hline rfl (thn (ho pins s σ H _ I h) fun v s1 ⟨x, H1, I1, r1, ty, q1⟩ => ?_)
  obtain ⟨h1, h2⟩ := tyV_is I1 r1 ty
  refine ⟨T, id, pa, slot, hty, h1, h2, ?_⟩
  have hA := ha cpos pins s1 σ H1 _ I1 q1
  rw [hs] at hA ⊢
  refine Calls.callWith_builtin (by show (false || (backTo cpos (starEach es X.env)).any (·.1)) = false; rw [hplain] <;> rfl) (Calls.evalArgs_plain ?_)
  exact thn hA fun us s2 ⟨vs, H2, I2, r2, q2⟩ => hm pins s2 σ H2 x vs v us Q I2 r1 r2 q2
/- xs.append(e), list.index on a module's tuple .. are MtR facts of 06m -/
end
end L2
namespace L2
open PySem PySem.Spec PyProof.Rows
noncomputable def MtM (X : Cx) (id : String) (r : V → List V → Hp → VK → Prop) : Prop :=
  ∀ (pins : List (Addr × Obj)) (s : Shared) (σ : St) (H : Hp) (x : V) (xs : List V) (v : Value) (us : List Value) (Q : VK), Inv X pins σ H s → RelV x v → Vals xs us → r x xs H Q →
    wpAny (model X.prog X.w) X.A (call (.builtin id) (v :: us)) (EP X pins σ Q) X.xe s
theorem Vals.one : ∀ {x : V} {us : List Value}, Vals [x] us → ∃ u, us = [u] ∧ RelV x u
  | _, _, .cons r .nil => ⟨_, rfl, r⟩
theorem Vals.two : ∀ {x y : V} {us : List Value}, Vals [x, y] us → ∃ u v, us = [u, v] ∧ RelV x u ∧ RelV y v
  | _, _, _, .cons r (.cons q .nil) => ⟨_, _, rfl, r, q⟩
theorem Vals.zero : ∀ {us : List Value}, Vals [] us → us = []
  | _, .nil => rfl
theorem Vals.dropLast {xs : List V} {us : List Value} (h : Vals xs us) : Vals xs.dropLast us.dropLast := by
  induction h with
  | nil => exact .nil
  | cons r t ih =>
    cases t with
    | nil => exact .nil
    | cons q t' => exact .cons r ih
theorem Vals.reverse {xs : List V} {us : List Value} (h : Vals xs us) : Vals xs.reverse us.reverse := by
  induction h with
  | nil => exact .nil
  | cons r t ih => rw [List.reverse_cons, List.reverse_cons]; exact Vals.append ih (.cons r .nil)
theorem Vals.rep {xs : List V} {us : List Value} (h : Vals xs us) : ∀ k : Nat, Vals (List.replicate k xs).flatten (List.replicate k us).flatten
  | 0 => .nil
  | k + 1 => by
    rw [List.replicate_succ, List.replicate_succ, List.flatten_cons, List.flatten_cons]
    exact Vals.append h (Vals.rep h k)
theorem erase_last {α : Type} (l : List α) : l.eraseIdx (l.length - 1) = l.dropLast := by
  induction l with
  | nil => rfl
  | cons a r ih =>
    cases r with
    | nil => rfl
    | cons b r =>
      have e : (a :: b :: r).length - 1 = ((b :: r).length - 1) + 1 := by
        have h1 : (a :: b :: r).length = r.length + 2 := rfl
        have h2 : (b :: r).length = r.length + 1 := rfl
        trivial
      rw [e, List.eraseIdx_cons_succ, ih]
      all_goals rfl
theorem foldl_rep (its : List Value) : ∀ (k : Nat) (acc : List Value),
    List.foldl (fun x1 x2 => x1 ++ x2) acc.toArray (List.replicate k its.toArray) = (acc ++ (List.replicate k its).flatten).toArray
  | 0, acc => by simp
  | k + 1, acc => by
    have e : acc.toArray ++ its.toArray = (acc ++ its).toArray := by simp
    have e2 : (acc ++ its) ++ (List.replicate k its).flatten = acc ++ (List.replicate (k + 1) its).flatten := by
      rw [List.replicate_succ, List.flatten_cons, List.append_assoc]
    rw [← e2, ← foldl_rep its k (acc ++ its), ← e, List.replicate_succ, List.foldl_cons]
section
variable {X : Cx} {pins : List (Addr × Obj)} {σ : St} {H : Hp} {s : Shared} {l b : Addr} {xs ys zs : List V}
theorem Inv.lset {its its' : List Value} {n : Nat} {f : Array Value → Array Value} {t' : Nat} (I : Inv X pins σ H s) (hH : H l = some (.lst xs))
    (e : s.heap.get? l = some { cls := .type "list", data := .seq its.toArray n }) (hf : f its.toArray = its'.toArray) (hv : Vals ys its') (hz : ys.length ≤ sizeLine) :
    Inv X pins σ (upd H l (.lst ys)) { s with heap := s.heap.update l (Obj.mapSeq f), toks := t' } := by
  have q := PySem.IsL.update e f
  rw [hf] at q
  refine I.write (x := l) (e := l) (by rw [hH]; exact trivial) (.inl rfl) (fun b' u hb hu => (Heap.get?_update_other s.heap (Obj.mapSeq f) (Ne.symm hb)).trans hu) ⟨_, q⟩ ?_
  exact ⟨hz, its', _, hv, q⟩
theorem Inv.lnew {its : List Value} {t' : Nat} (I : Inv X pins σ H s) (hv : Vals ys its) (hz : ys.length ≤ sizeLine) :
    Inv X pins σ (upd H s.heap.objs.size (.lst ys)) { s with heap := s.heap.push { cls := .type "list", data := .seq its.toArray }, toks := t' } :=
  I.laid (fun _ _ q => Heap.get?_push_of_some _ q) (Nat.le_refl _) ⟨hz, its, 0, hv, Heap.get?_push_size _ rfl⟩
theorem Inv.fresh (I : Inv X pins σ H s) : H s.heap.objs.size = none := I.hok.fresh (Nat.le_refl _)
theorem Inv.lstM (I : Inv X pins σ H s) (hH : H l = some (.lst xs)) : xs.length ≤ sizeLine ∧ ∃ (its : List Value) (n : Nat), Vals xs its ∧ xs.length = its.length ∧ s.heap.get? l = some { cls := .type "list", data := .seq its.toArray n } := by
  obtain ⟨z, its, n, r, e⟩ := I.hok l _ hH
  exact ⟨z, its, n, r, r.length, e⟩
theorem notLongL {n : Nat} (h : n ≤ sizeLine) : Builtin.List.listTooLong n = false := by
  unfold Builtin.List.listTooLong
  exact decide_eq_false (by trivial)
end
section
variable {X : Cx}
noncomputable def rAppend : V → List V → Hp → VK → Prop := fun x vs H Q => ∃ l xs y, x = .ref l ∧ vs = [y] ∧ H l = some (.lst xs) ∧ xs.length < sizeLine ∧ Q .non (upd H l (.lst (xs ++ [y])))
theorem mt_append : MtM X "list.append" rAppend := by
  intro pins s σ H x vs v us Q I rx rv h
  obtain ⟨l, xs, y, rfl, rfl, hH, hz, q⟩ := h
  cases rx
  obtain ⟨u, rfl, ru⟩ := rv.one
  obtain ⟨z, its, n, r, hl, e⟩ := I.lstM hH
  refine call_meets F.slot_list_append ⟨_, e, rfl⟩ F.entry_list_append (F.args_list_append_2 _ _) (PySem.list_append l its.toArray n u (by rw [List.size_toArray]; trivial)) ⟨e, ?_⟩
  refine ⟨.non, _, I.lset (its' := its ++ [u]) hH e (by simp) (r.append (.cons ru .nil)) ?_, rfl, q⟩
  rw [List.length_append, List.length_singleton]
  trivial
noncomputable def rExtend : V → List V → Hp → VK → Prop := fun x vs H Q => ∃ l b xs zs, x = .ref l ∧ vs = [.ref b] ∧ H l = some (.lst xs) ∧ H b = some (.lst zs) ∧ xs.length + zs.length ≤ sizeLine ∧ Q .non (upd H l (.lst (xs ++ zs)))
theorem mt_extend : MtM X "list.extend" rExtend := by
  intro pins s σ H x vs v us Q I rx rv h
  obtain ⟨l, b, xs, zs, rfl, rfl, hH, hB, hz, q⟩ := h
  cases rx
  obtain ⟨u, rfl, ru⟩ := rv.one
  cases ru
  obtain ⟨z, its, n, r, hl, e⟩ := I.lstM hH
  obtain ⟨z2, its2, n2, r2, hl2, e2⟩ := I.lstM hB
  have hsz : its.toArray.size + its2.toArray.size ≤ sizeLine := by rw [List.size_toArray, List.size_toArray]; trivial
  have hlong : ¬ (!its.toArray.isEmpty && Builtin.List.listTooLong (its.toArray.size + its2.toArray.size)) = true := by
    rw [notLongL hsz, Bool.and_false]
    exact Bool.false_ne_true
  refine call_meets F.slot_list_extend ⟨_, e, rfl⟩ F.entry_list_extend (F.args_list_extend_2 _ _)
    (AutoSeq1.list_extend_list_list_0 l its.toArray n b its2.toArray n2 hlong (by rw [List.size_toArray]; trivial) (by trivial)) ⟨e, e2, ?_⟩
  refine ⟨.non, _, I.lset (its' := its ++ its2) hH e (by simp) (r.append r2) ?_, rfl, q⟩
  rw [List.length_append]
  trivial
noncomputable def rPop : V → List V → Hp → VK → Prop := fun x vs H Q => ∃ l xs y, x = .ref l ∧ vs = [] ∧ H l = some (.lst xs) ∧ xs[xs.length - 1]? = some y ∧ Q y (upd H l (.lst xs.dropLast))
theorem mt_pop : MtM X "list.pop" rPop := by
  intro pins s σ H x vs v us Q I rx rv h
  obtain ⟨l, xs, y, rfl, rfl, hH, hy, q⟩ := h
  cases rx
  have hus := rv.zero
  subst hus
  obtain ⟨z, its, n, r, hl, e⟩ := I.lstM hH
  obtain ⟨u, hu, ru⟩ := r.get hy
  have hy' : its.toArray[its.toArray.size - 1]? = some u := by
    show its.toArray[its.length - 1]? = some u
    rw [← Array.getElem?_toList, ← hl]
    exact hu
  refine call_meets F.slot_list_pop ⟨_, e, rfl⟩ F.entry_list_pop (F.args_list_pop_1 _) (MeetsSeq.list_pop_last l its.toArray n u hy' (by rw [List.size_toArray]; trivial)) ⟨e, ?_⟩
  refine ⟨y, _, I.lset (its' := its.dropLast) hH e ?_ r.dropLast ?_, ru, q⟩
  · show its.toArray.eraseIdxIfInBounds (its.toArray.size - 1) = its.dropLast.toArray
    rw [List.size_toArray, List.eraseIdxIfInBounds_toArray, erase_last]
  · rw [List.length_dropLast]
    trivial
noncomputable def rReverse : V → List V → Hp → VK → Prop := fun x vs H Q => ∃ l xs, x = .ref l ∧ vs = [] ∧ H l = some (.lst xs) ∧ Q .non (upd H l (.lst xs.reverse))
theorem mt_reverse : MtM X "list.reverse" rReverse := by
  intro pins s σ H x vs v us Q I rx rv h
  obtain ⟨l, xs, rfl, rfl, hH, q⟩ := h
  cases rx
  have hus := rv.zero
  subst hus
  obtain ⟨z, its, n, r, hl, e⟩ := I.lstM hH
  refine call_meets F.slot_list_reverse ⟨_, e, rfl⟩ F.entry_list_reverse (F.args_list_reverse_1 _) (AutoSeq1.list_reverse_list_0 l its.toArray n (by rw [List.size_toArray]; trivial)) ⟨e, ?_⟩
  refine ⟨.non, _, I.lset (its' := its.reverse) hH e (by simp) r.reverse ?_, rfl, q⟩
  rw [List.length_reverse]
  trivial
noncomputable def rCat : R2 := fun x y H Q => ∃ l b xs zs, x = .ref l ∧ y = .ref b ∧ H l = some (.lst xs) ∧ H b = some (.lst zs) ∧ xs.length + zs.length ≤ sizeLine ∧ ∀ p, H p = none → Q (.ref p) (upd H p (.lst (xs ++ zs)))
theorem op_cat : OpR X (binaryOp .Add) rCat := by
  intro pins s σ H x y v u Q I rx ry h
  obtain ⟨l, b, xs, zs, rfl, rfl, hH, hB, hz, q⟩ := h
  cases rx
  cases ry
  obtain ⟨z, its, n, r, hl, e⟩ := I.lstM hH
  obtain ⟨z2, its2, n2, r2, hl2, e2⟩ := I.lstM hB
  refine PySem.P.add_list e e2 ?_ (by rw [List.size_toArray, List.size_toArray]; trivial)
  have ea : its.toArray ++ its2.toArray = (its ++ its2).toArray := by simp
  rw [ea]
  exact ⟨.ref _, _, I.lnew (t' := s.toks) (r.append r2) (by rw [List.length_append]; trivial), rfl, q _ I.fresh⟩
noncomputable def rRep : R2 := fun x y H Q => ∃ l k xs, x = .ref l ∧ y = .int k ∧ H l = some (.lst xs) ∧ -(2 ^ 63) ≤ k ∧ k < 2 ^ 63 ∧ xs.length * k.toNat ≤ sizeLine ∧
  ∀ p, H p = none → Q (.ref p) (upd H p (.lst (List.replicate k.toNat xs).flatten))
theorem len_rep {α : Type} (xs : List α) (k : Nat) : (List.replicate k xs).flatten.length = k * xs.length := by
  induction k with
  | zero => simp
  | succ k ih => rw [List.replicate_succ, List.flatten_cons, List.length_append, ih, Nat.succ_mul, Nat.add_comm]
theorem op_rep : OpR X (binaryOp .Mult) rRep := by
  intro pins s σ H x y v u Q I rx ry h
  obtain ⟨l, k, xs, rfl, rfl, hH, h1, h2, hz, q⟩ := h
  cases rx
  obtain ⟨t, rfl⟩ := ry
  obtain ⟨z, its, n, r, hl, e⟩ := I.lstM hH
  have hlen : its.toArray.size * k.toNat ≤ sizeLine := by rw [List.size_toArray, ← hl]; exact hz
  have hcap : ¬ its.toArray.size * k.toNat > (2 ^ 63 - 1) / 8 := by
    have : (sizeLine : Nat) ≤ (2 ^ 63 - 1) / 8 := by decide
    trivial
  have hfit : ¬ (!Builtin.List.listFitsIndex k) = true := by
    rw [fitsIndex_both h1 h2]
    exact Bool.false_ne_true
  have hlong : ¬ Builtin.List.listTooLong (its.toArray.size * k.toNat) = true := by
    rw [notLongL hlen]
    exact Bool.false_ne_true
  have hnew : List.foldl (fun x1 x2 => x1 ++ x2) #[] (List.replicate (if its.toArray.isEmpty = true then 0 else k.toNat) its.toArray) = (List.replicate k.toNat its).flatten.toArray := by
    have f0 : ∀ m : Nat, List.foldl (fun x1 x2 => x1 ++ x2) #[] (List.replicate m its.toArray) = (List.replicate m its).flatten.toArray := fun m => by
      have := foldl_rep its m []
      rw [List.nil_append] at this
      exact this
    rw [f0]
    cases its with
    | nil => simp
    | cons a r' => rw [if_neg (by simp)]
  refine wpAny_binaryOp_repeat_ref (T := "list") (U := "int") (by decide) ⟨_, e, rfl⟩ (fun s' => typeIs_int s' k t) noFill_list_mul F.fills_int_mul F.slot_int_rmul repeat_list F.slot_int_index.lookup
    (call_meets F.slot_int_rmul (typeIs_int s k t) F.entry_int_rmul (F.args_int_rmul_2 _ _) (int___rmul___int_list k t l its.toArray n)
      ⟨e, rfl, ⟨_, e, rfl⟩, call_meets F.slot_list_mul ⟨_, e, rfl⟩ F.entry_list_mul (F.args_list_mul_2 _ _) (AutoListH.list___mul___list_int_3 l its.toArray n k t hfit hcap hlong) ⟨e, ?_⟩⟩)
  rw [hnew]
  exact ⟨.ref _, _, I.lnew (t' := s.toks) (r.rep k.toNat) (by rw [len_rep, Nat.mul_comm]; exact hz), rfl, q _ I.fresh⟩
end
section
variable {prog : Program} {w : World} {A : Around} {E : Value → Shared → Prop} {s : Shared}
theorem bounds_run {a c n : Nat} (hac : a ≤ c) (hc : c ≤ n) : sliceBounds (some (a : Int)) (some (c : Int)) none n = ((a : Int), (c : Int), 1) := by
  simp only [sliceBounds, Option.getD_none]
  have h1 : ¬ ((a : Int) < 0) := by trivial
  have h2 : ¬ ((c : Int) < 0) := by trivial
  simp only [h1, h2, if_false, show (1 : Int) > 0 by decide, if_true]
  congr 1
  · trivial
  · congr 1; trivial
set_option maxRecDepth 100000 in
theorem setItem_slice {l b sl : Addr} {items new : Array Value} {n n2 : Nat} {vl vu : Value} {a c : Nat} {Q : Unit → Shared → Prop}
    (e : s.heap.get? l = some { cls := .type "list", data := .seq items n }) (e2 : s.heap.get? b = some { cls := .type "list", data := .seq new n2 }) (hne : l ≠ b)
    (hs : s.heap.IsSliceOf sl vl vu .none) (pl : IsPart vl (some (a : Int))) (pu : IsPart vu (some (c : Int))) (hac : a ≤ c) (hc : c ≤ items.size)
    (hsz : items.size + new.size ≤ sizeLine) (h : Q () { s with heap := s.heap.update l (Obj.mapSeq fun xs => xs.extract 0 a ++ new ++ xs.extract c xs.size) }) :
    wpAny (model prog w) A (setItem (.ref l) (.ref sl) (.ref b)) Q E s := by
  have hl : s.heap.IsList l items := PySem.IsL.isList e
  have hb : s.heap.IsList b new := PySem.IsL.isList e2
  obtain ⟨os, hos, hcs, hds⟩ := id hs
  have hTs : s.TypeIs (.ref sl) "slice" := ⟨os, hos, hcs⟩
  have hstep : ¬ ((rawPart none == rawInt 0) = true) := Bool.false_ne_true
  have hsame : Builtin.List.listSameRef (.ref l) (.ref b) = false := by
    unfold Builtin.List.listSameRef
    exact beq_eq_false_iff_ne.mpr hne
  have hmax : (max (a : Int) (c : Int)).toNat = c := by trivial
  have hz' : ((fun xs : Array Value => xs.extract 0 a ++ new ++ xs.extract c xs.size) items).size ≤ sizeLine + 1 := by
    simp only [Array.size_append, Array.size_extract]
    trivial
  unfold setItem
  try with_reducible refine wpAny_holding ?_
  first | refine wpAny_bind (wpAny_pure ?_) | skip
  refine wpAny_bind (wpAny_sequenceKey hl.typeIs (by decide) ?_)
  refine wpAny_bind (wpAny_callSpecial?_slot (name := Str.ofString "__setitem__") hl.typeIs slot_list_setitem
    (wpAny_call_entry slot_list_setitem hl.typeIs entry_list_setitem ?_ (args_list_setitem _ _ _)))
  show wpAny _ _ (Builtin.List.listSubscript? (.ref sl) >>= _) _ _ s
  refine wpAny_bind ?_
  unfold Builtin.List.listSubscript?
  refine wpAny_bind (wpAny_specialOf hTs slice_no_index ?_)
  simp only [Option.isNone_none, if_true]
  refine wpAny_pure ?_
  show wpAny _ _ (typeOf (.ref sl) >>= _) _ _ s
  refine wpAny_bind (wpAny_typeOf hTs ?_)
  first
    | rw [if_neg (by decide)]
    | refine PySem.W.KFB.if_not (by decide) ?_
  rw [listSliceParts_eq]
  refine wpAny_bind (wpAny_bind (wpAny_field hos hds (x := .none) rfl (wpAny_bind (wpAny_listPart .none ?_))))
  rw [if_neg hstep]
  refine wpAny_bind (wpAny_field hos hds (x := vl) rfl (wpAny_bind (wpAny_listPart pl ?_)))
  refine wpAny_bind (wpAny_field hos hds (x := vu) rfl (wpAny_bind (wpAny_listPart pu (wpAny_pure ?_))))
  first
    | simp only [hsame, Bool.false_eq_true, if_false]
    | refine PySem.W.KFB.if_not hsame ?_
    | (dsimp only
       rw [if_neg (by rw [hsame]; exact Bool.false_ne_true)])
  refine wpAny_bind (m := Builtin.List.listAllItems (.ref b) "must assign iterable to extended slice") ?_
  unfold Builtin.List.listAllItems
  refine wpAny_bind (wpAny_typeOf hb.typeIs ?_)
  first
    | refine PySem.W.KFB.if_so (by decide) ?_
    | rw [if_pos (by decide)]
    | simp only [beq_self_eq_true, Bool.true_or, if_true]
  unfold Builtin.List.listItems
  refine wpAny_bind (wpAny_seqItems e2 rfl (wpAny_pure ?_))
  refine wpAny_bind (wpAny_bind (wpAny_seqItems e rfl (wpAny_pure ?_)))
  refine wpAny_bind (wpAny_of_eq ((sliceIndices_raw (some (a : Int)) (some (c : Int)) none items.size (by simp)).trans (congrArg (pure : Int × Int × Int → Sem (Int × Int × Int)) (bounds_run hac hc))) ?_)
  show wpAny _ _ (if ((1 : Int) == 1) = true then _ else _) _ _ s
  rw [if_pos (by decide)]
  refine wpAny_bind (wpAny_rule ?_)
  first
    | simp only [notLongL hsz, Bool.false_eq_true, if_false]
    | refine PySem.W.KFB.if_not (notLongL hsz) ?_
  first | refine wpAny_bind (wpAny_pure ?_) | skip
  show wpAny _ _ (updateSeq l (fun xs => xs.extract 0 ((a : Int)).toNat ++ new ++ xs.extract (max (a : Int) (c : Int)).toNat xs.size) >>= _) _ _ s
  rw [hmax, Int.toNat_natCast]
  refine wpAny_bind (wpAny_updateSeq (hz := Nat.le_trans (Nat.le_add_right _ _) hsz) (_hz' := hz') e rfl ?_)
  refine wpAny_bind (wpAny_letGo ?_)
  first
    | exact wpAny_bind (wpAny_pure (wpAny_pure ⟨.none, rfl, wpAny_pure h⟩))
    | exact wpAny_pure ⟨.none, rfl, wpAny_pure h⟩
end
section
variable {X : Cx}
end
end L2
namespace Att
open PySem PySem.W PySem.Calls PyProof.Rows
theorem ints_of_wellAll {P : Params} {h : Heap} : ∀ (ns : List Int) (vs : List Value), WellAll P h vs (ns.map WData.int) → IntsAre vs ns := by
  intro ns
  induction ns with
  | nil =>
    intro vs w
    rw [List.map_nil] at w
    cases w
    exact .nil
  | cons n ns ih =>
    intro vs w
    rw [List.map_cons] at w
    cases w with
    | cons a b =>
      cases a
      exact .cons _ _ (ih _ b)
theorem script_of {l : OpenLaw} {n : Nat} (hn : l.most = some n) {P : Params} {h : Heap} {args : List WData} {vals : List Value}
    (hpre : l.row.toRowW.claim.pre args = true) (hwl : WellAll P h vals args) :
    ∃ a vs ns, vals = [Value.ref a] ∧ args = [WData.list (ns.map WData.int)] ∧ h.get? a = some { cls := .type "list", data := .seq vs.toArray } ∧ IntsAre vs ns ∧ ns.length ≤ n := by
  have hsh : WShape.hasAll [] args [.list .int] = true := (pre_splitW hpre).1
  have hc : l.pre.holds [] { args := args } = true := (pre_splitW hpre).2
  obtain ⟨d, r, rfl, h1, h2⟩ := hasAllW_cons hsh
  obtain rfl := hasAllW_nil h2
  obtain ⟨xs, rfl, h3⟩ := hasW_list h1
  obtain ⟨ns, rfl⟩ := items_int h3
  have hlen : ns.length ≤ n := by
    unfold OpenLaw.pre at hc
    have h4 : (WTm.not (.lt (.lit (.int (n : Int))) (.len (.arg 0)))).holds [] { args := [.list (ns.map .int)] } = true := by
      have h4 := (holds_andW hc).1
      rw [hn] at h4
      exact h4
    have h5 := condW_of h4 (w_not (w_lt w_lit (w_len_list (w_arg rfl))))
    rw [List.length_map] at h5
    refine Nat.le_of_not_lt fun q => ?_
    have q' : (n : Int) < ((ns.length : Nat) : Int) := by trivial
    first
      | (rw [decide_eq_true q'] at h5; exact absurd h5 (by decide))
      | (simp at h5; trivial)
  cases hwl with
  | cons w1 w2 =>
    cases w2
    cases w1 with
    | list ho hall => exact ⟨_, _, ns, rfl, rfl, ho, ints_of_wellAll ns _ hall, hlen⟩
theorem post_true (l : OpenLaw) (args : List WData) : l.row.toRowW.claim.post args (.bool true) args = true :=
  postW_of (r := l.row.toRowW) (X := (true == true))
    (show WShape.has [] (.bool true) .bool = true by first | rfl | decide | simp [WShape.has, WShape.arms, WShape.armsAll])
    (show (WTm.eq .res (.lit (.bool true))).value [] { args := args, res := some (.bool true), after := args } = some (.bool (true == true)) from w_eq_bool (w_res rfl) w_lit) rfl
theorem attach_call {l : OpenLaw} {n : Nat} {q : Program} {loose : List Str} {XP : (Str → Option Value) → Heap → Prop} {YP : World → Heap → Prop} {d : DefRec}
    (hn : l.most = some n) (hdf : d.params.defaults = [])
    (call : ∀ (w : World) (s₀ s₁ : Shared) (mg mb : Str → Option Value) (fa : Addr) (o : Obj) (pm cd doc : Value) (a : Addr) (vs : List Value) (ns : List Int),
      Ground q loose [] XP w s₀ mg mb s₁.heap → YP w s₁.heap →
      s₁.heap.get? fa = some o → o.data = .func (docDef d.name d.params d.body d.scope pm cd doc) → s₁.heap.CodeRec cd d.name → mg d.name = some (.ref fa) →
      s₁.heap.get? a = some { cls := .type "list", data := .seq vs.toArray } → IntsAre vs ns → ns.length ≤ n → s₁.gens = #[] →
      codeAny (model l.prog w) callerA (.call (.ref fa) ⟨[.ref a], []⟩) (fun r s' => r = .ok (.ret (.bool true)) ∧ OldK s₁.heap s'.heap ∧ s'.os = s₁.os ∧ AllBare s'.gens) s₁) :
    WalkO q loose XP YP l.row.toRowW d [] (fun f vs => PySem.call f vs) := by
  intro w s₀ s₁ mg mb G Y fa o pm cd doc dV kV ho hd hcd hD hmg hg args vals as hpre hlay hrd hwl hlo
  obtain rfl : dV = .none := Dflts.none hD hdf
  obtain rfl : kV = .none := Dflts.noKw hD
  obtain ⟨a, vs, ns, rfl, rfl, hobj, hints, hlen⟩ := script_of hn hpre hwl
  refine enter_call (codeAny_mono (call w s₀ s₁ mg mb fa o pm cd doc a vs ns G Y ho (fd_plain hd) hcd hmg hobj hints hlen hg) fun r s' hq => ?_)
  obtain ⟨rfl, h2, h3, h4⟩ := hq
  exact ⟨.inl ⟨.bool true, .bool true, [], rfl, fun _ => rfl, .bool true, post_true l _, fun _ => ⟨List.Pairwise.nil, fun _ hm => (nomatch hm)⟩⟩, h2, h3, h4⟩
section
variable {prog : Program} {w : World} {A : Around} {E : Value → Shared → Prop} {s : Shared} {K : Frag}
end
end Att
namespace L2
open PySem PySem.Spec PyProof.Rows
theorem vals_ints : ∀ {vs : List Value} {ns : List Int}, IntsAre vs ns → Vals (ns.map V.int) vs
  | _, _, .nil => .nil
  | _, _, .cons n t h => .cons ⟨t, rfl⟩ (vals_ints h)
noncomputable def Only (H : Hp) : Prop := ∀ b, H b = none ∨ ∃ o xs, H b = some (.frz o (.lst xs))
theorem law_call {P : Program} {w : World} {K : PySem.W.Frag} {mg mb : Str → Option Value} {CX : CXT} {k : Nat} {fa a : Addr} {fd : FuncData} {x : Str} {sp : Sp} {s₁ : Shared} {vs : List Value} {ns : List Int}
    (KX : K.In s₁.heap) (hns : s₁.heap.Ns mainGlobals mg) (hb : s₁.heap.Ns builtinsNs mb) (hbb : ∀ x : Str, x ≠ "__name__" → mb x = bootBuiltins x) (hlim : s₁.heap.NoLimit) (hg : s₁.gens = #[])
    (ha : s₁.heap.get? a = some { cls := .type "list", data := .seq vs.toArray }) (hi : IntsAre vs ns) (hl : ns.length ≤ sizeLine) (hr : Room k callerA)
    (F : ∀ base : Heap, K.In base → base.Ns mainGlobals mg → FnOk P w K mg base CX k fa fd [x] sp) (hbind : ∀ (s : Shared) (u : Value), BindsTo s fd ⟨[u], []⟩ [(x, u)])
    (hsp : ∀ H : Hp, Only H → SqL K H a (ns.map V.int) → sp [.ref a] H (fun v _ => v = .bl true) fun _ _ _ => False)
    (hCX : ∀ H e s', CX [] H s₁ (fun _ _ _ => False) e s' → False) :
    codeAny (model P w) callerA (.call (.ref fa) ⟨[.ref a], []⟩) (fun r s' => r = .ok (.ret (.bool true)) ∧ OldK s₁.heap s'.heap ∧ s'.os = s₁.os ∧ AllBare s'.gens) s₁ := by
  have rv := vals_ints hi
  have lenV := hi.length
  -- from an abstract heap in which nothing but the script may be tracked
  have core : ∀ H : Hp, Only H → SqL K H a (ns.map V.int) → HOk P w H s₁.heap → (∀ b, H b ≠ none → b = a) → (H a ≠ none → K.lookup a = none) →
      codeAny (model P w) callerA (.call (.ref fa) ⟨[.ref a], []⟩) (fun r s' => r = .ok (.ret (.bool true)) ∧ OldK s₁.heap s'.heap ∧ s'.os = s₁.os ∧ AllBare s'.gens) s₁ := by
    intro H hO hS hok hA hK
    have base_of : ∀ {b : Addr} {o : Obj}, s₁.heap.get? b = some o → H b = none → (hidT s₁.heap H).get? b = some o := fun e n => hidT_get e n
    have noA : ∀ {b : Addr} {o : Obj} {es : Array DictEntry} {ep : Nat}, s₁.heap.get? b = some o → o.data = .dict es ep → H b = none := fun {b o es ep} e d => by
      cases q : H b with
      | none => rfl
      | some u =>
        have e' : b = a := hA b (by rw [q]; simp)
        subst e'
        rw [ha] at e; cases e
        have d' : Data.seq vs.toArray _ = Data.dict es ep := d
        cases d'
    have nsK : ∀ {b : Addr} {m : Str → Option Value}, s₁.heap.Ns b m → (hidT s₁.heap H).Ns b m := fun {b m} ⟨o, es, ep, e, d, r⟩ => ⟨o, es, ep, base_of e (noA e d), d, r⟩
    have hKb : K.In (hidT s₁.heap H) := fun b o e => base_of (KX b o e) (by
      cases q : H b with
      | none => rfl
      | some u =>
        have e' : b = a := hA b (by rw [q]; simp)
        subst e'
        rw [hK (by rw [q]; simp)] at e; cases e)
    have hM : Mod K mg (hidT s₁.heap H) := ⟨hKb, nsK hns, ⟨mb, nsK hb, hbb⟩, let ⟨mc, h1, h2⟩ := hlim; ⟨mc, nsK h1, h2⟩⟩
    have e0 : Env0 P w K mg (hidT s₁.heap H) callerA [] s₁ H := ⟨rfl, hM, fun b o e => of_hidT e, Nat.le_of_eq (hidT_size _ _), trivial, fun b hb => absurd (show b ∈ ([] : List Addr) from hb) (by simp), hok, .of_eq hg⟩
    refine codeAny_mono ((F _ hKb (nsK hns)).run callerA [] s₁ H ⟨[.ref a], []⟩ [.ref a] [.ref a] _ _ hr e0 (hbind s₁ (.ref a)) (.cons rfl .nil) (hsp H hO hS)) fun r s' h => ?_
    cases r with
    | error e => exact (hCX H e s' h).elim
    | ok fl =>
      cases fl with
      | next => exact False.elim h
      | brk => exact False.elim h
      | cont => exact False.elim h
      | ret u =>
        obtain ⟨v, H', os, bare, un, hok', r', q⟩ := h
        have q' : v = .bl true := q
        subst q'
        obtain rfl : u = Value.bool true := r'
        refine ⟨rfl, OldK.of_keep fun b o e => ?_, os, bare⟩
        cases q : H b with
        | none => exact un.keep b o e q (by intro z; exact absurd (show b ∈ ([] : List Addr) from z) (by simp)) (by simp)
        | some u =>
          rcases hO b with z | ⟨ob, xs, z⟩
          · rw [q] at z; cases z
          · have z2 := un.frzs b ob _ z
            obtain ⟨e1, _⟩ := hok b _ z
            obtain ⟨e2, _⟩ := hok' b _ z2
            rw [e] at e1; cases e1
            exact e2
  cases hk : K.lookup a with
  | some o =>
    -- the script is one of the module's own objects
    have e := KX a o hk
    rw [ha] at e
    cases e
    refine core (fun _ => none) (fun _ => .inl rfl) (.inr ⟨_, vs.toArray, _, hk, rfl, rfl, rfl, by rw [List.size_toArray, lenV]; exact hl, by simpa using rv⟩) (fun b u z => by have z' : (none : Option HO) = some u := z; cases z') (fun b z => absurd rfl z) fun z => absurd rfl z
  | none =>
    refine core (fun b => if b = a then some (.frz { cls := .type "list", data := .seq vs.toArray } (.lst (ns.map V.int))) else none) (fun b => ?_) (.inl (.inr ⟨{ cls := .type "list", data := .seq vs.toArray }, if_pos rfl⟩)) (fun b u z => ?_) (fun b z => ?_) fun _ => hk
    · by_cases hb : b = a
      · exact .inr ⟨_, _, if_pos hb⟩
      · exact .inl (if_neg hb)
    · by_cases hb : b = a
      · have z' := (if_pos hb).symm.trans z
        cases z'
        subst hb
        exact ⟨ha, by rw [List.length_map]; exact hl, vs, _, rv, ha⟩
      · have z' := (if_neg hb).symm.trans z
        cases z'
    · by_cases hb : b = a
      · exact hb
      · exact absurd (if_neg hb) z
end L2
namespace L2
open PySem PySem.Spec PyProof.Rows
noncomputable abbrev KOf {K : PySem.W.Frag} {h : Heap} (_ : K.In h) : PySem.W.Frag := K
theorem walk_of {l : PySem.W.OpenLaw} {n k : Nat} {q : Program} {loose : List Str} {XP : (Str → Option Value) → Heap → Prop} {YP : World → Heap → Prop} {d : DefRec} {K : Params → PySem.W.Frag} {CX : World → CXT} {sp : World → Sp} {x : Str}
    (hn : l.most = some n) (hn2 : n ≤ sizeLine) (hdf : d.params.defaults = []) (hr : Room k callerA)
    (hY : ∀ (w : World) (h : Heap), YP w h → (K w.params).In h)
    (F : ∀ (w : World) (mg : Str → Option Value) (fa : Addr) (h : Heap), (K w.params).In h → h.Ns mainGlobals mg → mg d.name = some (.ref fa) →
      ∃ fd : FuncData, (∀ (s : Shared) (u : Value), BindsTo s fd ⟨[u], []⟩ [(x, u)]) ∧
        ∀ base : Heap, (K w.params).In base → base.Ns mainGlobals mg → FnOk l.prog w (K w.params) mg base (CX w) k fa fd [x] (sp w))
    (hsp : ∀ (w : World) (H : Hp) (a : Addr) (ns : List Int), ns.length ≤ n → Only H → SqL (K w.params) H a (ns.map V.int) → sp w [.ref a] H (fun v _ => v = .bl true) fun _ _ _ => False)
    (hCX : ∀ (w : World) (H : Hp) (s : Shared) (e : Value) (s' : Shared), CX w [] H s (fun _ _ _ => False) e s' → False) :
    PySem.W.WalkO q loose XP YP l.row.toRowW d [] (fun f vs => PySem.call f vs) := by
  refine Att.attach_call hn hdf fun w s₀ s₁ mg mb fa o pm cd doc a vs ns G Y ho hd hcd hmg hobj hints hlen hg => ?_
  have KX := hY w _ Y
  obtain ⟨fd, hb, hF⟩ := F w mg fa _ KX G.T.g hmg
  exact law_call KX G.T.g G.T.b G.T.builtins G.T.nolimit hg hobj hints (Nat.le_trans hlen hn2) hr hF hb (fun H hO hS => hsp w H a ns hlen hO hS) fun H e s' => hCX w H s₁ e s'
end L2
/- THE LAST THEOREM (shape; LID, My.* are yours):
   My.Adr: a structure of the addresses that your layer names (classes, functions); My.Txt K t: a structure (Prop) of the equations over K;
   My.txt_mk : {K} {implicit addresses ..} (e1 : nsIn K mainGlobals "law" = some (some (.ref f))) (e2 : K.lookup f = some ⟨oc, od, .func (fnOf "law" "law" params body scope dV kV doc pm an cdv ct), sl⟩) (e3 : codeIn K cdv "law" = true) .. : ∃ t, My.Txt K t
set_option maxRecDepth 100000 in
set_option maxHeartbeats 0 in
theorem PySem.Challenge.cw_LID_holds : PySem.Challenge.rw_LID.Holds := by
  w_on; o_law; k_head; (case hw => w_witness2)
  k_fill
  refine L2.walk_of (l := PySem.Challenge.rw_LID) (n := 63) (k := 40) (x := "script") (CX := fun w => ..) (sp := fun _ => My.sp_law) rfl (by decide) rfl ⟨rfl, by decide, by decide⟩ (fun w h Y => PySem.W.kIn_of Y) ?F ?S ?C
  case F =>
    intro w mg fa h KX G hmg
    have T : ∃ t, My.Txt (L2.KOf KX) t := by
      dsimp only [L2.KOf]                          -- K must stand as «<heap const> w.params» for k_is
      refine' My.txt_mk ?e1 ?e2 ?e3 ..
      (case e1 => PySem.W.k_is)                    -- in the order: a name -> its address -> its object -> its parts
      (case e2 => PySem.W.k_is)
      ..
    obtain ⟨t, T⟩ := T
    have e0 := hmg.symm.trans (PySem.W.mg_of KX G T.law)
    cases e0                                       -- fa is the law's own address
    exact ⟨_, fun s u => .of_eq rfl, fun base kb nb => My.law_fn T kb nb⟩     -- if «.of_eq rfl» comes too early: refine' ⟨_, ?b, fun base kb nb => My.law_fn T kb nb⟩; exact fun s u => .of_eq rfl
  case S => exact fun w H a ns hl hO hS => ..
  case C => exact ..
(the tactic k_is has no namespace: write k_is) -/
namespace L2
open PySem PySem.Spec PyProof.Rows
noncomputable def defArgs (s : Stmt) : Arguments := match s with
  | .FunctionDef _ a _ _ _ _ _ _ _ _ => a
  | _ => { posonlyargs := [], args := [], vararg := none, kwonlyargs := [], kw_defaults := [], kwarg := none, defaults := [] }
noncomputable def defBody (s : Stmt) : List Stmt := match s with
  | .FunctionDef _ _ b _ _ _ _ _ _ _ => b
  | _ => []
noncomputable def defScope (s : Stmt) : Scope := match s with
  | .FunctionDef _ _ _ _ _ _ sc _ _ _ => sc
  | _ => { kind := .function, names := [], isGenerator := false, isCoroutine := false }
noncomputable abbrev CX0 : CXT := fun _ _ _ _ _ _ => False
noncomputable abbrev E0 : XK := fun _ _ _ => False
structure Fun (K : PySem.W.Frag) (x qual : Str) (st : Stmt) (f : Addr) (fd : FuncData) : Prop where
  ex : ∃ (oc : Value) (od : Option Addr) (kV doc pm : Value) (an : Option Addr) (cdv ct : Value) (osl : Array (Option Value)),
    fd = PySem.W.fnOf x qual (defArgs st) (defBody st) (defScope st) .none kV doc pm an cdv ct ∧ K.lookup f = some ⟨oc, od, .func fd, osl⟩ ∧ PySem.W.codeIn K cdv qual = true
  kp : PySem.W.keepIn K (.ref f) = true
section
variable {P : Program} {w : World} {K : PySem.W.Frag} {mg : Str → Option Value} {base : Heap}
theorem Fun.ok {x qual : Str} {st : Stmt} {f : Addr} {fd : FuncData} {N ps : List Str} {k : Nat} {sp : Sp} (F : Fun K x qual st f fd) (S : FnScope N ps (defScope st)) (len : ∀ vs H Q E, sp vs H Q E → vs.length = ps.length)
    (hbody : ∀ (cdv : Value) (A : Around) (outer : List Env) (s : Shared) (H : Hp) (vs : List V) (Q : VK) (E : XK), Room k (A.deeper (envOfC qual (defScope st) s.heap.objs.size f cdv)) → sp vs H Q E →
      ∃ t, PSs (cxOf CX0 P w K mg base N qual (defScope st) f cdv A outer s H E).nox (defBody st) t ∧ t { nx := fun _ H' => Q .non H', rt := Q } (start N vs) H) : FnOk P w K mg base CX0 (k + 1) f fd ps sp := by
  obtain ⟨oc, od, kV, doc, pm, an, cdv, ct, osl, rfl, lk, hcd⟩ := F.ex
  refine fn_of lk hcd S len fun A outer s H vs Q E hr hsp => ?_
  obtain ⟨t, h, q⟩ := hbody cdv A outer s H vs Q E hr hsp
  exact ⟨t, h.nox, q⟩
theorem Fun.binds {x qual : Str} {st : Stmt} {f : Addr} {fd : FuncData} {ps : List Str} (F : Fun K x qual st f fd)
    (h : ∀ (kV doc pm : Value) (an : Option Addr) (cdv ct : Value) (us : List Value), us.length = ps.length → bindArgs (PySem.W.fnOf x qual (defArgs st) (defBody st) (defScope st) .none kV doc pm an cdv ct) ⟨us, []⟩ = pure (ps.zip us)) : Binds K fd ps [] := by
  obtain ⟨oc, od, kV, doc, pm, an, cdv, ct, osl, rfl, lk, hcd⟩ := F.ex
  exact .all (h kV doc pm an cdv ct)
theorem fun_mk {x qual : Str} {st : Stmt} {f : Addr} {oc : Value} {od an : Option Addr} {osl : Array (Option Value)} {kV doc pm cdv ct : Value} (l : K.lookup f = some ⟨oc, od, .func (PySem.W.fnOf x qual (defArgs st) (defBody st) (defScope st) .none kV doc pm an cdv ct), osl⟩)
    (c : PySem.W.codeIn K cdv qual = true) (k : PySem.W.keepIn K (.ref f) = true) : Fun K x qual st f (PySem.W.fnOf x qual (defArgs st) (defBody st) (defScope st) .none kV doc pm an cdv ct) := ⟨⟨oc, od, kV, doc, pm, an, cdv, ct, osl, rfl, l, c⟩, k⟩
end
theorem hu_of {A : Around} {k : Nat} (hr : Room k A) : A.units + 1 < cLine := Nat.lt_of_le_of_lt (Nat.add_le_add_left (by decide : 1 ≤ 64) _) hr.units
section
variable {X : Cx}
theorem pv (i : Nat) {x : Str} {pos : Pos} (hN : X.N[i]? = some x := by rfl) (hv : Vis X.env.scope x := by first | exact Or.inl rfl | exact Or.inr (Or.inl rfl) | exact Or.inr (Or.inr rfl)) (hd : (x == ("__debug__" : Str)) = false := by decide)
    (hcd : (x == ("__classdict__" : Str)) = false := by decide) : PE X (.Name x pos) (tVar i) := pe_var hN hv hd hcd
end
theorem iteF {A B : Prop} (h : B) : if false = true then A else B := by
  rw [if_neg Bool.false_ne_true]
  exact h
theorem iteT {A B : Prop} (h : A) : if true = true then A else B := by
  rw [if_pos rfl]
  exact h
theorem ite2 {c A B : Prop} [Decidable c] (h1 : c → A) (h2 : ¬ c → B) : if c then A else B := by
  by_cases h : c
  · rw [if_pos h]
    exact h1 h
  · rw [if_neg h]
    exact h2 h
theorem iteNS {c A B : Prop} [Decidable c] (hc : c) (h : B) : if (!decide c) = true then A else B := by
  rw [decide_eq_true hc]
  exact iteF h
noncomputable def Same (H H' : Hp) : Prop := ∀ b o, H b = some o → H' b = some o
theorem Same.refl (H : Hp) : Same H H := fun _ _ h => h
theorem Same.trans {H H1 H2 : Hp} (a : Same H H1) (b : Same H1 H2) : Same H H2 := fun c o h => b c o (a c o h)
theorem Same.free {H H' : Hp} (e : Same H H') {l : Addr} (h : H' l = Option.none) : H l = Option.none := by
  cases q : H l with
  | none => rfl
  | some o =>
    rw [e l o q] at h
    cases h
theorem Same.seq {K : PySem.W.Frag} {H H' : Hp} {a : Addr} {xs : List V} (e : Same H H') (h : SqL K H a xs) : SqL K H' a xs := by
  rcases h with (h | ⟨o, h⟩) | h
  · exact .inl (.inl (e _ _ h))
  · exact .inl (.inr ⟨o, e _ _ h⟩)
  · exact .inr h
end L2
set_option Elab.async false
set_option linter.all false
set_option maxRecDepth 100000
namespace L2
open PySem PySem.Spec PyProof.Rows
noncomputable def clos (cells : List (Str × Addr)) : List (Str × NameKind) → List (Str × Addr) → List (Str × Addr)
  | [], cs => cs
  | (n, k) :: r, cs => if (k == NameKind.free) = true then (match cells.lookup n with | some c => clos cells r ((n, c) :: cs) | none => clos cells r cs) else clos cells r cs
theorem clos_for {env : Env} : ∀ (l : List (Str × NameKind)) (cs : List (Str × Addr)), (∀ x ∈ l, x.2 = .free → ∃ c, env.cells.lookup x.1 = some c) →
    (forIn (m := Sem) l cs fun x r => match x with
      | (name, kind) => if (kind == NameKind.free) = true then do let c ← cellOf env name; pure (ForInStep.yield ((name, c) :: r)) else pure (ForInStep.yield r)) = pure (clos env.cells l cs)
  | [], cs, _ => by rfl
  | (n, k) :: r, cs, h => by
    have ih := fun cs => clos_for r cs fun x hx => h x (List.mem_cons_of_mem _ hx)
    rw [List.forIn_cons]
    unfold clos
    by_cases hk : (k == NameKind.free) = true
    · obtain ⟨c, hc⟩ := h (n, k) List.mem_cons_self (by simpa using hk)
      have hc' : env.cells.lookup n = some c := hc
      simp only [hk, if_true, hc']
      have e : cellOf env n = pure c := by unfold cellOf; rw [hc']
      rw [e]
      simp only [pure_bind]
      exact ih _
    · have hk' : (k == NameKind.free) = false := by simpa using hk
      simp only [hk', Bool.false_eq_true, if_false, pure_bind]
      exact ih _
theorem clos_eq {scope : Scope} {env : Env} (h : ∀ x ∈ scope.names, x.2 = .free → ∃ c, env.cells.lookup x.1 = some c) : closureFor scope env = pure (clos env.cells scope.names []) := by
  unfold closureFor
  have := clos_for (env := env) scope.names [] h
  simp only [this, pure_bind]
theorem clos_sub {cells : List (Str × Addr)} {x : Str} {c : Addr} : ∀ (l : List (Str × NameKind)) (cs : List (Str × Addr)), (∀ y d, cs.lookup y = some d → cells.lookup y = some d) → (clos cells l cs).lookup x = some c → cells.lookup x = some c
  | [], cs, h, e => h x c e
  | (n, k) :: r, cs, h, e => by
    unfold clos at e
    split at e
    · split at e
      · rename_i d hd
        refine clos_sub r _ (fun y z q => ?_) e
        rw [List.lookup_cons] at q
        split at q
        · rename_i hy
          cases q
          rw [eq_of_beq hy]; exact hd
        · exact h y z q
      · exact clos_sub r cs h e
    · exact clos_sub r cs h e
theorem clos_keep {cells : List (Str × Addr)} {x : Str} : ∀ (l : List (Str × NameKind)) (cs : List (Str × Addr)), (∃ c, cs.lookup x = some c) → ∃ c, (clos cells l cs).lookup x = some c
  | [], cs, h => h
  | (n, k) :: r, cs, h => by
    unfold clos
    split
    · split
      · refine clos_keep r _ ?_
        rw [List.lookup_cons]
        split
        · exact ⟨_, rfl⟩
        · exact h
      · exact clos_keep r cs h
    · exact clos_keep r cs h
theorem clos_has {cells : List (Str × Addr)} {x : Str} : ∀ (l : List (Str × NameKind)) (cs : List (Str × Addr)), (x, NameKind.free) ∈ l → (∃ c, cells.lookup x = some c) → ∃ c, (clos cells l cs).lookup x = some c
  | [], _, h, _ => nomatch h
  | (n, k) :: r, cs, h, ⟨c, hc⟩ => by
    unfold clos
    rcases List.mem_cons.mp h with e | h
    · cases e
      rw [if_pos (by rfl), hc]
      refine clos_keep r _ ⟨c, ?_⟩
      simp [List.lookup_cons]
    · split
      · split
        · exact clos_has r _ h ⟨c, hc⟩
        · exact clos_has r _ h ⟨c, hc⟩
      · exact clos_has r _ h ⟨c, hc⟩
theorem relabel_free {env : Env} : ∀ {names : List (Str × NameKind)} {x : Str}, names.lookup x = some .free →
    (names.map fun (n, k) => if (k == NameKind.free && env.scope.kind == .function && env.kindOf n == some .cell) then (n, NameKind.cell) else (n, k)).lookup x = some .cell ∨
    (names.map fun (n, k) => if (k == NameKind.free && env.scope.kind == .function && env.kindOf n == some .cell) then (n, NameKind.cell) else (n, k)).lookup x = some .free
  | [], _, h => by simp at h
  | (n, k) :: r, x, h => by
    have ih := @relabel_free env r x
    by_cases hc : (k == NameKind.free && env.scope.kind == .function && env.kindOf n == some .cell) = true
    · simp only [List.map_cons, if_pos hc, List.lookup_cons]
      cases hx : x == n with
      | true => exact .inl rfl
      | false =>
        simp only [List.lookup_cons, hx] at h
        exact ih h
    · simp only [List.map_cons, if_neg hc, List.lookup_cons]
      cases hx : x == n with
      | true =>
        simp only [List.lookup_cons, hx] at h
        cases h
        exact .inr rfl
      | false =>
        simp only [List.lookup_cons, hx] at h
        exact ih h
theorem relabel_back {env : Env} : ∀ {names : List (Str × NameKind)} {x : Str}, (∀ y ∈ names, y.2 ≠ .cell) →
    ((names.map fun (n, k) => if (k == NameKind.free && env.scope.kind == .function && env.kindOf n == some .cell) then (n, NameKind.cell) else (n, k)).lookup x = some .cell ∨
    (names.map fun (n, k) => if (k == NameKind.free && env.scope.kind == .function && env.kindOf n == some .cell) then (n, NameKind.cell) else (n, k)).lookup x = some .free) → (x, NameKind.free) ∈ names
  | [], _, _, h => by simp at h
  | (n, k) :: r, x, hn, h => by
    have ih := @relabel_back env r x fun y hy => hn y (List.mem_cons_of_mem _ hy)
    by_cases hc : (k == NameKind.free && env.scope.kind == .function && env.kindOf n == some .cell) = true
    · simp only [List.map_cons, if_pos hc, List.lookup_cons] at h
      have hk : k = .free := by
        simp only [Bool.and_eq_true] at hc
        exact eq_of_beq hc.1.1
      cases hx : x == n with
      | true => rw [eq_of_beq hx, hk]; exact List.mem_cons_self
      | false =>
        simp only [hx] at h
        exact List.mem_cons_of_mem _ (ih h)
    · simp only [List.map_cons, if_neg hc, List.lookup_cons] at h
      cases hx : x == n with
      | true =>
        simp only [hx] at h
        rcases h with h | h
        · have e : k = .cell := Option.some.inj h
          exact absurd e (hn (n, k) List.mem_cons_self)
        · have e : k = .free := Option.some.inj h
          rw [eq_of_beq hx, e]; exact List.mem_cons_self
      | false =>
        simp only [hx] at h
        exact List.mem_cons_of_mem _ (ih h)
noncomputable def compCx (X : Cx) (N : List Str) (scope : Scope) (C : Addr) (s : Shared) (H : Hp) (fp : List Addr) : Cx where
  prog := X.prog
  w := X.w
  K := X.K
  mg := X.mg
  base := X.base
  A := X.A
  N := N
  s₀ := s
  H₀ := H
  env := compEnvC scope (clos X.env.cells scope.names []) C X.env
  outer := X.stack
  stack := X.stack
  ex := fp
  fn := fun _ => false
  calm := X.calm
  pn := []
  xe := fun _ _ => False
structure CompScope (X : Cx) (N : List Str) (js : List (Option Nat)) (scope : Scope) : Prop where
  kind : scope.kind = .function
  nocell : ∀ y ∈ scope.names, y.2 ≠ .cell
  locs : ∀ y ∈ scope.names, y.2 = .local → scope.names.lookup y.1 = some .local
  free : ∀ y ∈ scope.names, y.2 = .free → X.env.kindOf y.1 = some .cell ∨ X.env.kindOf y.1 = some .free
  len : js.length = N.length
  js : ∀ (i j : Nat) (x : Str), js[i]? = some (some j) → N[i]? = some x → X.N[j]? = some x ∧ scope.names.lookup x = some .free
noncomputable def innerSt (js : List (Option Nat)) (σ : St) : St := js.map fun j => (j.bind fun j => σ[j]?).join
section
variable {X : Cx} {pins : List (Addr × Obj)} {σ : St} {H : Hp} {s : Shared} {N : List Str} {js : List (Option Nat)} {scope : Scope} {fp : List Addr} {C D : Addr} {h₁ : Heap} {m : Str → Option Value} {tk : Nat}
theorem lookup_mem {α β : Type} [BEq α] [LawfulBEq α] {x : α} {y : β} : ∀ {l : List (α × β)}, l.lookup x = some y → (x, y) ∈ l
  | [], h => by simp at h
  | (a, b) :: r, h => by
    rw [List.lookup_cons] at h
    split at h
    · rename_i hx
      cases h
      rw [eq_of_beq hx]; exact List.mem_cons_self
    · exact List.mem_cons_of_mem _ (lookup_mem h)
theorem inv_comp (S : CompScope X N js scope) (I : Inv X pins σ H s) (f2 : ∀ b ∈ fp, FpOk X pins H b) (hfp : ∀ b ∈ fp, b < s.heap.objs.size) (keep : ∀ b o, s.heap.get? b = some o → h₁.get? b = some o)
    (hD0 : s.heap.objs.size ≤ D) (hC0 : s.heap.objs.size ≤ C) (hDC : D ≠ C) (hD : ∃ n, h₁.get? D = some { cls := .type "list", data := .seq ([] : List Value).toArray n }) (hns : h₁.Ns C m) :
    Inv (compCx X N scope C s H fp) [] (innerSt js σ) (upd H D (.lst [])) { s with heap := h₁, toks := tk } := by
  have hc : ∀ x ∈ scope.names, x.2 = .free → ∃ c, X.env.cells.lookup x.1 = some c := fun x hx e => I.ok.has _ (S.free x hx e)
  have sub : ∀ x c, (clos X.env.cells scope.names []).lookup x = some c → X.env.cells.lookup x = some c := fun x c e => clos_sub _ _ (fun _ _ z => by simp at z) e
  have clt : ∀ x c, X.env.cells.lookup x = some c → c < s.heap.objs.size := fun x c e => by obtain ⟨v, q⟩ := I.cell x c e; exact q.lt
  have hasF : ∀ x, (x, NameKind.free) ∈ scope.names → ∃ c, (clos X.env.cells scope.names []).lookup x = some c := fun x hx => clos_has _ _ hx (hc (x, .free) hx rfl)
  have fD : H D = none := I.hok.fresh hD0
  have fC : H C = none := I.hok.fresh hC0
  refine ⟨⟨I.ok.mod, S.kind, I.ok.glob, I.ok.blt, hC0, fun x y c h1 h2 => I.ok.inj x y c (sub _ _ h1) (sub _ _ h2), fun x hx => ?_, fun x c h _ => (Bool.noConfusion h), I.ok.hd, I.ok.frames, .inl rfl, fun b hb => ⟨?_, fun x c e => (f2 b hb).2.2.2.2.1 x c (sub _ _ e)⟩, I.bs,
      Nat.le_trans I.ok.bsz I.sz, fun b o e hb => ?_, fun b hb z => ?_, I.stack, I.stkFree⟩,
    rfl, I.bare, Un.laid keep hD0 fD, ⟨m, hns, fun i x v h1 h2 h3 => ?_⟩, fun x c e => ?_, ?_, fun x c e => ?_, fun p hp => absurd hp (by simp [compCx]), I.hok.laid keep hD0 ?_, ?_⟩
  · exact hasF x (relabel_back S.nocell hx)
  · exact Nat.ne_of_lt (Nat.lt_of_lt_of_le (hfp b hb) hC0)
  · rcases (f2 b hb).2.2.2.1 with q | q
    · exact I.ok.noex b o e q
    · exact absurd (Nat.lt_of_lt_of_le (Heap.lt_size e) (Nat.le_trans I.ok.bsz q)) (Nat.lt_irrefl _)
  · rcases List.mem_cons.mp (I.stkSub b z) with q | q
    · exact (f2 b hb).2.1 q
    · exact (f2 b hb).2.2.1 q
  · have h2' : (js[i]?.map fun j => (j.bind fun j => σ[j]?).join) = some (some v) := by rw [← List.getElem?_map]; exact h2
    cases ej : js[i]? with
    | none => rw [ej] at h2'; cases h2'
    | some j =>
      rw [ej] at h2'
      cases j with
      | none => simp at h2'
      | some j =>
        have e2 : σ[j]? = some (some v) := by
          simp only [Option.map_some, Option.bind_some, Option.some.injEq] at h2'
          cases q : σ[j]? with
          | none => rw [q] at h2'; simp at h2'
          | some z => rw [q] at h2'; simp at h2'; rw [h2']
        obtain ⟨n1, n2⟩ := S.js i j x ej h1
        have hx := lookup_mem n2
        have hk := S.free _ hx rfl
        obtain ⟨m0, _, hl⟩ := I.loc
        obtain ⟨u, r, l⟩ := hl j x v n1 e2 (hk.elim (fun z => .inr (.inl z)) fun z => .inr (.inr z))
        refine ⟨u, r, ?_⟩
        rcases l with ⟨k, _⟩ | ⟨_, c, e, z⟩
        · have k' : X.env.kindOf x = some .local := k
          rcases hk with q | q <;> (rw [show X.env.kindOf x = _ from q] at k'; cases k')
        · obtain ⟨c', e'⟩ := hasF x hx
          have := sub _ _ e'
          rw [e] at this; cases this
          exact .inr ⟨relabel_free n2, c, e', z.keeps keep⟩
  · obtain ⟨v, q⟩ := I.cell x c (sub _ _ e)
    exact ⟨v, q.keeps keep⟩
  · show upd H D _ C = none
    rw [upd_ne (Ne.symm hDC)]; exact fC
  · show upd H D _ c = none
    have hlt := clt x c (sub _ _ e)
    rw [upd_ne (Nat.ne_of_lt (Nat.lt_of_lt_of_le hlt hD0))]
    exact I.freeC x c (sub _ _ e)
  · obtain ⟨n, hD⟩ := hD
    exact ⟨Nat.zero_le _, [], n, .nil, hD⟩
  · show (innerSt js σ).length = N.length
    unfold innerSt
    rw [List.length_map, S.len]
end
noncomputable def PIfs (X : Cx) (ifs : List Expr) (t : TT) : Prop :=
  ∀ (pins : List (Addr × Obj)) (s : Shared) (σ : St) (H : Hp) (Q : Bool → Hp → Prop), Inv X pins σ H s → t σ H Q →
    wpAny (model X.prog X.w) X.A (forIn ifs true fun c r => if r = true then do let ok ← isTrue c X.env (eval c X.env); pure (ForInStep.yield ok) else pure (ForInStep.yield r)) (TP X pins σ Q) X.xe s
noncomputable def tTrue : TT := fun _ H Q => Q true H
theorem pif_nil {X : Cx} : PIfs X [] tTrue := fun _ _ _ H _ I h => wpAny_tests_nil ⟨H, I, h⟩
theorem pif_one {X : Cx} {c : Expr} {t : TT} (h : PT X c t) : PIfs X [c] t := fun pins s σ H Q I hw => wpAny_tests_one (h pins s σ H Q I hw)
theorem compLoop_gen {prog : Program} {w : World} {A : Around} {R : Result → Shared → Prop} {s : Shared} {elt target iter : Expr} {ifs : List Expr} {scope : Scope} {pos : Pos} {it acc : Value} {env : Env} (I : Nat → Shared → Prop)
    (turn : ∀ n s, I n s → wpAny (model prog w) A (pyNext it) (fun r s₁ => match r with
      | none => R (.ok .next) s₁
      | some v => wpAny (model prog w) A (letOwnedTupleGo target it v) (fun _ s₁' => wpAny (model prog w) A (assign target env v) (fun _ s₂ =>
          wpAny (model prog w) A (forIn ifs true fun c r => if r = true then do let ok ← isTrue c env (eval c env); pure (ForInStep.yield ok) else pure (ForInStep.yield r)) (fun ok s₃ =>
            if ok = true then wpAny (model prog w) A (eval elt env) (fun x s₄ =>
              wpAny (model prog w) A (call (.builtin "list.append") [acc, x]) (fun _ s₅ => ∃ m, m < n ∧ I m s₅) (fun _ _ => False) s₄) (fun _ _ => False) s₃
            else ∃ m, m < n ∧ I m s₃) (fun _ _ => False) s₂) (fun _ _ => False) s₁') (fun _ _ => False) s₁) (fun _ _ => False) s)
    (n : Nat) (h : I n s) :
    codeAny (model prog w) A (.compLoop (.ListComp elt [⟨target, iter, ifs, 0⟩] scope pos) 0 it acc env) R s := by
  refine codeAny_loop rfl I (fun n s hI => ?_) n h
  show wpAny _ A ((compTurn (.ListComp elt [⟨target, iter, ifs, 0⟩] scope pos) 0 it acc env).onRaise (fun x => do noteFrame x env; theTreesLotGoes x)) _ _ s
  refine wpAny_noted ?_
  rw [compTurn_list]
  refine wpAny_bind (wpAny_standAt (wpAny_bind (wpAny_mono (turn n s hI) (fun r s₁ h₁ => ?_) fun _ _ h' => h'.elim)))
  cases r with
  | none => exact wpAny_pure h₁
  | some v =>
    refine wpAny_bind (wpAny_mono h₁ (fun _ s₁' h₁' => ?_) fun _ _ h' => h'.elim)
    refine wpAny_bind (wpAny_mono h₁' (fun _ s₂ h₂ => wpAny_bind (wpAny_mono h₂ (fun ok s₃ h₃ => ?_) fun _ _ h' => h'.elim)) fun _ _ h' => h'.elim)
    cases ok with
    | false => exact wpAny_pure ⟨rfl, h₃⟩
    | true =>
      exact wpAny_bind (wpAny_bind (wpAny_mono h₃ (fun x s₄ h₄ => wpAny_bind (wpAny_mono h₄ (fun _ s₅ h₅ => wpAny_pure (wpAny_pure ⟨rfl, h₅⟩)) fun _ _ h' => h'.elim)) fun _ _ h' => h'.elim))
noncomputable def tComp (js : List (Option Nat)) (wi : TI) (g : TG) (tc : TT) (te : TE) : TE := fun σ H Q =>
  wi σ H fun J H1 => ∀ D, H1 D = none → ∃ W : Nat → Nat → St → Hp → Prop, (∃ m, W 0 m (innerSt js σ) (upd H1 D (.lst []))) ∧
    ∀ i m σ' H', W i m σ' H' → (J.stop i H' ∧ Q (.ref D) H') ∨ (J.go i H' ∧ ∀ x H2, J.yld i H' x H2 → g x σ' H2 fun σ2 H3 => tc σ2 H3 fun b H4 =>
      if b = true then te σ2 H4 fun v H5 => rAppend (.ref D) [v] H5 fun _ H6 => ∃ m', m' < m ∧ W (i + 1) m' σ2 H6 else ∃ m', m' < m ∧ W (i + 1) m' σ2 H4)
theorem pe_comp {X : Cx} {elt tg iter : Expr} {ifs : List Expr} {scope : Scope} {pos : Pos} {N : List Str} {js : List (Option Nat)} {wi : TI} {g : TG} {tc : TT} {te : TE} (hcalm : X.calm = true) (S : CompScope X N js scope)
    (hi : PI X tg iter wi) (hg : ∀ C s H fp, PG (compCx X N scope C s H fp) tg g) (ht : ∀ C s H fp, PIfs (compCx X N scope C s H fp) ifs tc) (he : ∀ C s H fp, PE (compCx X N scope C s H fp) elt te)
    (hs : ∀ x, foldedSetIterable iter X.env x = pure x := by intro _; rfl) : PE X (.ListComp elt [⟨tg, iter, ifs, 0⟩] scope pos) (tComp js wi g tc te) := by
  intro pins s σ H Q I h
  have hc : ∀ x ∈ scope.names, x.2 = .free → ∃ c, X.env.cells.lookup x.1 = some c := fun x hx e => I.ok.has _ (S.free x hx e)
  rw [eval_ListComp]
  refine wpAny_comprehension_free (use := none) rfl hs (clos_eq hc) S.kind S.locs (thn (hi pins s σ H _ I h) fun v s1 h1 => thn h1 fun itv s2 h2 => ?_)
  obtain ⟨it, fp, tn, J, H2, e, I2, T, st2, f2, q⟩ := h2
  subst e
  refine wpAny_newObj_type (wpAny_newFunctionEnv S.nocell (by intro y hy; simp at hy) (fun h₁ hns₁ hsb₁ => ?_) S.kind)
  dsimp only at hns₁ hsb₁ ⊢
  generalize hH2 : s2.heap.push { cls := .type "list", dict := none, data := .seq ([] : List Value).toArray } = G2 at hns₁ hsb₁ ⊢
  have hC : G2.objs.size = s2.heap.objs.size + 1 := by rw [← hH2, Heap.size_push]
  have hDC : s2.heap.objs.size ≠ G2.objs.size := by rw [hC]; exact Nat.ne_of_lt (Nat.lt_succ_self _)
  have hC0 : s2.heap.objs.size ≤ G2.objs.size := by rw [hC]; exact Nat.le_succ _
  have below : ∀ b, b < s2.heap.objs.size → b ≠ G2.objs.size := fun b hb => by rw [hC]; exact Nat.ne_of_lt (Nat.lt_succ_of_lt hb)
  have old : ∀ b o, s2.heap.get? b = some o → h₁.get? b = some o := fun b o e => hsb₁.extBut b o (below b (Heap.lt_size e)) (Heap.get?_push_of_some _ (hH2 ▸ Heap.get?_push_of_some _ e))
  have hacc : h₁.get? s2.heap.objs.size = some { cls := .type "list", data := .seq ([] : List Value).toArray } := hsb₁.extBut _ _ hDC (Heap.get?_push_of_some _ (hH2 ▸ Heap.get?_push_size _ rfl))
  have hfp : ∀ b ∈ fp, b < s2.heap.objs.size := fun b hb => by obtain ⟨o, e, _⟩ := T.obj 0 _ st2 b hb; exact Heap.lt_size e
  obtain ⟨W, ⟨m0, w0⟩, turn⟩ := q s2.heap.objs.size (I2.hok.fresh (Nat.le_refl _))
  have stat : ∀ {H' : Hp}, (∀ b ∈ fp, H' b = none) → ∀ b ∈ fp, FpOk (compCx X N scope G2.objs.size s2 H2 fp) [] H' b := fun {H'} hn b hb =>
    ⟨hn b hb, below b (hfp b hb), fun z => by
      rcases List.mem_cons.mp (I2.stkSub b z) with q | q
      · exact (f2 b hb).2.1 q
      · exact (f2 b hb).2.2.1 q, .inl hb, fun x c e => (f2 b hb).2.2.2.2.1 x c (clos_sub _ _ (fun _ _ z => by simp at z) e), fun p hp => absurd hp (by simp [compCx])⟩
  have loop : ∀ s3 : Shared, s3 = { s2 with heap := h₁, toks := s2.toks + ([] : List (Str × Value)).length } →
      codeAny (model X.prog X.w) X.A (.compLoop (.ListComp elt [⟨tg, iter, ifs, 0⟩] scope pos) 0 (.ref it) (.ref s2.heap.objs.size) (compEnvC scope (clos X.env.cells scope.names []) G2.objs.size X.env))
        (compPost (model X.prog X.w) X.A X.xe none (EP X pins σ Q) (.ref s2.heap.objs.size) G2.objs.size) s3 := by
    rintro s3 rfl
    have I3 : Inv (compCx X N scope G2.objs.size s2 H2 fp) [] (innerSt js σ) (upd H2 s2.heap.objs.size (.lst [])) { s2 with heap := h₁, toks := s2.toks + ([] : List (Str × Value)).length } :=
      inv_comp S I2 f2 hfp old (Nat.le_refl _) hC0 hDC ⟨_, hacc⟩ hns₁
    refine compLoop_gen (fun n s' => ∃ i σ' H', Inv (compCx X N scope G2.objs.size s2 H2 fp) [] σ' H' s' ∧ tn i s'.heap ∧ (∀ b ∈ fp, H' b = none) ∧ W i n σ' H') ?_ m0
      ⟨0, _, _, I3, T.keep 0 _ _ st2 fun b _ o e => old b o e, fun b hb => by rw [upd_ne (Nat.ne_of_lt (hfp b hb))]; exact (f2 b hb).1, w0⟩
    rintro n s4 ⟨i, σ4, H4, I4, st4, fr4, w4⟩
    rcases turn i n σ4 H4 w4 with ⟨stop, qn⟩ | ⟨go, step⟩
    · refine thn (T.done (compCx X N scope G2.objs.size s2 H2 fp) rfl rfl rfl hcalm i [] s4 σ4 H4 (fun _ _ => False) I4 (stat fr4) st4 stop) fun r s5 ⟨hr, I5⟩ => ?_
      subst hr
      obtain ⟨m5, n5, _⟩ := I5.loc
      refine ⟨m5, n5, fun h' sb => ?_⟩
      have hos : s5.os = s2.os := I5.os
      obtain ⟨hh, gg, dd, tt, os5⟩ := s5
      obtain rfl : os5 = s2.os := hos
      have un : Un (frs X.stack) fp H2 H4 s2.heap h' := by
        have u := I5.base
        have nC : ∀ b o, s2.heap.get? b = some o → b ≠ G2.objs.size := fun b o e => below b (Heap.lt_size e)
        exact ⟨fun b o e n hf hx => sb.extBut b o (nC b o e) (u.keep b o e n hf hx), fun b o e n hf hx => by
            obtain ⟨sl, z⟩ := u.slot b o e n hf hx
            exact ⟨sl, sb.extBut b _ (nC b o e) z⟩, u.free, fun b o e hx => by
            obtain ⟨o', z⟩ := u.there b o e hx
            exact ⟨o', sb.extBut b _ (nC b o e) z⟩, u.tups, u.frzs, u.tbls⟩
      have hok : HOk X.prog X.w H4 h' := fun b ob e => (I5.hok b ob e).stay (fun c v hcv z => sb.extBut c v (fun q => by
        rcases hcv with hcv | hcv
        · rw [← hcv, q] at e
          have := I5.free
          have this' : H4 G2.objs.size = none := this
          rw [e] at this'; cases this'
        · rw [q] at hcv
          have this' : H4 G2.objs.size = none := I5.free
          rw [hcv] at this'; cases this') z) (fun _ z => z) fun _ _ z => z
      have IE := I2.call (h' := h') (g' := gg) (d' := dd) (t' := tt) (ch := fp) un hok I5.bare fun b hb => ⟨(f2 b hb).2.2.2.1, (f2 b hb).2.1, (f2 b hb).2.2.2.2.1, (f2 b hb).2.2.2.2.2⟩
      exact ⟨.ref s2.heap.objs.size, H4, IE, rfl, qn⟩
    · refine thn (T.item (compCx X N scope G2.objs.size s2 H2 fp) rfl rfl rfl hcalm i [] s4 σ4 H4 (fun _ _ => False) I4 (stat fr4) st4 go) fun r s5 ⟨u, hr, h5⟩ => ?_
      subst hr
      refine thn h5 fun _ s6 ⟨x, H6, I6, r6, y6, st6, fr6⟩ => ?_
      have I6' := I6.pinned (stat fr6) (T.obj _ _ st6)
      refine thn (hg _ _ _ _ _ s6 σ4 H6 x u _ I6' r6 (step x H6 y6)) fun _ s7 ⟨σ7, H7, I7, q7⟩ => ?_
      refine thn (ht _ _ _ _ _ s7 σ7 H7 _ I7 q7) fun b s8 ⟨H8, I8, q8⟩ => ?_
      have again : ∀ {s9 : Shared} {H9 : Hp}, Inv (compCx X N scope G2.objs.size s2 H2 fp) ([] ++ pinsAt fp s6.heap) σ7 H9 s9 → (∃ m', m' < n ∧ W (i + 1) m' σ7 H9) → ∃ m, m < n ∧ ∃ i σ' H', Inv (compCx X N scope G2.objs.size s2 H2 fp) [] σ' H' s9 ∧ tn i s9.heap ∧ (∀ b ∈ fp, H' b = none) ∧ W i m σ' H' := fun {s9 H9} I9 ⟨m', hm, w9⟩ => by
        refine ⟨m', hm, i + 1, σ7, H9, I9.unpinned, T.keep _ _ _ st6 fun b hb o e => (I9.pin (b, o) (List.mem_append_right _ (List.mem_append_right _ (mem_pinsAt hb e)))).1, fun b hb => ?_, w9⟩
        obtain ⟨o, e, d⟩ := T.obj _ _ st6 b hb
        exact (I9.pin (b, o) (List.mem_append_right _ (List.mem_append_right _ (mem_pinsAt hb e)))).2.1
      cases b with
      | false =>
        rw [if_neg Bool.false_ne_true] at q8 ⊢
        exact again I8 q8
      | true =>
        rw [if_pos rfl] at q8 ⊢
        refine thn (he _ _ _ _ _ s8 σ7 H8 _ I8 q8) fun xv s9 ⟨xx, H9, I9, r9, q9⟩ => ?_
        refine thn (mt_append _ s9 σ7 H9 (.ref s2.heap.objs.size) [xx] (.ref s2.heap.objs.size) [xv] _ I9 rfl (.cons r9 .nil) q9) fun _ s10 ⟨_, H10, I10, _, q10⟩ => ?_
        exact again I10 q10
  exact codeAny_compStart_list (loop _ rfl) (T.self _ _ _ _ _ (T.keep 0 _ _ st2 fun b _ o e => old b o e) (loop _ rfl))
end L2
set_option Elab.async false
set_option linter.all false
set_option maxRecDepth 100000
namespace L2
open PySem PySem.Spec PyProof.Rows
theorem ObjOk.obj {P : Program} {w : World} {H : Hp} {h : Heap} {a : Addr} {o : HO} (x : ObjOk P w H h a o) : ∃ ob, h.get? a = some ob := by
  cases o with
  | lst xs => obtain ⟨_, _, _, _, e⟩ := x; exact ⟨_, e⟩
  | tup xs => obtain ⟨_, _, _, o, e, _⟩ := x; exact ⟨_, e⟩
  | dK kvs => obtain ⟨_, _, _, _, o, _, _, e, _⟩ := x; exact ⟨_, e⟩
  | dT kvs => obtain ⟨_, _, _, _, o, _, _, e, _⟩ := x; exact ⟨_, e⟩
  | set S n => obtain ⟨o, _, _, _, e, _⟩ := x; exact ⟨_, e⟩
  | ins C dx fs => obtain ⟨_, _, _, e, _⟩ := x; exact ⟨_, e⟩
  | own y => exact x
  | xd fs => obtain ⟨_, ⟨_, _, _, e, _⟩, _⟩ := x; exact ⟨_, e⟩
  | rng lo hi => obtain ⟨_, _, _, e⟩ := x; exact ⟨_, e⟩
  | frz ob u => obtain ⟨e, _⟩ := x; exact ⟨_, e⟩
  | tbl ps => exact ⟨_, (show h.get? a = some _ from x)⟩
  | met f y => exact ⟨_, (show h.get? a = some _ from x)⟩
  | ext φ => obtain ⟨_, e, _⟩ := x; exact e
noncomputable def CXW (P : Program) (w : World) : CXT := fun outer H s E e s' => ∃ (a : Addr) (cls a0 : Value) (H' : Hp) (B : Heap), e = .ref a ∧ s'.os = s.os ∧ AllBare s'.gens ∧ Un (frs outer) [] H H' s.heap s'.heap ∧ HOk P w H' B ∧
  Heap.FlyingW B outer a cls a0 s'.heap ∧ (∀ b o, s.heap.get? b = some o → H b = none → b ∉ frs outer → B.get? b = some o) ∧ (∀ b o, s.heap.get? b = some o → b ∉ frs outer → ∃ o', B.get? b = some o') ∧ E cls none H'
theorem passN {P : Program} {w : World} {X : Cx} : Passes (CXW P w) X E0 := fun _ _ _ _ _ _ _ h => by
  obtain ⟨_, _, _, _, _, _, _, _, _, _, _, _, _, hE⟩ := h
  exact hE.elim
theorem mem_frs {env : Env} {L b : Addr} {outer : List Env} (hf : env.frame = some L) : b ∈ frs (env :: outer) ↔ b = L ∨ b ∈ frs outer := by
  unfold frs
  rw [List.filterMap_cons, hf]
  exact List.mem_cons
section
variable {P : Program} {w : World} {K : PySem.W.Frag} {mg : Str → Option Value} {base : Heap} {N : List Str} {qual : Str} {scope : Scope} {f : Addr} {cd : Value} {A : Around} {outer : List Env} {s : Shared} {H : Hp} {E : XK}
  {pins : List (Addr × Obj)} {σ : St} {H1 : Hp} {s1 : Shared}
theorem cxw_out (I : Inv (cxOf (CXW P w) P w K mg base N qual scope f cd A outer s H E) pins σ H1 s1) {a : Addr} {cls a0 : Value} {H' : Hp} {B : Heap} {s2 : Shared}
    (hos : s2.os = s1.os) (hb : AllBare s2.gens) (hokB : HOk P w H' B) (hfl : Heap.FlyingW B outer a cls a0 s2.heap)
    (keepB : ∀ b o, s1.heap.get? b = some o → H1 b = none → b ∉ frs (envOfC qual scope s.heap.objs.size f cd :: outer) → B.get? b = some o)
    (thereB : ∀ b o, s1.heap.get? b = some o → b ∉ frs (envOfC qual scope s.heap.objs.size f cd :: outer) → ∃ o', B.get? b = some o')
    (up : ∀ b o, s1.heap.get? b = some o → (∀ vs, o.data ≠ .fields vs) → b ∈ frs outer → H1 b = none → ∃ sl, s2.heap.get? b = some { o with slots := sl })
    (free1 : ∀ b o, s1.heap.get? b = some o → H1 b = none → H' b = none)
    (tups : ∀ b xs, H1 b = some (.tup xs) → H' b = some (.tup xs)) (frzs : ∀ b o u, H1 b = some (.frz o u) → H' b = some (.frz o u)) (tbls : ∀ b ps, H1 b = some (.tbl ps) → ∃ more, H' b = some (.tbl (ps ++ more)))
    (hE : E cls none H') : CXW P w outer H s E (.ref a) s2 := by
  have u := I.base
  have notL : ∀ b o, s.heap.get? b = some o → b ∉ frs outer → b ∉ frs (envOfC qual scope s.heap.objs.size f cd :: outer) := fun b o e nf z => by
    rcases (mem_frs (env := envOfC qual scope s.heap.objs.size f cd) rfl).mp z with q | q
    · rw [q] at e; exact absurd (Heap.lt_size e) (Nat.lt_irrefl _)
    · exact nf q
  have inB : ∀ b o, s.heap.get? b = some o → H b = none → b ∉ frs outer → B.get? b = some o := fun b o e n nf =>
    keepB b o (u.keep b o e n nf (by simp [cxOf])) (u.free b o e n (by simp [cxOf])) (notL b o e nf)
  have thB : ∀ b o, s.heap.get? b = some o → b ∉ frs outer → ∃ o', B.get? b = some o' := fun b o e nf => by
    obtain ⟨o1, e1⟩ := u.there b o e (by simp [cxOf])
    exact thereB b o1 e1 (notL b o e nf)
  have sl : ∀ b o, s.heap.get? b = some o → H b = none → b ∈ frs outer → ∃ sl, s2.heap.get? b = some { o with slots := sl } := fun b o e n hb => by
    obtain ⟨sl1, e1⟩ := u.slot b o e n hb (by simp [cxOf])
    obtain ⟨_, o', e', nf⟩ := I.ok.funs.mem hb
    have e'' : s.heap.get? b = some o' := e'
    rw [e] at e''; cases e''
    obtain ⟨sl2, e2⟩ := up b _ e1 nf hb (u.free b o e n (by simp [cxOf]))
    exact ⟨sl2, e2⟩
  refine ⟨a, cls, a0, H', B, rfl, hos.trans I.os, hb, ⟨fun b o e n nf _ => hfl.1 b o (inB b o e n nf), fun b o e n hb _ => sl b o e n hb, fun b o e n _ => ?_, fun b o e _ => ?_, fun b xs e => tups b xs (u.tups b xs e), fun b o x e => frzs b o x (u.frzs b o x e), fun b ps e => ?_⟩, hokB, hfl, inB, thB, hE⟩
  · obtain ⟨o1, e1⟩ := u.there b o e (by simp [cxOf])
    exact free1 b o1 e1 (u.free b o e n (by simp [cxOf]))
  · by_cases hb : b ∈ frs outer
    · obtain ⟨sl, q⟩ := sl b o e (I.ok.frf b hb) hb
      exact ⟨_, q⟩
    · obtain ⟨o', q⟩ := thB b o e hb
      exact ⟨o', hfl.1 b o' q⟩
  · obtain ⟨m1, e1⟩ := u.tbls b ps e
    obtain ⟨m2, e2⟩ := tbls b _ e1
    exact ⟨m1 ++ m2, by rw [e2, Array.append_assoc]⟩
theorem passW : Passes (CXW P w) (cxOf (CXW P w) P w K mg base N qual scope f cd A outer s H E) E := by
  intro pins σ H1 s1 e s' I hx
  obtain ⟨a, cls, a0, H', B, rfl, hos, hb, un, hokB, hfl, keepB, thereB, hE⟩ := hx
  show wpAny _ _ (leaving _ (.ref a)) _ _ s'
  refine wpAny_leaves_onW (L := s.heap.objs.size) I.ok.frames rfl hfl fun h'' hfl' hup => ?_
  refine cxw_out I (s2 := { s' with heap := h'' }) hos hb hokB hfl' keepB thereB (fun b o e nf hb n => ?_) (fun b o e n => un.free b o e n (by simp)) un.tups un.frzs un.tbls hE
  obtain ⟨sl, e1⟩ := un.slot b o e n ((mem_frs (env := envOfC qual scope s.heap.objs.size f cd) rfl).mpr (.inr hb)) (by simp)
  obtain ⟨sl2, e2⟩ := hup b _ e1 nf
  exact ⟨sl2, e2⟩
theorem madeW (I : Inv (cxOf (CXW P w) P w K mg base N qual scope f cd A outer s H E) pins σ H1 s1) {h' : Heap} {a : Addr} {cls : Value} {vs : List Value} (hx : Heap.MadeExcOf s1.heap h' a cls vs) (hE : E cls none H1) :
    (cxOf (CXW P w) P w K mg base N qual scope f cd A outer s H E).xe (.ref a) { s1 with heap := h' } := by
  have hin : ∀ env ∈ (envOfC qual scope s.heap.objs.size f cd :: outer), ∀ b, env.frame = some b → b ∈ frs (envOfC qual scope s.heap.objs.size f cd :: outer) := fun env he b hb => List.mem_filterMap.mpr ⟨env, he, hb⟩
  have stk : s1.heap.FunFrames base (envOfC qual scope s.heap.objs.size f cd :: outer) := I.stack
  have fr0 : ∀ b, b ∈ frs (envOfC qual scope s.heap.objs.size f cd :: outer) → H1 b = none := I.stkFree
  show wpAny _ _ (leaving _ (.ref a)) _ _ _
  refine wpAny_leaves_madeW (base := PySem.W.hideAll s1.heap (frs (envOfC qual scope s.heap.objs.size f cd :: outer))) (h := s1.heap) (L := s.heap.objs.size) (s := { s1 with heap := h' }) I.ok.frames rfl (fun b o q => PySem.W.of_hideAll _ q) (PySem.W.funFrames_hide stk hin) hx fun h'' t x1 x2 x3 x4 => ?_
  have hg : ∀ b o, s1.heap.get? b = some o → b ∉ frs (envOfC qual scope s.heap.objs.size f cd :: outer) → (PySem.W.hideAll s1.heap (frs (envOfC qual scope s.heap.objs.size f cd :: outer))).get? b = some o := fun b o e nf => PySem.W.hideAll_get _ e nf
  refine cxw_out I (s2 := { s1 with heap := h'' }) (H' := H1) rfl I.bare (fun b ob e => (I.hok b ob e).stay (fun c v hcv z => hg c v z fun q => ?_) (fun _ z => z) fun _ _ z => z) x1 (fun b o e _ nf => hg b o e nf) (fun b o e nf => ⟨o, hg b o e nf⟩) (fun b o e nf hb n => ?_) (fun _ _ _ n => n) (fun _ _ e => e) (fun _ _ _ e => e) (fun b ps e => ⟨#[], by rw [e]; simp⟩) hE
  · have z := fr0 c q
    rcases hcv with r | r
    · rw [← r, z] at e; cases e
    · rw [z] at r; cases r
  · exact x4 b o (hx.keeps b o e) nf
theorem pown : PassesOwn (model (cxOf (CXW P w) P w K mg base N qual scope f cd A outer s H E).prog (cxOf (CXW P w) P w K mg base N qual scope f cd A outer s H E).w) (cxOf (CXW P w) P w K mg base N qual scope f cd A outer s H E).A
    (cxOf (CXW P w) P w K mg base N qual scope f cd A outer s H E).env (cxOf (CXW P w) P w K mg base N qual scope f cd A outer s H E).xe := PassesOwn.leaving
end
theorem exc_obj {K : PySem.W.Frag} {h : Heap} {C : Addr} {bmB : List Value} {newId : String} (X : K.In h) (q : PySem.W.excIn K C bmB newId = true) :
    ∃ bm N nm qn bs hdct sn sub ab col dd k0 k1 k2 k3 k5 mN, h.get? C = some (excClassObj nm qn C N bs bm hdct sn sub ab col dd k0 k1 k2 k3 k5 newId) ∧ h.Ns N mN ∧ mN "__init__" = none ∧ OwnTail h bmB bm := by
  unfold PySem.W.excIn at q
  split at q
  · rename_i dd cd sl ho
    split at q
    · rename_i C' bm k0 k1 k2 k3 n k5 hm hs
      simp only [Bool.and_eq_true, beq_iff_eq, Bool.not_eq_true'] at q
      obtain ⟨⟨⟨⟨⟨rfl, rfl⟩, hdel⟩, ht⟩, hok⟩, hni⟩ := q
      obtain ⟨nm, bs, mro, ns, qn, hd, sn, sub, ab, col, del⟩ := cd
      dsimp only at hm hdel hok hni
      subst hm hdel
      have hsl : sl = #[k0, k1, k2, k3, some (.builtin n), k5] := by
        obtain ⟨l⟩ := sl
        simp only at hs
        rw [hs]
      subst hsl
      exact ⟨bm, ns, nm, qn, bs, hd, sn, sub, ab, col, dd, k0, k1, k2, k3, k5, _, X _ _ ho, .of_isNs (PySem.W.isNs_of_in X hok), PySem.W.nsMap_none_of_in X hok hni, PySem.W.tail_of_in X ht⟩
    · cases q
  · cases q
noncomputable def tRaise (E : XK) (C : Addr) : TS := fun _ _ H => E (.ref C) none H
theorem ps_raise {P : Program} {w : World} {K : PySem.W.Frag} {mg : Str → Option Value} {base : Heap} {N : List Str} {qual : Str} {scope : Scope} {f : Addr} {cd : Value} {A : Around} {outer : List Env} {s : Shared} {H : Hp} {E : XK}
    {x msg : Str} {C : Addr} {B newId initId : String} {bmB : List Value} {np cpos pos p3 : Pos} {j : Nat} (FB : ExcBaseFacts B newId initId bmB) (q : PySem.W.excIn K C bmB newId = true)
    (hm : mg x = some (.ref C)) (hg : Gl (cxOf (CXW P w) P w K mg base N qual scope f cd A outer s H E) x) (hd : (x == ("__debug__" : Str)) = false := by decide) :
    PS (cxOf (CXW P w) P w K mg base N qual scope f cd A outer s H E) (.Raise (some (.Call (.Name x np) [.Constant (.str msg) j p3] [] cpos)) none pos) (tRaise E C) := by
  intro pins s1 σ H1 D I h
  obtain ⟨bm, Nn, nm, qn, bs, hdct, sn, sub, ab, col, dd, k0, k1, k2, k3, k5, mN, hC, hN, hni, T⟩ := exc_obj I.ok.mod.kin q
  refine wpAny_Raise_call_subT (C := C) (nm := nm) (q := qn) (N := Nn) (bs := bs) (bm := bm) (hdct := hdct) (sn := sn) (sub := sub) (ab := ab) (col := col) (dd := dd) (k0 := k0) (k1 := k1) (k2 := k2) (k3 := k3) (k5 := k5)
    FB (mN := mN) (T.hasType FB.hasBase) (I.ok.hd rfl) rfl hni (ld_glob I hg hm ⟨rfl, ?_⟩ hd)
  have ha : PA (cxOf (CXW P w) P w K mg base N qual scope f cd A outer s H E) [.Constant (.str msg) j p3] (tCons (tC (.str msg)) tNil) := pa_cons pe_str pa_nil
  have hw := ha cpos pins s1 σ H1 (fun vs H2 => vs.length = 1 ∧ H2 = H1) I ⟨rfl, rfl⟩
  refine Calls.evalArgs_plain (thn hw fun us s2 ⟨vs, H2, I2, r, hl, e2⟩ => ?_)
  subst e2
  refine ⟨rfl, ?_, I2.bk _ _ hC, hN.keeps I2.bk, T.keeps I2.bk, fun h' e hx => madeW I2 hx h⟩
  show us.length ≤ sizeLine
  rw [← r.length, hl]; decide
section
variable {P : Program} {w : World} {K : PySem.W.Frag} {mg : Str → Option Value} {base : Heap}
theorem Fun.okX {x qual : Str} {st : Stmt} {f : Addr} {fd : FuncData} {N ps : List Str} {k : Nat} {sp : Sp} (F : Fun K x qual st f fd) (S : FnScope N ps (defScope st)) (len : ∀ vs H Q E, sp vs H Q E → vs.length = ps.length)
    (hbody : ∀ (cdv : Value) (A : Around) (outer : List Env) (s : Shared) (H : Hp) (vs : List V) (Q : VK) (E : XK), Room k (A.deeper (envOfC qual (defScope st) s.heap.objs.size f cdv)) → sp vs H Q E →
      ∃ t, PSs (cxOf (CXW P w) P w K mg base N qual (defScope st) f cdv A outer s H E) (defBody st) t ∧ t { nx := fun _ H' => Q .non H', rt := Q } (start N vs) H) : FnOk P w K mg base (CXW P w) (k + 1) f fd ps sp := by
  obtain ⟨oc, od, kV, doc, pm, an, cdv, ct, osl, rfl, lk, hcd⟩ := F.ex
  exact fn_of lk hcd S len fun A outer s H vs Q E hr hsp => hbody cdv A outer s H vs Q E hr hsp
theorem Fun.okN {x qual : Str} {st : Stmt} {f : Addr} {fd : FuncData} {N ps : List Str} {k : Nat} {sp : Sp} (F : Fun K x qual st f fd) (S : FnScope N ps (defScope st)) (len : ∀ vs H Q E, sp vs H Q E → vs.length = ps.length)
    (hbody : ∀ (cdv : Value) (A : Around) (outer : List Env) (s : Shared) (H : Hp) (vs : List V) (Q : VK) (E : XK), Room k (A.deeper (envOfC qual (defScope st) s.heap.objs.size f cdv)) → sp vs H Q E →
      ∃ t, PSs (cxOf (CXW P w) P w K mg base N qual (defScope st) f cdv A outer s H E).nox (defBody st) t ∧ t { nx := fun _ H' => Q .non H', rt := Q } (start N vs) H) : FnOk P w K mg base (CXW P w) (k + 1) f fd ps sp :=
  F.okX S len fun cdv A outer s H vs Q E hr hsp => by
    obtain ⟨t, h, q⟩ := hbody cdv A outer s H vs Q E hr hsp
    exact ⟨t, h.nox, q⟩
end
end L2
set_option Elab.async false
set_option linter.all false
set_option maxRecDepth 100000
namespace L2
open PySem PySem.Spec PyProof.Rows PySem.W
structure ExcC (K : Frag) (C : Addr) : Prop where
  ga : findIn K (.ref C) "__getattribute__" = some (some (.builtin "BaseException.__getattribute__"))
  gt : findIn K (.ref C) "__getattr__" = some none
  ca : findIn K (.ref C) "__class__" = some (some (.builtin "object.__class__"))
  ob : mroIn K C (.type "object") = some true
  be : mroIn K C (.type "BaseException") = some true
  ty : typeIn K (.ref C) = some (.type "type")
theorem ExcC.cls {K : Frag} {C : Addr} (T : ExcC K C) : (clsIn K C).isSome = true := by
  have h := T.ob
  unfold mroIn at h
  cases e : clsIn K C with
  | none => rw [e] at h; cases h
  | some cd => rfl
noncomputable def ExcAt (a C : Addr) (h : Heap) : Prop := ∃ o vs, h.get? a = some o ∧ o.cls = .ref C ∧ o.data = .fields vs
section
variable {prog : Program} {w : World} {A : Around} {E : Value → Shared → Prop} {h : Heap} {g : Array GenState} {d : Drawn} {t : Nat} {os : OsState} {a C : Addr} {o : Obj} {K : Frag}
theorem exc_class_get {R : Result → Shared → Prop} (X : K.In h) (T : ExcC K C) (hx : h.get? a = some o) (hc : o.cls = .ref C) (hq : R (.ok (.ret (.ref C))) ⟨h, g, d, t, os⟩) :
    codeAny (model prog w) A (.call (.builtin "getset_descriptor.__get__") ⟨[.builtin "object.__class__", .ref a, .ref C], []⟩) R ⟨h, g, d, t, os⟩ := by
  have hT5 : (⟨h, g, d, t, os⟩ : Shared).TypeIs (.builtin "object.__class__") "getset_descriptor" := F.typeOf_object_class
  have L1 := looks_mroIn (M := model prog w) X T.ob
  refine codeAny_call_builtin F.slot_gs_get.plain F.entry_gs_get (F.slot_gs_get.check _ _ _ _ _ _ _ _ hT5 (F.args_gs_get _ _ _) ?_)
  repeat (any_goals (first | assumption | (with_reducible refine wpAny_loadPart_at hx ?_; rw [hc]) | (rw [F.owner_object_class]; with_reducible refine L1.at ?_) | wp_step))
  refine ⟨Code.quiet_builtin _ (by decide +kernel), codeAny_builtin F.entry_object_class ?_⟩
  repeat (any_goals (first | assumption | (with_reducible refine wpAny_loadPart_at hx ?_; rw [hc]) | wp_step))
theorem exc_class_entry {tk : Tok} {Q : Fin → Shared → Prop} (X : K.In h) (T : ExcC K C) (hx : h.get? a = some o) (hc : o.cls = .ref C) (hq : Q (.done (.ret (.ref C))) ⟨h, g, d, t, os⟩) :
    wpAny (model prog w) A (Builtin.«object.__getattribute__» ⟨[.ref a, .str "__class__" tk], []⟩) Q E ⟨h, g, d, t, os⟩ := by
  have hT5 : (⟨h, g, d, t, os⟩ : Shared).TypeIs (.builtin "object.__class__") "getset_descriptor" := F.typeOf_object_class
  have f5 := F.typeOf_object_class
  have f6 := F.slot_gs_get.lookup
  have f7 := F.slot_gs_set.lookup
  have L1 := looks_findIn (M := model prog w) X T.ca
  repeat (any_goals (first | assumption | (with_reducible refine wpAny_loadPart_at hx ?_; rw [hc]) | with_reducible refine L1.at ?_ | wp_step))
  refine exc_class_get X T hx hc ?_
  repeat (any_goals (first | assumption | wp_step))
theorem exc_check_ga {M : Model} {nameV : Value} {Q : Unit → Shared → Prop} (X : K.In h) (T : ExcC K C) (hx : h.get? a = some o) (hc : o.cls = .ref C) (hq : Q () ⟨h, g, d, t, os⟩) :
    wpAny M A (checkBuiltinCall "BaseException.__getattribute__" ⟨[.ref a, nameV], []⟩) Q E ⟨h, g, d, t, os⟩ := by
  have hk : builtinKind "BaseException.__getattribute__" = some .slot := by decide +kernel
  have hsplit : splitId "BaseException.__getattribute__" = some ("BaseException", "__getattribute__") := by decide +kernel
  have ha := F.args_bexc_ga (.ref a) nameV
  have L1 := looks_mroIn (M := M) X T.be
  simp only [checkBuiltinCall, hk, hsplit]
  refine wpAny_bind ?_
  · unfold isInstance
    repeat (first | (with_reducible refine wpAny_loadPart_at hx ?_; rw [hc]) | with_reducible refine L1.at ?_ | wp_step)
    exact hq
theorem exc_class_by {tk : Tok} {Q : Value → Shared → Prop} (X : K.In h) (T : ExcC K C) (hx : h.get? a = some o) (hc : o.cls = .ref C) (hq : Q (.ref C) ⟨h, g, d, t, os⟩) :
    wpAny (model prog w) A (getAttrBy (.ref a) (.str "__class__" tk) false) Q E ⟨h, g, d, t, os⟩ := by
  have FB := PySem.F.attrBase_ValueError
  have f3 := FB.ga.bind (.ref a)
  have hx0 : (false && onTheHeap (Value.builtin "BaseException.__getattribute__")) = false := rfl
  have hx2 : (Value.builtin "BaseException.__getattribute__" == Value.builtin "object.__getattribute__") = false := by decide +kernel
  have hx1 : (onTheHeap (Value.ref C) && Value.builtin "BaseException.__getattribute__" == Value.builtin "object.__getattribute__") = false := by rw [hx2]; rfl
  have L1 := looks_findIn (M := model prog w) X T.ga
  have L2 := looks_findIn (M := model prog w) X T.gt
  repeat (any_goals (first | assumption | (with_reducible refine wpAny_loadPart_at hx ?_; rw [hc]) | with_reducible refine L1.at ?_ | with_reducible refine L2.at ?_ | wp_step))
  refine codeAny_call_builtin FB.ga.plain F.entry_bexc_ga (exc_check_ga X T hx hc (exc_class_entry X T hx hc ?_))
  repeat (any_goals (first | assumption | wp_step))
theorem exc_class_attr {Q : Option Value → Shared → Prop} (X : K.In h) (T : ExcC K C) (hx : h.get? a = some o) (hc : o.cls = .ref C) (hq : Q (some (.ref C)) ⟨h, g, d, t + 1, os⟩) :
    wpAny (model prog w) A (getAttr? (.ref a) "__class__") Q E ⟨h, g, d, t, os⟩ := by
  unfold getAttr? getAttrBy?
  repeat (any_goals (first | assumption | with_reducible apply exc_class_by X T hx hc | wp_step))
end
theorem kitx_exc {K : Frag} {a C : Addr} (T : ExcC K C) : KitX K (.ref a) (.ref C) (ExcAt a C) where
  ty := fun M h _ p => by
    obtain ⟨o, vs, h1, h2, _⟩ := p
    exact h2 ▸ (Looks.ld h1).andThen .now
  it := fun _ _ X _ => by
    obtain ⟨cdD, hcD⟩ := Option.isSome_iff_exists.mp T.cls
    unfold clsIn at hcD
    split at hcD
    · rename_i c' d' cd' sl' ho
      intro A' Q' E' s' k q
      unfold isType loadHead
      exact wpAny_bind (wpAny_loadPart (k _ _ (X _ _ ho)) (wpAny_pure q))
    · cases hcD
  ne := fun h tp dd its n sl X htp => by
    obtain ⟨cdD, hcD⟩ := Option.isSome_iff_exists.mp T.cls
    refine Bool.eq_false_iff.mpr fun q => ?_
    have e : C = tp := Value.ref.inj (beq_iff_eq.mp q)
    subst e
    unfold clsIn at hcD
    split at hcD
    · rename_i c' d' cd' sl' ho
      have z := (X _ _ ho).symm.trans htp
      cases z
    · cases hcD
  ca := fun {_ _ _ _ _ s} X p k => by
    obtain ⟨o, vs, h1, h2, _⟩ := p
    obtain ⟨hh, g, d, t, os⟩ := s
    exact exc_class_attr X T h1 h2 k
noncomputable def excO (a C : Addr) : HO := .ext (ExcAt a C)
theorem excO_ok {P : Program} {w : World} {H : Hp} {h : Heap} {a C : Addr} (p : ExcAt a C h) : ObjOk P w H h a (excO a C) := by
  refine ⟨p, ?_, fun h1 h2 q k => ?_⟩
  · obtain ⟨o, _, e, _⟩ := p; exact ⟨o, e⟩
  · obtain ⟨o, vs, e, r⟩ := q; exact ⟨o, vs, k o e, r⟩
inductive TyX (K : Frag) (H : Hp) : V → Value → Prop where
  | of {x : V} {t : Value} (h : TyOf K H x t) : TyX K H x t
  | exc {a C : Addr} (T : ExcC K C) (e : H a = some (excO a C)) : TyX K H (.ref a) (.ref C)
theorem isinst_x {X : Cx} {pins : List (Addr × Obj)} {σ : St} {H : Hp} {s : Shared} {A : Around} {E : Value → Shared → Prop} {Q : Value → Shared → Prop} {c : Value} {b : Bool} {x : V} {u t : Value} (I : Inv X pins σ H s) (rx : RelV x u) (ty : TyX X.K H x t)
    (e : kitOne X.K t c = some b) (h : ∀ tk, Q (.bool b) { s with toks := tk }) : wpAny (model X.prog X.w) A (call (.builtin "isinstance") [u, c]) Q E s := by
  cases ty with
  | of ty => exact isinst_ok I rx ty e h
  | @exc a C T ea =>
    cases (show u = Value.ref a from rx)
    obtain ⟨p, _, _⟩ := (show ObjOk X.prog X.w H s.heap a (excO a C) from I.hok a _ ea)
    exact kia_one (kitx_exc T) I.kIn p e (fun z => nomatch z) h
noncomputable def clsV : V → Option Value
  | .ref a => some (.ref a)
  | .ty n => some (.type n)
  | _ => none
theorem clsV_rel {x : V} {c u : Value} (h : clsV x = some c) (r : RelV x u) : u = c := by
  cases x with
  | ref a => cases h; exact r
  | ty n => cases h; exact r
  | _ => cases h
noncomputable def rIsi (K : Frag) : List V → Hp → VK → Prop := fun xs H Q => ∃ x t vc c b, xs = [x, vc] ∧ TyX K H x t ∧ clsV vc = some c ∧ kitOne K t c = some b ∧ Q (.bl b) H
theorem call_isi {X : Cx} : CallR X (.builtin "isinstance") (rIsi X.K) := by
  intro pins s σ H xs us Q I rv h
  obtain ⟨x, t, vc, c, b, rfl, ty, rc, e, q⟩ := h
  obtain ⟨u, v, rfl, r1, r2⟩ := rv.two
  rw [clsV_rel rc r2]
  exact isinst_x I r1 ty e fun tk => ⟨.bl b, H, I.tok _, rfl, q⟩
end L2
set_option Elab.async false
set_option linter.all false
set_option maxRecDepth 100000
namespace L2
open PySem PySem.Spec PyProof.Rows PySem.W
noncomputable def PassesAt (CX : CXT) (X : Cx) (E : XK) (pins : List (Addr × Obj)) (σ : St) : Prop := ∀ (H : Hp) (s : Shared) (e : Value) (s' : Shared), Inv X pins σ H s → CX X.stack H s E e s' → X.xe e s'
noncomputable def PEAt (X : Cx) (pins : List (Addr × Obj)) (σ : St) (e : Expr) (t : TE) : Prop := ∀ (s : Shared) (H : Hp) (Q : VK), Inv X pins σ H s → t σ H Q → wpAny (model X.prog X.w) X.A (eval e X.env) (EP X pins σ Q) X.xe s
noncomputable def PSsAt (X : Cx) (pins : List (Addr × Obj)) (σ : St) (st : List Stmt) (t : TS) : Prop := ∀ (s : Shared) (H : Hp) (D : Ends), Inv X pins σ H s → t D σ H → wpAny (model X.prog X.w) X.A (execs st X.env) (SP X pins D) X.xe s
section
variable {X : Cx} {CX : CXT} {k : Nat} {f : Addr} {fd : FuncData} {ps : List Str} {sp : Sp} {dvs : List V} {ds : List Value} {E : XK} {x : Str} {p pos : Pos} {e : Expr} {es : List Expr} {te : TE} {t : TA} {pins : List (Addr × Obj)} {σ : St} {ta tb : TS}
theorem pea_call (F : FnOk X.prog X.w X.K X.mg X.base CX k f fd ps sp) (hr : Room k X.A) (hg : Gl X x) (hm : X.mg x = some (.ref f)) (hk : PySem.W.keepIn X.K (.ref f) = true) (hb : Binds X.K fd ps ds) (hd : Vals dvs ds) (hx : PassesAt CX X E pins σ)
    (ha : PA X (e :: es) t) (hdb : (x == ("__debug__" : Str)) = false := by decide) (he : starEach (e :: es) X.env = (false, eval e X.env) :: starEach es X.env := by rfl) (hpl : (backTo pos (starEach es X.env)).any (·.1) = false := by rfl) :
    PEAt X pins σ (.Call (.Name x p) (e :: es) [] pos) (tCall sp dvs E t) := by
  intro s H Q I h
  refine wpAny_Call_Name_kw (ld_glob I hg hm ?_ hdb)
  refine PySem.W.callWith_K (h₀ := X.base) I.ok.mod.kin hk (thn (ha pos pins s σ H _ I h) fun us s1 ⟨vs, H1, I1, r, q⟩ => ⟨I1.kIn, ?_⟩) he hpl
  have r2 : Vals (vs ++ dvs) (us ++ ds) := r.append hd
  have hl : (us ++ ds).length = ps.length := by rw [← r2.length]; exact F.len _ _ _ _ q
  refine wpAny_call (codeAny_mono (F.run X.A X.stack s1 H1 ⟨us, []⟩ (us ++ ds) (vs ++ dvs) Q E hr I1.env0 (hb s1 us I1.kIn hl) r2 q) fun r s' hq => ?_)
  cases r with
  | error e => exact hx H1 s1 e s' I1 hq
  | ok fl =>
    cases fl with
    | ret u => exact I1.after hq
    | next => exact False.elim hq
    | brk => exact False.elim hq
    | cont => exact False.elim hq
theorem psa_set {i : Nat} {y : Str} {pos' : Pos} (hN : X.N.Nodup) (hi : X.N[i]? = some y) (hy : Loc X.env.scope y) (he : PEAt X pins σ e te) (hs : swapsWith e (some (.Name y pos')) pos.line X.env = pure false := by rfl) (hf : X.fn y = true ∨ X.env.scope.names.lookup y = some .local := by first | exact .inl rfl | exact .inr rfl | assumption) :
    PSsAt X pins σ [.Assign [.Name y pos'] e pos] (tAsg te (gName i)) := by
  intro s H D I h
  refine wpAny_execs_cons (wpAny_Assign_Name (thn (he s H _ I h) fun v s1 ⟨z, H1, I1, r1, q1⟩ => ?_) hs)
  exact store_ok I1 hN hi hy r1 (fun s2 I2 => wpAny_execs_nil ⟨_, H1, I2, q1⟩) hf
end
theorem HOk.add {P : Program} {w : World} {H : Hp} {h : Heap} {a : Addr} {o : HO} (x : HOk P w H h) (hn : H a = none) (new : ObjOk P w (upd H a o) h a o) : HOk P w (upd H a o) h := fun b u e => by
  by_cases hb : b = a
  · subst hb; rw [upd_same] at e; cases e; exact new
  · rw [upd_ne hb] at e
    exact (x b u e).stay (fun c v _ q => q) (fun c q => by rw [upd_ne (ne_of_none q hn)]; exact q) fun c xs q => by rw [upd_ne (ne_of_none q hn)]; exact q
noncomputable abbrev hdCx (X : Cx) (a : Addr) : Cx := { X with A := X.A.mark (some (.ref a)), calm := false, xe := fun _ _ => False }
theorem Inv.hd {X : Cx} {pins : List (Addr × Obj)} {σ : St} {H : Hp} {s : Shared} {a : Addr} (I : Inv X pins σ H s) : Inv (hdCx X a) pins σ H s :=
  ⟨⟨I.ok.mod, I.ok.kind, I.ok.glob, I.ok.blt, I.ok.above, I.ok.inj, I.ok.has, I.ok.cab, fun z => Bool.noConfusion z, I.ok.frames, I.ok.stk, I.ok.exf, I.ok.bs, I.ok.bsz, I.ok.noex, I.ok.exfs, I.ok.funs, I.ok.frf⟩, I.os, I.bare, I.base, I.loc, I.cell, I.free, I.freeC, I.pin, I.hok, I.len⟩
theorem Inv.unhd {X : Cx} {pins : List (Addr × Obj)} {σ : St} {H : Hp} {s : Shared} {a : Addr} (hd : X.calm = true → X.A.handled = none) (I : Inv (hdCx X a) pins σ H s) : Inv X pins σ H s :=
  ⟨⟨I.ok.mod, I.ok.kind, I.ok.glob, I.ok.blt, I.ok.above, I.ok.inj, I.ok.has, I.ok.cab, hd, I.ok.frames, I.ok.stk, I.ok.exf, I.ok.bs, I.ok.bsz, I.ok.noex, I.ok.exfs, I.ok.funs, I.ok.frf⟩, I.os, I.bare, I.base, I.loc, I.cell, I.free, I.freeC, I.pin, I.hok, I.len⟩
theorem Inv.gone {X : Cx} {pins : List (Addr × Obj)} {σ : St} {H : Hp} {s : Shared} {n : Str} {i : Nat} {h' : Heap} {v : Option Value} {m : Str → Option Value} {t' : Nat} (I : Inv X pins σ H s) (hN : X.N.Nodup) (hi : X.N[i]? = some n)
    (hl : ∀ (j : Nat) (x : Str) (v : V), X.N[j]? = some x → σ[j]? = some (some v) → Vis X.env.scope x → ∃ u, RelV v u ∧ Look X.env s.heap m x u)
    (hn : h'.Ns X.env.locals (fun x => if x = n then v else m x)) (hs : Heap.SameBut X.env.locals s.heap h') : Inv X pins (σ.set i none) H { s with heap := h', toks := t' } := by
  have cne := I.cne
  have hiσ : i < σ.length := by rw [I.len]; exact (List.getElem?_eq_some_iff.mp hi).1
  obtain ⟨m0, ⟨oL, es, ep, hoL, _⟩, _⟩ := I.loc
  have tracked : HOk X.prog X.w H h' := fun b ob e => by
    refine (I.hok b ob e).stay (fun c w' hc q => (hs.2 c ?_).trans q) (fun _ q => q) fun _ _ q => q
    rintro rfl
    have fr := I.free
    rcases hc with rfl | hc
    · rw [fr] at e; cases e
    · rw [fr] at hc; cases hc
  refine ⟨I.ok, I.os, I.bare, ⟨fun b o e n hb hx => ?_, fun b o e n hb hx => ?_, I.base.free, fun b o e hx => ?_, I.base.tups, I.base.frzs, I.base.tbls⟩, ⟨_, hn, fun j y v' e1 e2 e3 => ?_⟩, fun y c e => ?_, I.free, I.freeC, fun p hp => ?_, tracked, by simpa using I.len⟩
  · exact (hs.2 b (Nat.ne_of_lt (Nat.lt_of_lt_of_le (Heap.lt_size e) I.ok.above))).trans (I.base.keep b o e n hb hx)
  · obtain ⟨sl, e1⟩ := I.base.slot b o e n hb hx
    exact ⟨sl, (hs.2 b (Nat.ne_of_lt (Nat.lt_of_lt_of_le (Heap.lt_size e) I.ok.above))).trans e1⟩
  · obtain ⟨o', e1⟩ := I.base.there b o e hx
    exact ⟨o', (hs.2 b (Nat.ne_of_lt (Nat.lt_of_lt_of_le (Heap.lt_size e) I.ok.above))).trans e1⟩
  · by_cases hj : j = i
    · subst hj
      rw [List.getElem?_set_self hiσ] at e2
      cases e2
    · rw [List.getElem?_set_ne (Ne.symm hj)] at e2
      obtain ⟨u', r', q⟩ := hl j y v' e1 e2 e3
      refine ⟨u', r', ?_⟩
      rcases q with ⟨k, e⟩ | ⟨k, c, e, z⟩
      · refine .inl ⟨k, ?_⟩
        have : y ≠ n := fun e => hj (nodup_ix hN e1 (e ▸ hi))
        simp [this, e]
      · exact .inr ⟨k, c, e, z.sameBut hs (cne y c e)⟩
  · obtain ⟨w', z⟩ := I.cell y c e
    exact ⟨w', z.sameBut hs (cne y c e)⟩
  · obtain ⟨e, n, ne, nf, d⟩ := I.pin p hp
    exact ⟨(hs.2 p.1 ne).trans e, n, ne, nf, d⟩
theorem exc_isType {M : Model} {h : Heap} {Cp : Addr} {K : Frag} (X : K.In h) (Tp : ExcC K Cp) : Looks M h (isType (.ref Cp)) true := by
  obtain ⟨cdD, hcD⟩ := Option.isSome_iff_exists.mp Tp.cls
  unfold clsIn at hcD
  split at hcD
  · rename_i c' d' cd' sl' ho
    intro A' Q' E' s' k q
    unfold isType loadHead
    exact wpAny_bind (wpAny_loadPart (k _ _ (X _ _ ho)) (wpAny_pure q))
  · cases hcD
theorem exc_matches {M : Model} {A : Around} {E : Value → Shared → Prop} {h : Heap} {g : Array GenState} {d : Drawn} {t : Nat} {os : OsState} {a C Cp : Addr} {o : Obj} {K : Frag} {b : Bool} {Q : Bool → Shared → Prop} (X : K.In h) (Tp : ExcC K Cp) (hm : mroIn K C (.ref Cp) = some b)
    (hx : h.get? a = some o) (hc : o.cls = .ref C) (hq : Q b ⟨h, g, d, t, os⟩) : wpAny M A (excMatches (.ref a) (.ref Cp)) Q E ⟨h, g, d, t, os⟩ := by
  have L1 := looks_typeIn (M := M) X Tp.ty
  have L3 := looks_mroIn (M := M) X Tp.be
  have L4 := looks_mroIn (M := M) X hm
  have L5 : Looks M h (isType (.ref Cp)) true := exc_isType X Tp
  have f := tc_notTuple
  unfold excMatches
  repeat (first | (with_reducible refine wpAny_loadPart_at hx ?_; rw [hc]) | with_reducible refine L1.at ?_ | with_reducible refine L3.at ?_ | with_reducible refine L4.at ?_ | with_reducible refine L5.at ?_ | wp_step)
  cases b <;> (wp_walk; exact hq)
noncomputable def tTry (K : Frag) (Cp : Addr) (i : Nat) (tb : XK → TS) (th : TS) : TS := fun D σ H =>
  tb (fun cls _ H' => ∃ C, cls = .ref C ∧ ExcC K C ∧ mroIn K C (.ref Cp) = some true ∧ ∀ a, H' a = none → th { nx := fun σ2 H2 => D.nx (σ2.set i none) H2, rt := fun _ _ => False } (σ.set i (some (.ref a))) (upd H' a (excO a C))) D σ H
theorem ps_try {X : Cx} {body suite : List Stmt} {b₀ : Stmt} {x n : Str} {np hpos pos : Pos} {Cp : Addr} {i : Nat} {tb : XK → TS} {th : TS}
    (hstk : X.stack = X.env :: X.outer) (hfr : X.env.frame = some X.env.locals) (hN : X.N.Nodup) (hi : X.N[i]? = some n) (hl : X.env.kindOf n = some .local) (hg : Gl X x) (hm : X.mg x = some (.ref Cp)) (Tp : ExcC X.K Cp)
    (hb : ∀ (pins : List (Addr × Obj)) (σ : St) (xe' : Value → Shared → Prop) (E' : XK), PassesAt (CXW X.prog X.w) (X.wish xe') E' pins σ → PSsAt (X.wish xe') pins σ body (tb E'))
    (hh : ∀ a, PSs (hdCx X a) (b₀ :: suite) th) (hd : (x == ("__debug__" : Str)) = false := by decide) :
    PS X (.Try body [.ExceptHandler (some (.Name x np)) (some n) (b₀ :: suite) hpos] [] [] pos) (tTry X.K Cp i tb th) := by
  intro pins s σ H D I h
  refine wpAny_Try_except (wpAny_mono (hb pins σ (fun e s₁ => wpAny (model X.prog X.w) X.A (noteFrame e X.env) (fun _ s₂ => wpAny (model X.prog X.w) X.A (setFlight e none) (fun _ s₃ =>
    wpAny (model X.prog X.w) X.A (handleBy e X.env [.ExceptHandler (some (.Name x np)) (some n) (b₀ :: suite) hpos]) (SP X pins D) X.xe s₃) X.xe s₂) X.xe s₁) _ ?pass s H D (I.wish _) h) (fun f s1 q => ?_) (fun e s1 q => q))
  case pass =>
    intro H1 s1 e s' I1 hx
    obtain ⟨a, cls, a0, H', B, rfl, hos, hbare, un, hokB, hfl, keepB, thereB, C, rfl, T, hmC, hth⟩ := hx
    have J : Inv X pins σ H1 s1 := I1.unwish
    have hfl0 : Heap.FlyingW B (X.env :: X.outer) a (.ref C) a0 s'.heap := by rw [← hstk]; exact hfl
    have hfrm : X.A.frames = some (X.env :: X.outer) := by rw [← hstk]; exact J.ok.frames
    have nBa : B.get? a = none := hfl.2.1
    have nHa : H' a = none := by
      cases q : H' a with
      | none => rfl
      | some u =>
        obtain ⟨ob, eb⟩ := (hokB a u q).obj
        rw [nBa] at eb; cases eb
    have frame_ne : ∀ b, b ∈ frs X.stack → b ≠ a := fun b hb z => by
      obtain ⟨_, o, ho, nf⟩ := hfl.2.2.1.mem hb
      obtain ⟨oe, vs, _, _, _, he, _, hd', _⟩ := hfl.2.2.2
      rw [z, he] at ho; cases ho
      exact nf vs hd'
    have old_ne : ∀ b o, s1.heap.get? b = some o → b ≠ a := fun b o e z => by
      by_cases hb : b ∈ frs X.stack
      · exact frame_ne b hb z
      · obtain ⟨o', e'⟩ := thereB b o e hb
        rw [z, nBa] at e'; cases e'
    -- the heap at any later station
    have station : ∀ h5 : Heap, Heap.FlyingW B (X.env :: X.outer) a (.ref C) a0 h5 → s'.heap.UpToSlots h5 → ∀ t5, Inv X pins σ (upd H' a (excO a C)) { s' with heap := h5, toks := t5 } := fun h5 f5 up5 t5 => by
      have sl : ∀ b o, s1.heap.get? b = some o → H1 b = none → b ∈ frs X.stack → ∃ sl, h5.get? b = some { o with slots := sl } := fun b o e n hb => by
        obtain ⟨sl1, e1⟩ := un.slot b o e n hb (by simp)
        obtain ⟨_, o', e', nf⟩ := J.stack.mem hb
        rw [e] at e'; cases e'
        obtain ⟨sl2, e2⟩ := up5 b _ e1 nf
        exact ⟨sl2, e2⟩
      have un5 : Un (frs X.stack) [] H1 (upd H' a (excO a C)) s1.heap h5 := ⟨fun b o e n nf _ => f5.1 b o (keepB b o e n nf), fun b o e n hb _ => sl b o e n hb, fun b o e n _ => by rw [upd_ne (old_ne b o e)]; exact un.free b o e n (by simp), fun b o e _ => by
          by_cases hb : b ∈ frs X.stack
          · obtain ⟨sl, q⟩ := sl b o e (J.stkFree b hb) hb
            exact ⟨_, q⟩
          · obtain ⟨o', q⟩ := thereB b o e hb
            exact ⟨o', f5.1 b o' q⟩, fun b xs e => by
          have q := un.tups b xs e
          rw [upd_ne (ne_of_none q nHa)]; exact q, fun b o x e => by
          have q := un.frzs b o x e
          rw [upd_ne (ne_of_none q nHa)]; exact q, fun b ps e => by
          obtain ⟨m, q⟩ := un.tbls b ps e
          exact ⟨m, by rw [upd_ne (ne_of_none q nHa)]; exact q⟩⟩
      have at5 : ExcAt a C h5 := by
        obtain ⟨oe, vs, _, _, _, he, hc, hd', _⟩ := f5.2.2.2
        exact ⟨oe, vs, he, hc.1, hd'⟩
      have hok5 : HOk X.prog X.w (upd H' a (excO a C)) h5 := HOk.add (hokB.kept f5.1) nHa (excO_ok at5)
      obtain ⟨hh', gg, dd, tt, os'⟩ := s'
      obtain rfl : os' = s1.os := hos
      have IE := J.call (h' := h5) (g' := gg) (d' := dd) (t' := t5) (ch := []) un5 hok5 hbare (fun b z => absurd z (by simp))
      exact IE
    refine wpAny_looks_onW hfrm hfr hfl0 fun h4 held4 up4 => ?_
    refine wpAny_landsW held4 fun h5 f5 up5 => ?_
    have up5' := up4.trans up5
    have I5 := (station h5 f5 up5' s'.toks).hd (a := a)
    have at5 : ExcAt a C h5 := by
      obtain ⟨oe, vs, _, _, _, he, hc, hd', _⟩ := f5.2.2.2
      exact ⟨oe, vs, he, hc.1, hd'⟩
    refine wpAny_handleBy_cons (codeAny_handlers_test ?_) (by intro q; cases q)
    refine ld_glob (X := hdCx X a) I5 hg hm ?_ hd
    obtain ⟨oe, vs, he, hc, _⟩ := at5
    refine exc_matches I5.kIn Tp hmC he hc ?_
    refine codeAny_handlers_suite_as ?_
    refine lands_againW f5 fun h6 f6 up6 => ?_
    have I6 := (station h6 f6 (up5'.trans up6) s'.toks).hd (a := a)
    refine store_ok (X := hdCx X a) I6 hN hi (.inl hl) (v := .ref a) rfl (fun s7 I7 => ?_) (.inr hl)
    refine wpAny_mono (hh a pins s7 _ _ { nx := fun σ2 H2 => D.nx (σ2.set i none) H2, rt := fun _ _ => False } I7 (hth a nHa)) (fun f s8 q8 => ?_) fun _ _ z => z.elim
    cases f with
    | brk => obtain ⟨_, _, _, z⟩ := q8; exact z.elim
    | cont => obtain ⟨_, _, _, z⟩ := q8; exact z.elim
    | ret v => obtain ⟨_, _, _, _, _, z⟩ := q8; exact z.elim
    | next =>
      obtain ⟨σ8, H8, I8, q8⟩ := q8
      have J8 : Inv X pins σ8 H8 s8 := I8.unhd J.ok.hd
      obtain ⟨m8, n8, l8⟩ := J8.loc
      refine wpAny_nameGoes_keeps hl n8 (by rw [J8.ok.kind]; rfl) fun h9 v n9 sb9 => ?_
      exact ⟨σ8.set i none, H8, J8.gone hN hi l8 n9 sb9, q8⟩
  · have q' := q.unwish
    cases f with
    | next => exact wpAny_execs_nil q'
    | ret v => exact q'
    | brk => exact q'
    | cont => exact q'
end L2
set_option Elab.async false
set_option linter.all false
set_option maxRecDepth 100000
namespace L2
open PySem PySem.Spec PyProof.Rows PySem.W
inductive DV where
  | non | bl (b : Bool) | int (i : Int) | str (x : Str) | lst (xs : List DV) | tup (xs : List DV)
mutual
noncomputable def eqD : DV → DV → Bool
  | .non, .non => true
  | .bl a, .bl b => a == b
  | .bl a, .int b => (if a then 1 else 0) == b
  | .int a, .bl b => a == (if b then 1 else 0)
  | .int a, .int b => a == b
  | .str a, .str b => a == b
  | .lst a, .lst b => eqDs a b
  | .tup a, .tup b => eqDs a b
  | _, _ => false
noncomputable def eqDs : List DV → List DV → Bool
  | [], [] => true
  | a :: r, b :: t => eqD a b && eqDs r t
  | _, _ => false
end
mutual
noncomputable def ht : DV → Nat
  | .lst xs => hts xs + 1
  | .tup xs => hts xs + 1
  | _ => 0
noncomputable def hts : List DV → Nat
  | [] => 0
  | a :: r => max (ht a) (hts r)
end
theorem ht_lst (ds : List DV) : ht (.lst ds) = hts ds + 1 := by unfold ht; rfl
theorem ht_tup (ds : List DV) : ht (.tup ds) = hts ds + 1 := by unfold ht; rfl
mutual
inductive Deep (K : Frag) (H : Hp) : V → DV → Prop where
  | non : Deep K H .non .non
  | bl (b : Bool) : Deep K H (.bl b) (.bl b)
  | int (i : Int) : Deep K H (.int i) (.int i)
  | str (x : Str) : Deep K H (.str x) (.str x)
  | lst {a : Addr} {xs : List V} {ds : List DV} (h : SqL K H a xs) (t : Deeps K H xs ds) : Deep K H (.ref a) (.lst ds)
  | tup {a : Addr} {xs : List V} {ds : List DV} (h : SqT K H a xs) (t : Deeps K H xs ds) : Deep K H (.ref a) (.tup ds)
inductive Deeps (K : Frag) (H : Hp) : List V → List DV → Prop where
  | nil : Deeps K H [] []
  | cons {x : V} {d : DV} {xs : List V} {ds : List DV} (h : Deep K H x d) (t : Deeps K H xs ds) : Deeps K H (x :: xs) (d :: ds)
end
theorem Deeps.length {K : Frag} {H : Hp} : ∀ {xs : List V} {ds : List DV}, Deeps K H xs ds → xs.length = ds.length
  | _, _, .nil => rfl
  | _, _, .cons _ t => by rw [List.length_cons, List.length_cons, Deeps.length t]
theorem Deeps.get {K : Frag} {H : Hp} : ∀ {xs : List V} {ds : List DV} {i : Nat} {d : DV}, Deeps K H xs ds → ds[i]? = some d → ∃ x, xs[i]? = some x ∧ Deep K H x d
  | _, _, _, _, .nil, e => by simp at e
  | _, _, 0, _, .cons h _, e => by simp at e; subst e; exact ⟨_, rfl, h⟩
  | _, _, i + 1, d, .cons _ t, e => by
    obtain ⟨x, h1, h2⟩ := Deeps.get (i := i) (d := d) t (by simpa using e)
    exact ⟨x, by simpa using h1, h2⟩
theorem Deeps.ints {K : Frag} {H : Hp} : ∀ ns : List Int, Deeps K H (ns.map V.int) (ns.map DV.int)
  | [] => .nil
  | n :: r => .cons (.int n) (Deeps.ints r)
theorem eqDs_len : ∀ {a b : List DV}, eqDs a b = true → a.length = b.length
  | [], [], _ => rfl
  | a :: r, b :: t, h => by
    unfold eqDs at h
    rw [Bool.and_eq_true] at h
    rw [List.length_cons, List.length_cons, eqDs_len h.2]
  | [], _ :: _, h => by unfold eqDs at h; cases h
  | _ :: _, [], h => by unfold eqDs at h; cases h
noncomputable def eAt (ds es : List DV) (j : Nat) : Bool := match ds[j]?, es[j]? with
  | some d, some e => eqD d e
  | _, _ => true
theorem all_eAt : ∀ (ds es : List DV), ds.length = es.length → (List.range ds.length).all (eAt ds es) = eqDs ds es
  | [], [], _ => by unfold eqDs; rfl
  | d :: r, e :: t, h => by
    have ih := all_eAt r t (by simpa using h)
    rw [List.length_cons, List.range_succ_eq_map, List.all_cons, List.all_map]
    unfold eqDs
    rw [← ih]
    congr 1
  | [], _ :: _, h => by cases h
  | _ :: _, [], h => by cases h
theorem all_eAt_min : ∀ (ds es : List DV), ((List.range (min ds.length es.length)).all (eAt ds es) && ds.length == es.length) = eqDs ds es := fun ds es => by
  by_cases h : ds.length = es.length
  · rw [h, Nat.min_self, ← h, all_eAt ds es h]; simp
  · have h1 : (ds.length == es.length) = false := by simpa using h
    rw [h1, Bool.and_false]
    cases q : eqDs ds es with
    | false => rfl
    | true => exact absurd (eqDs_len q) h
theorem hts_get : ∀ {ds : List DV} {i : Nat} {d : DV}, ds[i]? = some d → ht d ≤ hts ds
  | [], _, _, e => by simp at e
  | a :: r, 0, d, e => by simp at e; subst e; unfold hts; exact Nat.le_max_left _ _
  | a :: r, i + 1, d, e => by
    have := hts_get (ds := r) (i := i) (d := d) (by simpa using e)
    unfold hts; exact Nat.le_trans this (Nat.le_max_right _ _)
section
variable {X : Cx} {pins : List (Addr × Obj)} {σ : St} {H : Hp} {s : Shared}
theorem lt_ne {a : Addr} {xs ys : List V} (I : Inv X pins σ H s) (h1 : SqL X.K H a xs) (h2 : SqT X.K H a ys) : False := by
  obtain ⟨its, _, p, _⟩ := I.list h1
  obtain ⟨its2, _, q, _⟩ := I.tuple h2
  exact SeqAt.ne_of_list_tuple p.isList (show s.heap.IsTuple a its2.toArray from q) rfl
mutual
theorem Deep.inj (I : Inv X pins σ H s) : ∀ {d : DV} {x : V} {e : DV}, Deep X.K H x d → Deep X.K H x e → d = e
  | .non, _, _, .non, h => by cases h; rfl
  | .bl b, _, _, .bl _, h => by cases h; rfl
  | .int b, _, _, .int _, h => by cases h; rfl
  | .str b, _, _, .str _, h => by cases h; rfl
  | .lst ds, _, _, .lst h t, h' => by
    cases h' with
    | lst h2 t2 =>
      have e := I.list_inj h h2
      subst e
      rw [Deeps.inj I t t2]
    | tup h2 t2 => exact (lt_ne I h h2).elim
  | .tup ds, _, _, .tup h t, h' => by
    cases h' with
    | tup h2 t2 =>
      have e := I.tuple_inj h h2
      subst e
      rw [Deeps.inj I t t2]
    | lst h2 t2 => exact (lt_ne I h2 h).elim
theorem Deeps.inj (I : Inv X pins σ H s) : ∀ {ds : List DV} {xs : List V} {es : List DV}, Deeps X.K H xs ds → Deeps X.K H xs es → ds = es
  | [], _, _, .nil, h => by cases h; rfl
  | d :: ds, _, _, .cons h t, h' => by
    cases h' with
    | cons h2 t2 => rw [Deep.inj I h h2, Deeps.inj I t t2]
end
mutual
theorem eqD_refl : ∀ d : DV, eqD d d = true
  | .non => by unfold eqD; rfl
  | .bl b => by unfold eqD; simp
  | .int b => by unfold eqD; simp
  | .str b => by unfold eqD; simp
  | .lst ds => by unfold eqD; exact eqDs_refl ds
  | .tup ds => by unfold eqD; exact eqDs_refl ds
theorem eqDs_refl : ∀ ds : List DV, eqDs ds ds = true
  | [] => by unfold eqDs; rfl
  | d :: r => by unfold eqDs; rw [eqD_refl d, eqDs_refl r]; rfl
end
theorem items_eq {A : Around} {xs ys : List V} {us vs : List Value} {ds es : List DV} (rx : Vals xs us) (ry : Vals ys vs) (t1 : Deeps X.K H xs ds) (t2 : Deeps X.K H ys es)
    (ih : ∀ d ∈ ds, ∀ (e : DV) (x y : V) (u v : Value), Deep X.K H x d → Deep X.K H y e → RelV x u → RelV y v → SeqAt.EqAt A s u v (eqD d e)) (j : Nat) (h1 : j < us.toArray.size) (h2 : j < vs.toArray.size) :
    SeqAt.EqAt A s us.toArray[j] vs.toArray[j] (eAt ds es j) := by
  have l1 := rx.length
  have l2 := ry.length
  have m1 := t1.length
  have m2 := t2.length
  simp only [List.size_toArray] at h1 h2
  have g1 : ds[j]? = some ds[j] := List.getElem?_eq_getElem (by trivial)
  have g2 : es[j]? = some es[j] := List.getElem?_eq_getElem (by trivial)
  obtain ⟨x, ex, dx⟩ := t1.get g1
  obtain ⟨y, ey, dy⟩ := t2.get g2
  obtain ⟨u, eu, ru⟩ := rx.get ex
  obtain ⟨v, ev, rv⟩ := ry.get ey
  have e1 : us.toArray[j] = u := by
    rw [List.getElem_toArray]
    exact Option.some.inj ((List.getElem?_eq_getElem h1).symm.trans eu)
  have e2 : vs.toArray[j] = v := by
    rw [List.getElem_toArray]
    exact Option.some.inj ((List.getElem?_eq_getElem h2).symm.trans ev)
  have e3 : eAt ds es j = eqD ds[j] es[j] := by unfold eAt; rw [g1, g2]
  rw [e1, e2, e3]
  exact ih _ (List.getElem_mem _) _ x y u v dx dy ru rv
theorem rc_deep (I : Inv X pins σ H s) {A : Around} (d e : DV) (x y : V) (u v : Value) (hx : Deep X.K H x d) (hy : Deep X.K H y e) (rx : RelV x u) (ry : RelV y v) (hu : A.units < cLine)
    (ih : ∀ (d' : DV), ht d' < ht d → ∀ (e : DV) (x y : V) (u v : Value), Deep X.K H x d' → Deep X.K H y e → RelV x u → RelV y v → SeqAt.EqAt A.in1 s u v (eqD d' e)) : SeqAt.RcAt A s u v (eqD d e) := by
  have hlt : ∀ {ds : List DV} {d' : DV}, d' ∈ ds → ht d' < hts ds + 1 := fun {ds d'} hm => by
    obtain ⟨i, hi, e⟩ := List.getElem_of_mem hm
    exact Nat.lt_succ_of_le (hts_get (i := i) (by rw [List.getElem?_eq_getElem hi, e]))
  cases hx with
  | non =>
    cases (show u = Value.none from rx)
    cases hy with
    | non => cases (show v = Value.none from ry); unfold eqD; exact SeqAt.RcAt.none_none
    | bl b => cases (show v = Value.bool b from ry); unfold eqD; exact SeqAt.RcAt.none_bool b
    | int b => obtain ⟨t, rfl⟩ := ry; unfold eqD; exact SeqAt.RcAt.none_int b t
    | str b => obtain ⟨t, rfl⟩ := ry; unfold eqD; exact SeqAt.RcAt.none_str b t
    | lst h t => cases ry; obtain ⟨its, r, p, _⟩ := I.list h; unfold eqD; exact SeqAt.RcAt.none_list p.isList hu
    | tup h t => cases ry; obtain ⟨its, r, p, _⟩ := I.tuple h; unfold eqD; exact SeqAt.RcAt.none_tuple (show s.heap.IsTuple _ its.toArray from p) hu
  | bl a =>
    cases (show u = Value.bool a from rx)
    cases hy with
    | non => cases (show v = Value.none from ry); unfold eqD; exact SeqAt.RcAt.bool_none a
    | bl b => cases (show v = Value.bool b from ry); unfold eqD; exact SeqAt.RcAt.bool_bool a b
    | int b => obtain ⟨t, rfl⟩ := ry; unfold eqD; exact SeqAt.RcAt.bool_int a b t
    | str b => obtain ⟨t, rfl⟩ := ry; unfold eqD; exact SeqAt.RcAt.bool_str a b t
    | lst h t => cases ry; obtain ⟨its, r, p, _⟩ := I.list h; unfold eqD; exact SeqAt.RcAt.bool_list a p.isList hu
    | tup h t => cases ry; obtain ⟨its, r, p, _⟩ := I.tuple h; unfold eqD; exact SeqAt.RcAt.bool_tuple a (show s.heap.IsTuple _ its.toArray from p) hu
  | int a =>
    obtain ⟨t', rfl⟩ := rx
    cases hy with
    | non => cases (show v = Value.none from ry); unfold eqD; exact SeqAt.RcAt.int_none a t'
    | bl b => cases (show v = Value.bool b from ry); unfold eqD; exact SeqAt.RcAt.int_bool a t' b
    | int b => obtain ⟨t, rfl⟩ := ry; unfold eqD; exact SeqAt.RcAt.int_int a t' b t
    | str b => obtain ⟨t, rfl⟩ := ry; unfold eqD; exact SeqAt.RcAt.int_str a t' b t
    | lst h t => cases ry; obtain ⟨its, r, p, _⟩ := I.list h; unfold eqD; exact SeqAt.RcAt.int_list a t' p.isList hu
    | tup h t => cases ry; obtain ⟨its, r, p, _⟩ := I.tuple h; unfold eqD; exact SeqAt.RcAt.int_tuple a t' (show s.heap.IsTuple _ its.toArray from p) hu
  | str a =>
    obtain ⟨t', rfl⟩ := rx
    cases hy with
    | non => cases (show v = Value.none from ry); unfold eqD; exact SeqAt.RcAt.str_none a t'
    | bl b => cases (show v = Value.bool b from ry); unfold eqD; exact SeqAt.RcAt.str_bool a t' b
    | int b => obtain ⟨t, rfl⟩ := ry; unfold eqD; exact SeqAt.RcAt.str_int a t' b t
    | str b => obtain ⟨t, rfl⟩ := ry; unfold eqD; exact SeqAt.RcAt.str_str a t' b t
    | lst h t => cases ry; obtain ⟨its, r, p, _⟩ := I.list h; unfold eqD; exact SeqAt.RcAt.str_list a t' p.isList hu
    | tup h t => cases ry; obtain ⟨its, r, p, _⟩ := I.tuple h; unfold eqD; exact SeqAt.RcAt.str_tuple a t' (show s.heap.IsTuple _ its.toArray from p) hu
  | @lst a xs ds h t1 =>
    cases rx
    obtain ⟨its, r, p, _⟩ := I.list h
    cases hy with
    | non => cases (show v = Value.none from ry); unfold eqD; exact SeqAt.RcAt.list_none p.isList hu
    | bl b => cases (show v = Value.bool b from ry); unfold eqD; exact SeqAt.RcAt.list_bool b p.isList hu
    | int b => obtain ⟨t, rfl⟩ := ry; unfold eqD; exact SeqAt.RcAt.list_int b t p.isList hu
    | str b => obtain ⟨t, rfl⟩ := ry; unfold eqD; exact SeqAt.RcAt.list_str b t p.isList hu
    | @lst b ys es h2 t2 =>
      cases ry
      obtain ⟨its2, r2, p2, _⟩ := I.list h2
      have l1 := r.length
      have l2 := r2.length
      have m1 := t1.length
      have m2 := t2.length
      have it := items_eq (A := A.in1) r r2 t1 t2 fun d' hd' e x y u v a b c d => ih d' (by rw [ht_lst]; exact hlt hd') e x y u v a b c d
      unfold eqD
      by_cases hl : ds.length = es.length
      · have q := SeqAt.RcAt.lists (e := eAt ds es) p.isList p2.isList (by simp only [List.size_toArray]; trivial) hu it
        rw [← all_eAt ds es hl]
        have e1 : its.toArray.size = ds.length := by simp only [List.size_toArray]; trivial
        rw [e1] at q
        exact q
      · have q := SeqAt.RcAt.lists_lengths (A := A) p.isList p2.isList (by simp only [List.size_toArray, bne_iff_ne]; trivial) hu
        cases z : eqDs ds es with
        | false => exact q
        | true => exact absurd (eqDs_len z) hl
    | @tup b ys es h2 t2 =>
      cases ry
      obtain ⟨its2, r2, p2, _⟩ := I.tuple h2
      unfold eqD
      exact SeqAt.RcAt.list_tuple p.isList (show s.heap.IsTuple b its2.toArray from p2) hu
  | @tup a xs ds h t1 =>
    cases rx
    obtain ⟨its, r, p, _⟩ := I.tuple h
    have p' : s.heap.IsTuple a its.toArray := p
    cases hy with
    | non => cases (show v = Value.none from ry); unfold eqD; exact SeqAt.RcAt.tuple_none p' hu
    | bl b => cases (show v = Value.bool b from ry); unfold eqD; exact SeqAt.RcAt.tuple_bool b p' hu
    | int b => obtain ⟨t, rfl⟩ := ry; unfold eqD; exact SeqAt.RcAt.tuple_int b t p' hu
    | str b => obtain ⟨t, rfl⟩ := ry; unfold eqD; exact SeqAt.RcAt.tuple_str b t p' hu
    | @lst b ys es h2 t2 =>
      cases ry
      obtain ⟨its2, r2, p2, _⟩ := I.list h2
      unfold eqD
      exact SeqAt.RcAt.tuple_list p' p2.isList hu
    | @tup b ys es h2 t2 =>
      cases ry
      obtain ⟨its2, r2, p2, _⟩ := I.tuple h2
      have p2' : s.heap.IsTuple b its2.toArray := p2
      have l1 := r.length
      have l2 := r2.length
      have m1 := t1.length
      have m2 := t2.length
      have it := items_eq (A := A.in1) r r2 t1 t2 fun d' hd' e x y u v a b c d => ih d' (by rw [ht_tup]; exact hlt hd') e x y u v a b c d
      unfold eqD
      have q := SeqAt.RcAt.tuples (e := eAt ds es) p' p2' hu it
      have e1 : its.toArray.size = ds.length := by simp only [List.size_toArray]; trivial
      have e2 : its2.toArray.size = es.length := by simp only [List.size_toArray]; trivial
      rw [e1, e2, all_eAt_min] at q
      exact q
theorem eq_deep (I : Inv X pins σ H s) : ∀ (n : Nat) {A : Around} (d : DV), ht d ≤ n → A.units + n < cLine → ∀ (e : DV) (x y : V) (u v : Value), Deep X.K H x d → Deep X.K H y e → RelV x u → RelV y v → SeqAt.EqAt A s u v (eqD d e) := by
  intro n
  induction n with
  | zero =>
    intro A d hd hu e x y u v hx hy rx ry
    have rc := rc_deep I (A := A) d e x y u v hx hy rx ry (by trivial) (fun d' h => absurd h (by trivial))
    exact eq_of_rc I hx hy rx ry rc
  | succ n ihn =>
    intro A d hd hu e x y u v hx hy rx ry
    have rc := rc_deep I (A := A) d e x y u v hx hy rx ry (by trivial) (fun d' h => ihn (A := A.in1) d' (by trivial) (by rw [Around.in1_units]; trivial))
    exact eq_of_rc I hx hy rx ry rc
where
  eq_of_rc (I : Inv X pins σ H s) {A : Around} {d e : DV} {x y : V} {u v : Value} (hx : Deep X.K H x d) (hy : Deep X.K H y e) (rx : RelV x u) (ry : RelV y v) (rc : SeqAt.RcAt A s u v (eqD d e)) : SeqAt.EqAt A s u v (eqD d e) := by
    intro prog w E Q hq
    unfold eqBool
    refine wpAny_holding ?_
    refine wpAny_ite_split (fun hab => ?_) (fun hab => ?_)
    · have e1 : x = y := by
        have e0 := eq_of_beq hab
        rw [e0] at rx
        exact rx.inj ry
      subst e1
      have e2 := Deep.inj I hx hy
      subst e2
      rw [eqD_refl] at hq
      exact wpAny_bind (wpAny_rule (wpAny_pure hq))
    · cases hx <;> cases hy <;> first
        | (cases rx; cases ry; exact wpAny_bind (rc prog w E _ (wpAny_truthy_bool hq)))
        | (obtain ⟨t, rfl⟩ := rx; cases ry; exact wpAny_bind (rc prog w E _ (wpAny_truthy_bool hq)))
        | (cases rx; obtain ⟨t, rfl⟩ := ry; exact wpAny_bind (rc prog w E _ (wpAny_truthy_bool hq)))
        | (obtain ⟨t, rfl⟩ := rx; obtain ⟨t', rfl⟩ := ry; exact wpAny_bind (rc prog w E _ (wpAny_truthy_bool hq)))
theorem rcne_deep (I : Inv X pins σ H s) {A : Around} (d e : DV) (x y : V) (u v : Value) (hx : Deep X.K H x d) (hy : Deep X.K H y e) (rx : RelV x u) (ry : RelV y v) (hu : A.units < cLine)
    (ih : ∀ (d' : DV), ht d' < ht d → ∀ (e : DV) (x y : V) (u v : Value), Deep X.K H x d' → Deep X.K H y e → RelV x u → RelV y v → SeqAt.EqAt A.in1 s u v (eqD d' e)) : SeqAt.RcNeAt A s u v (!eqD d e) := by
  have hlt : ∀ {ds : List DV} {d' : DV}, d' ∈ ds → ht d' < hts ds + 1 := fun {ds d'} hm => by
    obtain ⟨i, hi, e⟩ := List.getElem_of_mem hm
    exact Nat.lt_succ_of_le (hts_get (i := i) (by rw [List.getElem?_eq_getElem hi, e]))
  cases hx with
  | non =>
    cases (show u = Value.none from rx)
    cases hy with
    | non => cases (show v = Value.none from ry); unfold eqD; exact SeqAt.RcNeAt.none_none
    | bl b => cases (show v = Value.bool b from ry); unfold eqD; exact SeqAt.RcNeAt.none_bool b
    | int b => obtain ⟨t, rfl⟩ := ry; unfold eqD; exact SeqAt.RcNeAt.none_int b t
    | str b => obtain ⟨t, rfl⟩ := ry; unfold eqD; exact SeqAt.RcNeAt.none_str b t
    | lst h t => cases ry; obtain ⟨its, r, p, _⟩ := I.list h; unfold eqD; exact SeqAt.RcNeAt.none_list p.isList hu
    | tup h t => cases ry; obtain ⟨its, r, p, _⟩ := I.tuple h; unfold eqD; exact SeqAt.RcNeAt.none_tuple (show s.heap.IsTuple _ its.toArray from p) hu
  | bl a =>
    cases (show u = Value.bool a from rx)
    cases hy with
    | non => cases (show v = Value.none from ry); unfold eqD; exact SeqAt.RcNeAt.bool_none a
    | bl b => cases (show v = Value.bool b from ry); unfold eqD; exact SeqAt.RcNeAt.bool_bool a b
    | int b => obtain ⟨t, rfl⟩ := ry; unfold eqD; exact SeqAt.RcNeAt.bool_int a b t
    | str b => obtain ⟨t, rfl⟩ := ry; unfold eqD; exact SeqAt.RcNeAt.bool_str a b t
    | lst h t => cases ry; obtain ⟨its, r, p, _⟩ := I.list h; unfold eqD; exact SeqAt.RcNeAt.bool_list a p.isList hu
    | tup h t => cases ry; obtain ⟨its, r, p, _⟩ := I.tuple h; unfold eqD; exact SeqAt.RcNeAt.bool_tuple a (show s.heap.IsTuple _ its.toArray from p) hu
  | int a =>
    obtain ⟨t', rfl⟩ := rx
    cases hy with
    | non => cases (show v = Value.none from ry); unfold eqD; exact SeqAt.RcNeAt.int_none a t'
    | bl b => cases (show v = Value.bool b from ry); unfold eqD; exact SeqAt.RcNeAt.int_bool a t' b
    | int b => obtain ⟨t, rfl⟩ := ry; unfold eqD; exact SeqAt.RcNeAt.int_int a t' b t
    | str b => obtain ⟨t, rfl⟩ := ry; unfold eqD; exact SeqAt.RcNeAt.int_str a t' b t
    | lst h t => cases ry; obtain ⟨its, r, p, _⟩ := I.list h; unfold eqD; exact SeqAt.RcNeAt.int_list a t' p.isList hu
    | tup h t => cases ry; obtain ⟨its, r, p, _⟩ := I.tuple h; unfold eqD; exact SeqAt.RcNeAt.int_tuple a t' (show s.heap.IsTuple _ its.toArray from p) hu
  | str a =>
    obtain ⟨t', rfl⟩ := rx
    cases hy with
    | non => cases (show v = Value.none from ry); unfold eqD; exact SeqAt.RcNeAt.str_none a t'
    | bl b => cases (show v = Value.bool b from ry); unfold eqD; exact SeqAt.RcNeAt.str_bool a t' b
    | int b => obtain ⟨t, rfl⟩ := ry; unfold eqD; exact SeqAt.RcNeAt.str_int a t' b t
    | str b => obtain ⟨t, rfl⟩ := ry; unfold eqD; exact SeqAt.RcNeAt.str_str a t' b t
    | lst h t => cases ry; obtain ⟨its, r, p, _⟩ := I.list h; unfold eqD; exact SeqAt.RcNeAt.str_list a t' p.isList hu
    | tup h t => cases ry; obtain ⟨its, r, p, _⟩ := I.tuple h; unfold eqD; exact SeqAt.RcNeAt.str_tuple a t' (show s.heap.IsTuple _ its.toArray from p) hu
  | @lst a xs ds h t1 =>
    cases rx
    obtain ⟨its, r, p, _⟩ := I.list h
    cases hy with
    | non => cases (show v = Value.none from ry); unfold eqD; exact SeqAt.RcNeAt.list_none p.isList hu
    | bl b => cases (show v = Value.bool b from ry); unfold eqD; exact SeqAt.RcNeAt.list_bool b p.isList hu
    | int b => obtain ⟨t, rfl⟩ := ry; unfold eqD; exact SeqAt.RcNeAt.list_int b t p.isList hu
    | str b => obtain ⟨t, rfl⟩ := ry; unfold eqD; exact SeqAt.RcNeAt.list_str b t p.isList hu
    | @lst b ys es h2 t2 =>
      cases ry
      obtain ⟨its2, r2, p2, _⟩ := I.list h2
      have l1 := r.length
      have l2 := r2.length
      have m1 := t1.length
      have m2 := t2.length
      have it := items_eq (A := A.in1) r r2 t1 t2 fun d' hd' e x y u v a b c d => ih d' (by rw [ht_lst]; exact hlt hd') e x y u v a b c d
      unfold eqD
      by_cases hl : ds.length = es.length
      · have q := SeqAt.RcNeAt.lists (e := eAt ds es) p.isList p2.isList (by simp only [List.size_toArray]; trivial) hu it
        rw [← all_eAt ds es hl]
        have e1 : its.toArray.size = ds.length := by simp only [List.size_toArray]; trivial
        rw [e1] at q
        exact q
      · have q := SeqAt.RcNeAt.lists_lengths (A := A) p.isList p2.isList (by simp only [List.size_toArray, bne_iff_ne]; trivial) hu
        cases z : eqDs ds es with
        | false => exact q
        | true => exact absurd (eqDs_len z) hl
    | @tup b ys es h2 t2 =>
      cases ry
      obtain ⟨its2, r2, p2, _⟩ := I.tuple h2
      unfold eqD
      exact SeqAt.RcNeAt.list_tuple p.isList (show s.heap.IsTuple b its2.toArray from p2) hu
  | @tup a xs ds h t1 =>
    cases rx
    obtain ⟨its, r, p, _⟩ := I.tuple h
    have p' : s.heap.IsTuple a its.toArray := p
    cases hy with
    | non => cases (show v = Value.none from ry); unfold eqD; exact SeqAt.RcNeAt.tuple_none p' hu
    | bl b => cases (show v = Value.bool b from ry); unfold eqD; exact SeqAt.RcNeAt.tuple_bool b p' hu
    | int b => obtain ⟨t, rfl⟩ := ry; unfold eqD; exact SeqAt.RcNeAt.tuple_int b t p' hu
    | str b => obtain ⟨t, rfl⟩ := ry; unfold eqD; exact SeqAt.RcNeAt.tuple_str b t p' hu
    | @lst b ys es h2 t2 =>
      cases ry
      obtain ⟨its2, r2, p2, _⟩ := I.list h2
      unfold eqD
      exact SeqAt.RcNeAt.tuple_list p' p2.isList hu
    | @tup b ys es h2 t2 =>
      cases ry
      obtain ⟨its2, r2, p2, _⟩ := I.tuple h2
      have p2' : s.heap.IsTuple b its2.toArray := p2
      have l1 := r.length
      have l2 := r2.length
      have m1 := t1.length
      have m2 := t2.length
      have it := items_eq (A := A.in1) r r2 t1 t2 fun d' hd' e x y u v a b c d => ih d' (by rw [ht_tup]; exact hlt hd') e x y u v a b c d
      unfold eqD
      have q := SeqAt.RcNeAt.tuples (e := eAt ds es) p' p2' hu it
      have e1 : its.toArray.size = ds.length := by simp only [List.size_toArray]; trivial
      have e2 : its2.toArray.size = es.length := by simp only [List.size_toArray]; trivial
      rw [e1, e2, all_eAt_min] at q
      exact q
end
noncomputable def rEqD (K : Frag) : R2 := fun x y H Q => ∃ d e, Deep K H x d ∧ Deep K H y e ∧ ht d ≤ 60 ∧ Q (.bl (eqD d e)) H
theorem op_eqD {X : Cx} (hu : X.A.units + 64 < cLine) : OpR X (compareOp .Eq) (rEqD X.K) := by
  intro pins s σ H x y v u Q I rx ry h
  obtain ⟨d, e, hx, hy, hh, q⟩ := h
  have rc := rc_deep I (A := X.A) d e x y v u hx hy rx ry (by trivial) (fun d' h => eq_deep I 60 d' (by trivial) (by rw [Around.in1_units]; trivial))
  exact rc X.prog X.w X.xe _ ⟨.bl _, H, I, rfl, q⟩
noncomputable def rNeD (K : Frag) : R2 := fun x y H Q => ∃ d e, Deep K H x d ∧ Deep K H y e ∧ ht d ≤ 60 ∧ Q (.bl (!eqD d e)) H
theorem op_neD {X : Cx} (hu : X.A.units + 64 < cLine) : OpR X (compareOp .NotEq) (rNeD X.K) := by
  intro pins s σ H x y v u Q I rx ry h
  obtain ⟨d, e, hx, hy, hh, q⟩ := h
  have rc := rcne_deep I (A := X.A) d e x y v u hx hy rx ry (by trivial) (fun d' h => eq_deep I 60 d' (by trivial) (by rw [Around.in1_units]; trivial))
  exact rc X.prog X.w X.xe _ ⟨.bl _, H, I, rfl, q⟩
end L2
set_option Elab.async false
set_option linter.all false
set_option maxRecDepth 100000
namespace L2
open PySem PySem.Spec PyProof.Rows PySem.W
noncomputable def compOk (osc : Scope) (XN N : List Str) (js : List (Option Nat)) (scope : Scope) : Bool :=
  scope.names.all (fun y => !(y.2 == NameKind.cell)) && scope.names.all (fun y => !(y.2 == NameKind.local) || scope.names.lookup y.1 == some .local) &&
  scope.names.all (fun y => !(y.2 == NameKind.free) || osc.names.lookup y.1 == some .cell || osc.names.lookup y.1 == some .free) && js.length == N.length &&
  (js.zip N).all (fun p => match p.1 with | none => true | some j => XN[j]? == some p.2 && scope.names.lookup p.2 == some .free)
theorem comp_scope {X : Cx} {N : List Str} {js : List (Option Nat)} {scope : Scope} {osc : Scope} {XN : List Str} (hk : scope.kind = .function) (e1 : X.env.scope = osc) (e2 : X.N = XN) (h : compOk osc XN N js scope = true) : CompScope X N js scope := by
  unfold compOk at h
  simp only [Bool.and_eq_true, List.all_eq_true, Bool.or_eq_true, Bool.not_eq_true', beq_iff_eq] at h
  obtain ⟨⟨⟨⟨h1, h2⟩, h3⟩, h4⟩, h5⟩ := h
  refine ⟨hk, fun y hy z => ?_, fun y hy z => ?_, fun y hy z => ?_, h4, fun i j x ej ex => ?_⟩
  · have := h1 y hy
    rw [z] at this; cases this
  · rcases h2 y hy with q | q
    · rw [z] at q; cases q
    · exact q
  · show X.env.scope.names.lookup y.1 = _ ∨ X.env.scope.names.lookup y.1 = _
    rw [e1]
    rcases h3 y hy with (q | q) | q
    · rw [z] at q; cases q
    · exact .inl q
    · exact .inr q
  · have hm : (some j, x) ∈ js.zip N := by
      refine List.mem_iff_getElem?.mpr ⟨i, ?_⟩
      rw [List.getElem?_zip_eq_some]
      exact ⟨ej, ex⟩
    have q := h5 _ hm
    simp only [Bool.and_eq_true, beq_iff_eq] at q
    rw [e2]
    exact q
noncomputable def CW (n : Nat) (Pv : Nat → St → Hp → Prop) (i m : Nat) (σ : St) (H : Hp) : Prop := m = n - i ∧ i ≤ n ∧ Pv i σ H
theorem CW.next {n : Nat} {Pv : Nat → St → Hp → Prop} {i : Nat} {σ : St} {H : Hp} (hi : i < n) (h : Pv (i + 1) σ H) : ∃ m', m' < n - i ∧ CW n Pv (i + 1) m' σ H := ⟨n - (i + 1), by trivial, rfl, hi, h⟩
theorem comp_rng {lo : Int} {n : Nat} {D : Addr} {σ0 : St} {H1 : Hp} {Q : VK} {g : TG} {tc : TT} {te : TE} (Pv : Nat → St → Hp → Prop) (h0 : Pv 0 σ0 (upd H1 D (.lst [])))
    (hs : ∀ i σ' H', i < n → Pv i σ' H' → g (.int (lo + i)) σ' H' fun σ2 H3 => tc σ2 H3 fun b H4 => if b = true then te σ2 H4 fun v H5 => rAppend (.ref D) [v] H5 fun _ H6 => ∃ m', m' < n - i ∧ CW n Pv (i + 1) m' σ2 H6 else ∃ m', m' < n - i ∧ CW n Pv (i + 1) m' σ2 H4)
    (hd : ∀ σ' H', Pv n σ' H' → Q (.ref D) H') :
    ∃ W : Nat → Nat → St → Hp → Prop, (∃ m, W 0 m σ0 (upd H1 D (.lst []))) ∧ ∀ i m σ' H', W i m σ' H' → ((Itr lo n).stop i H' ∧ Q (.ref D) H') ∨ ((Itr lo n).go i H' ∧ ∀ x H2, (Itr lo n).yld i H' x H2 → g x σ' H2 fun σ2 H3 => tc σ2 H3 fun b H4 =>
      if b = true then te σ2 H4 fun v H5 => rAppend (.ref D) [v] H5 fun _ H6 => ∃ m', m' < m ∧ W (i + 1) m' σ2 H6 else ∃ m', m' < m ∧ W (i + 1) m' σ2 H4) := by
  refine ⟨CW n Pv, ⟨n, rfl, Nat.zero_le _, h0⟩, ?_⟩
  rintro i m σ' H' ⟨rfl, hi, p⟩
  by_cases hlt : i < n
  · refine .inr ⟨hlt, fun x H2 y => ?_⟩
    obtain ⟨e, y⟩ := y
    subst e y
    exact hs i σ' _ hlt p
  · have e : i = n := by trivial
    subst e
    exact .inl ⟨Nat.le_refl _, hd σ' H' p⟩
theorem comp_lst {K : Frag} {a : Addr} {xs : List V} {D : Addr} {σ0 : St} {H1 : Hp} {Q : VK} {g : TG} {tc : TT} {te : TE} (Pv : Nat → St → Hp → Prop) (h0 : Pv 0 σ0 (upd H1 D (.lst []))) (hl : ∀ i σ H, i ≤ xs.length → Pv i σ H → SqL K H a xs)
    (hs : ∀ i x σ' H', xs[i]? = some x → Pv i σ' H' → g x σ' H' fun σ2 H3 => tc σ2 H3 fun b H4 => if b = true then te σ2 H4 fun v H5 => rAppend (.ref D) [v] H5 fun _ H6 => ∃ m', m' < xs.length - i ∧ CW xs.length Pv (i + 1) m' σ2 H6 else ∃ m', m' < xs.length - i ∧ CW xs.length Pv (i + 1) m' σ2 H4)
    (hd : ∀ σ' H', Pv xs.length σ' H' → Q (.ref D) H') :
    ∃ W : Nat → Nat → St → Hp → Prop, (∃ m, W 0 m σ0 (upd H1 D (.lst []))) ∧ ∀ i m σ' H', W i m σ' H' → ((Itl K a).stop i H' ∧ Q (.ref D) H') ∨ ((Itl K a).go i H' ∧ ∀ x H2, (Itl K a).yld i H' x H2 → g x σ' H2 fun σ2 H3 => tc σ2 H3 fun b H4 =>
      if b = true then te σ2 H4 fun v H5 => rAppend (.ref D) [v] H5 fun _ H6 => ∃ m', m' < m ∧ W (i + 1) m' σ2 H6 else ∃ m', m' < m ∧ W (i + 1) m' σ2 H4) := by
  refine ⟨CW xs.length Pv, ⟨xs.length, rfl, Nat.zero_le _, h0⟩, ?_⟩
  rintro i m σ' H' ⟨rfl, hi, p⟩
  have q := hl i σ' H' hi p
  by_cases hlt : i < xs.length
  · refine .inr ⟨⟨xs, xs[i], q, by simp [hlt]⟩, fun x H2 y => ?_⟩
    obtain ⟨e, y⟩ := y
    subst e
    exact hs i x σ' _ (y xs q) p
  · have e : i = xs.length := by trivial
    subst e
    exact .inl ⟨⟨xs, q, Nat.le_refl _⟩, hd σ' H' p⟩
noncomputable def rBitLen : V → List V → Hp → VK → Prop := fun x vs H Q => ∃ n, x = .int n ∧ vs = [] ∧ Q (.int (Builtin.Int.intBits n)) H
theorem mt_bitlen {X : Cx} : MtR X "int.bit_length" rBitLen := by
  intro pins s σ H x xs v us Q I rx rv h
  obtain ⟨n, rfl, rfl, q⟩ := h
  obtain ⟨t, rfl⟩ := rx
  cases rv.zero
  exact call_int_bit_length ⟨.int _, H, I.tok _, ⟨_, rfl⟩, q⟩
theorem eqDs_ints : ∀ (a b : List Int), eqDs (a.map DV.int) (b.map DV.int) = decide (a = b)
  | [], [] => by unfold eqDs; rfl
  | [], _ :: _ => by simp [eqDs]
  | _ :: _, [] => by simp [eqDs]
  | x :: r, y :: t => by
    rw [List.map_cons, List.map_cons]
    unfold eqDs eqD
    rw [eqDs_ints r t]
    by_cases h : x = y <;> by_cases h2 : r = t <;> simp [h, h2]
theorem hts_ints : ∀ a : List Int, hts (a.map DV.int) = 0
  | [] => by unfold hts; rfl
  | x :: r => by rw [List.map_cons]; unfold hts ht; rw [hts_ints r]; rfl
noncomputable def rEqI (K : Frag) : R2 := fun x y H Q => ∃ (a b : Addr) (ns ms : List Int), x = .ref a ∧ y = .ref b ∧ SqL K H a (ns.map V.int) ∧ SqL K H b (ms.map V.int) ∧ Q (.bl (decide (ns = ms))) H
noncomputable def rNeI (K : Frag) : R2 := fun x y H Q => ∃ (a b : Addr) (ns ms : List Int), x = .ref a ∧ y = .ref b ∧ SqL K H a (ns.map V.int) ∧ SqL K H b (ms.map V.int) ∧ Q (.bl (!decide (ns = ms))) H
theorem op_eqL {X : Cx} (hu : X.A.units + 64 < cLine) : OpR X (compareOp .Eq) (rEqI X.K) := by
  intro pins s σ H x y v u Q I rx ry h
  obtain ⟨a, b, ns, ms, rfl, rfl, h1, h2, q⟩ := h
  refine op_eqD hu pins s σ H _ _ v u Q I rx ry ⟨_, _, .lst h1 (Deeps.ints ns), .lst h2 (Deeps.ints ms), ?_, ?_⟩
  · unfold ht; rw [hts_ints]; decide
  · unfold eqD; rw [eqDs_ints]; exact q
theorem op_neL {X : Cx} (hu : X.A.units + 64 < cLine) : OpR X (compareOp .NotEq) (rNeI X.K) := by
  intro pins s σ H x y v u Q I rx ry h
  obtain ⟨a, b, ns, ms, rfl, rfl, h1, h2, q⟩ := h
  refine op_neD hu pins s σ H _ _ v u Q I rx ry ⟨_, _, .lst h1 (Deeps.ints ns), .lst h2 (Deeps.ints ms), ?_, ?_⟩
  · unfold ht; rw [hts_ints]; decide
  · unfold eqD; rw [eqDs_ints]; exact q
theorem units_of {A : Around} {k : Nat} (hr : Room k A) : A.units + 64 < cLine := by have := hr.un; trivial
theorem nameT {j : Nat} {v : V} {σ : St} {H : Hp} {A B : St → Hp → Prop} (h : A (σ.set j (some v)) H) : gName j v σ H (fun σ2 H3 => tTrue σ2 H3 (fun b H4 => if b = true then A σ2 H4 else B σ2 H4)) := by
  show if true = true then A (σ.set j (some v)) H else B (σ.set j (some v)) H
  exact iteT h
noncomputable abbrev rLen (K : Frag) : List V → Hp → VK → Prop := fun xs H Q => ∃ p ys, xs = [.ref p] ∧ (SqL K H p ys ∨ SqT K H p ys) ∧ Q (.int ys.length) H
end L2
namespace PH
noncomputable def worth (bs : List Int) : Int := bs.foldl (fun a b => a + a + b) 0
noncomputable def horner (bs : List Int) : Int := bs.foldl (fun a b => 2 * a + b) 0
noncomputable def isBits (bs : List Int) : Prop := ∀ b ∈ bs, b = 0 ∨ b = 1
noncomputable def wl : List Int → Int
  | [] => 0
  | b :: r => b + 2 * wl r
noncomputable def rlow (n : Int) : Nat → List Int
  | 0 => []
  | k + 1 => (n % 2) :: rlow (n / 2) k
noncomputable def lowb (n : Int) (k : Nat) : List Int := (rlow n k).reverse
theorem foldl_worth (bs : List Int) : ∀ a, bs.foldl (fun a b => a + a + b) a = bs.foldl (fun a b => 2 * a + b) a := by
  induction bs with
  | nil => intro a; rfl
  | cons b r ih => intro a; simp only [List.foldl_cons]; rw [show a + a + b = 2 * a + b by trivial]; exact ih _
theorem worth_eq (bs : List Int) : horner bs = worth bs := (foldl_worth bs 0).symm
theorem worth_snoc (bs : List Int) (b : Int) : worth (bs ++ [b]) = worth bs + worth bs + b := by unfold worth; rw [List.foldl_append]; rfl
theorem horner_snoc (bs : List Int) (b : Int) : horner (bs ++ [b]) = 2 * horner bs + b := by unfold horner; rw [List.foldl_append]; rfl
theorem wl_cons (b : Int) (r : List Int) : wl (b :: r) = b + 2 * wl r := rfl
theorem worth_rev : ∀ rs : List Int, worth rs.reverse = wl rs
  | [] => rfl
  | b :: r => by rw [List.reverse_cons, worth_snoc, worth_rev r, wl_cons]; trivial
theorem worth_wl (bs : List Int) : worth bs = wl bs.reverse := by rw [← worth_rev, List.reverse_reverse]
theorem isBits_rev {bs : List Int} (h : isBits bs) : isBits bs.reverse := fun b hb => h b (List.mem_reverse.mp hb)
theorem rlow_length (n : Int) (k : Nat) : (rlow n k).length = k := by
  induction k generalizing n with
  | zero => rfl
  | succ k ih => unfold rlow; rw [List.length_cons, ih]
theorem lowb_length (n : Int) (k : Nat) : (lowb n k).length = k := by unfold lowb; rw [List.length_reverse, rlow_length]
theorem rlow_bits (n : Int) (k : Nat) : isBits (rlow n k) := by
  induction k generalizing n with
  | zero => intro b hb; cases hb
  | succ k ih =>
    intro b hb
    unfold rlow at hb
    rcases List.mem_cons.mp hb with e | hb
    · trivial
    · exact ih _ b hb
theorem lowb_bits (n : Int) (k : Nat) : isBits (lowb n k) := isBits_rev (rlow_bits n k)
theorem rlow_snoc (n : Int) (k : Nat) : rlow n (k + 1) = rlow n k ++ [(n / 2 ^ k) % 2] := by
  induction k generalizing n with
  | zero => unfold rlow rlow; simp
  | succ k ih =>
    rw [show rlow n (k + 1 + 1) = (n % 2) :: rlow (n / 2) (k + 1) from rfl, ih]
    rw [show rlow n (k + 1) = (n % 2) :: rlow (n / 2) k from rfl, List.cons_append]
    congr 3
    rw [Int.pow_succ, Int.mul_comm, ← Int.ediv_ediv_of_nonneg (by decide)]
theorem div_pow_succ (n : Int) (k : Nat) : n / 2 ^ k / 2 = n / 2 ^ (k + 1) := by
  rw [Int.ediv_ediv_of_nonneg (Int.le_of_lt (Int.pow_pos (by decide))), Int.pow_succ]
theorem rlow_zero (k : Nat) : rlow 0 k = List.replicate k 0 := by
  induction k with
  | zero => rfl
  | succ k ih => unfold rlow; rw [List.replicate_succ]; simp [ih]
theorem rlow_wl : ∀ (rs : List Int), isBits rs → ∀ m, rlow (wl rs) (rs.length + m) = rs ++ List.replicate m 0
  | [], _, m => by rw [List.length_nil, Nat.zero_add]; unfold wl; rw [rlow_zero]; rfl
  | b :: r, h, m => by
    have hb := h b List.mem_cons_self
    have ih := rlow_wl r (fun c hc => h c (List.mem_cons_of_mem _ hc)) m
    rw [show (b :: r).length + m = (r.length + m) + 1 by rw [List.length_cons]; trivial]
    unfold rlow
    have e1 : wl (b :: r) % 2 = b := by rw [wl_cons]; trivial
    have e2 : wl (b :: r) / 2 = wl r := by rw [wl_cons]; trivial
    rw [e1, e2, ih]; rfl
theorem lowb_worth {bs : List Int} (h : isBits bs) (m : Nat) : lowb (worth bs) (bs.length + m) = List.replicate m 0 ++ bs := by
  unfold lowb
  rw [worth_wl, show bs.length = bs.reverse.length by rw [List.length_reverse], rlow_wl _ (isBits_rev h), List.reverse_append, List.reverse_reverse, List.reverse_replicate]
theorem wl_bound : ∀ (rs : List Int), isBits rs → 0 ≤ wl rs ∧ wl rs < 2 ^ rs.length
  | [], _ => by unfold wl; simp
  | b :: r, h => by
    have hb := h b List.mem_cons_self
    have ih := wl_bound r fun c hc => h c (List.mem_cons_of_mem _ hc)
    rw [List.length_cons, Int.pow_succ, wl_cons]
    trivial
theorem worth_bound {bs : List Int} (h : isBits bs) : 0 ≤ worth bs ∧ worth bs < 2 ^ bs.length := by
  have := wl_bound _ (isBits_rev h)
  rw [List.length_reverse, ← worth_wl] at this
  exact this
theorem foldl_shift (bs : List Int) : ∀ a, bs.foldl (fun a b => a + a + b) a = a * 2 ^ bs.length + worth bs := by
  induction bs with
  | nil => intro a; unfold worth; simp
  | cons b r ih =>
    intro a
    rw [List.foldl_cons, ih]
    show _ = a * 2 ^ (r.length + 1) + (r.foldl _ (0 + 0 + b))
    rw [ih (0 + 0 + b), Int.pow_succ, Int.add_mul, Int.add_mul]
    rw [show a * (2 ^ r.length * 2) = a * 2 ^ r.length * 2 by rw [Int.mul_assoc]]
    generalize a * 2 ^ r.length = z
    have : (0 + 0 + b) * 2 ^ r.length = b * 2 ^ r.length := by rw [show (0 : Int) + 0 + b = b by trivial]
    rw [this]
    trivial
theorem worth_zeros (z : Nat) (bs : List Int) : worth (List.replicate z 0 ++ bs) = worth bs := by
  unfold worth
  rw [List.foldl_append]
  congr 1
  induction z with
  | zero => rfl
  | succ z ih => rw [List.replicate_succ, List.foldl_cons]; exact ih
theorem worth_one (t : List Int) (h : isBits t) : 2 ^ t.length ≤ worth (1 :: t) ∧ worth (1 :: t) < 2 ^ (t.length + 1) := by
  have e : worth (1 :: t) = 1 * 2 ^ t.length + worth t := by
    show t.foldl _ (0 + 0 + 1) = _
    rw [foldl_shift]; rfl
  have := worth_bound h
  rw [Int.pow_succ]
  trivial
theorem bits_split : ∀ (bs : List Int), isBits bs → (bs = List.replicate bs.length 0) ∨ ∃ z t, bs = List.replicate z 0 ++ 1 :: t ∧ isBits t
  | [], _ => .inl rfl
  | b :: r, h => by
    have hr : isBits r := fun c hc => h c (List.mem_cons_of_mem _ hc)
    rcases h b List.mem_cons_self with e | e
    · rcases bits_split r hr with q | ⟨z, t, q, ht⟩
      · left; rw [e, List.length_cons, List.replicate_succ, ← q]
      · right; exact ⟨z + 1, t, by rw [List.replicate_succ, List.cons_append, ← q, e], ht⟩
    · right; exact ⟨0, r, by rw [e]; rfl, hr⟩
noncomputable def blen (n : Int) : Nat := if n == 0 then 0 else n.natAbs.log2 + 1
theorem blen_le {n : Int} {m : Nat} : blen n ≤ m ↔ n.natAbs < 2 ^ m := by
  unfold blen
  by_cases h0 : n = 0
  · subst h0
    simp [Nat.pow_pos]
  · have h1 : (n == 0) = false := by simpa using h0
    rw [h1]
    simp only [Bool.false_eq_true, if_false]
    have hn : n.natAbs ≠ 0 := by trivial
    rw [Nat.add_one_le_iff]
    exact Nat.log2_lt hn
theorem blen_one {t : List Int} (h : isBits t) : blen (worth (1 :: t)) = t.length + 1 := by
  have b := worth_one t h
  have p0 : (0 : Int) < 2 ^ t.length := Int.pow_pos (by decide)
  have e : ((worth (1 :: t)).natAbs : Int) = worth (1 :: t) := Int.natAbs_of_nonneg (by trivial)
  have c1 : (((2 : Nat) ^ t.length : Nat) : Int) = (2 : Int) ^ t.length := by norm_cast
  have c2 : (((2 : Nat) ^ (t.length + 1) : Nat) : Int) = (2 : Int) ^ (t.length + 1) := by norm_cast
  have h1 : blen (worth (1 :: t)) ≤ t.length + 1 := blen_le.mpr (by trivial)
  have h2 : ¬ blen (worth (1 :: t)) ≤ t.length := fun z => by have := blen_le.mp z; trivial
  trivial
theorem blen_pos {n : Int} (h : 1 ≤ n) : 1 ≤ blen n := by
  have : ¬ blen n ≤ 0 := fun z => by have := blen_le.mp z; trivial
  trivial
theorem lt_blen {n : Int} (h : 0 ≤ n) : n < 2 ^ blen n := by
  have := (blen_le (n := n) (m := blen n)).mp (Nat.le_refl _)
  have e : (n.natAbs : Int) = n := Int.natAbs_of_nonneg h
  have c1 : (((2 : Nat) ^ blen n : Nat) : Int) = (2 : Int) ^ blen n := by norm_cast
  trivial
noncomputable def endb (n : Int) : List Int := List.replicate (blen n - 1) 0 ++ lowb n (blen n)
theorem endb_one {t : List Int} (h : isBits t) : endb (worth (1 :: t)) = List.replicate t.length 0 ++ (1 :: t) := by
  unfold endb
  have hb : isBits (1 :: t) := fun c hc => by
    rcases List.mem_cons.mp hc with r | r
    · exact .inr r
    · exact h c r
  have l := lowb_worth hb 0
  rw [Nat.add_zero, List.length_cons] at l
  rw [blen_one h, l]
  rfl
theorem endb_bits (n : Int) : isBits (endb n) := fun b hb => by
  rcases List.mem_append.mp hb with h | h
  · exact .inl (List.eq_of_mem_replicate h)
  · exact lowb_bits n _ b h
end PH
set_option Elab.async false
set_option linter.all false
set_option maxRecDepth 100000
set_option maxHeartbeats 4000000
namespace PH
open PySem L2 PySem.W
theorem same_new {H : Hp} {p : Addr} (h : H p = none) (o : HO) : Same H (upd H p o) := fun b u q => by rw [upd_ne (ne_of_none q h)]; exact q
noncomputable def deckO (a b c : Int) : HO := .lst [.int a, .int b, .int c]
noncomputable def lsI (ns : List Int) : HO := .lst (ns.map V.int)
noncomputable def spWorth (K : PySem.W.Frag) : Sp := fun vs H Q _ => ∃ (a : Addr) (bs : List Int), vs = [.ref a] ∧ SqL K H a (bs.map V.int) ∧ Q (.int (worth bs)) H
theorem int_at {ns : List Int} {i : Nat} {y : V} (h : (ns.map V.int)[i]? = some y) : ∃ z, y = V.int z ∧ ns[i]? = some z := by
  rw [List.getElem?_map] at h
  cases e : ns[i]? with
  | none => rw [e] at h; cases h
  | some z => rw [e] at h; exact ⟨z, (Option.some.inj h).symm, rfl⟩
theorem take_at {α : Type} {ns : List α} {i : Nat} {z : α} (h : ns[i]? = some z) : ns.take (i + 1) = ns.take i ++ [z] := by rw [List.take_add_one, h]; rfl
theorem cut_to {α : Type} {f : Int → V} (ns : List Int) (k : Nat) : cutV (ns.map f) none (some (k : Int)) = (ns.take k).map f := by
  unfold cutV
  rw [HT.sIx_none, HT.sIx_nat, List.drop_zero, Nat.sub_zero, List.length_map, ← List.map_take]
  congr 1
  rcases Nat.le_total k ns.length with h | h
  · rw [Nat.min_eq_left h]
  · rw [Nat.min_eq_right h, List.take_of_length_le (Nat.le_refl _), List.take_of_length_le h]
abbrev bmV : List Value := [.type "ValueError", .type "Exception", .type "BaseException", .type "object"]
structure Ex (K : Frag) (mg : Str → Option Value) (x : Str) (C : Addr) : Prop where
  mg : mg x = some (.ref C)
  ex : excIn K C bmV "ValueError.__new__" = true
  cl : ExcC K C
theorem bits_over {n : Int} {k : Nat} (h0 : 0 ≤ n) : decide (((k : Nat) : Int) < ((Builtin.Int.intBits n : Nat) : Int)) = decide (2 ^ k ≤ n) := by
  have h := intBits_le_iff (m := k) (x := n)
  have e : ((n.natAbs : Nat) : Int) = n := Int.natAbs_of_nonneg h0
  have e2 : (((2 ^ k : Nat)) : Int) = (2 : Int) ^ k := by norm_cast
  apply decide_eq_decide.mpr
  constructor
  · intro q
    have : ¬ n.natAbs < 2 ^ k := fun z => by have := h.mpr z; trivial
    trivial
  · intro q
    have : ¬ Builtin.Int.intBits n ≤ k := fun z => by have := h.mp z; trivial
    trivial
theorem kit_refl (K : Frag) (t : Value) : kitOne K t t = some true := by unfold kitOne; rw [if_pos (beq_self_eq_true t)]
theorem kit_ib (K : Frag) : kitOne K (.type "int") (.type "bool") = some false := by rfl
theorem boot_isi : bootBuiltins "isinstance" = some (.builtin "isinstance") := by decide +kernel
theorem boot_list' : bootBuiltins "list" = some (.type "list") := by decide +kernel
theorem boot_int' : bootBuiltins "int" = some (.type "int") := by decide +kernel
theorem boot_bool' : bootBuiltins "bool" = some (.type "bool") := by decide +kernel
theorem boot_VE : bootBuiltins "ValueError" = some (.type "ValueError") := by decide +kernel
structure Bl (mg : Str → Option Value) : Prop where
  isi : mg "isinstance" = none
  list : mg "list" = none
  int : mg "int" = none
  bool : mg "bool" = none
  len : mg "len" = none
  range : mg "range" = none
  max : mg "max" = none
  ve : mg "ValueError" = none
theorem cut_from (ns : List Int) (k : Nat) : cutV (ns.map V.int) (some (k : Int)) none = (ns.drop k).map V.int := by
  unfold cutV
  rw [HT.sIx_none, HT.sIx_nat, List.length_map]
  rcases Nat.le_total k ns.length with h | h
  · rw [Nat.min_eq_left h, ← List.map_drop, List.take_of_length_le (by rw [List.length_map, List.length_drop]; exact Nat.le_refl _)]
  · rw [Nat.min_eq_right h, Nat.sub_self, List.take_zero, List.drop_of_length_le h]; rfl
theorem rep_ints (m : Nat) (x : Int) : (List.replicate m [V.int x]).flatten = (List.replicate m x).map V.int := by
  induction m with
  | zero => rfl
  | succ m ih => rw [List.replicate_succ, List.replicate_succ, List.flatten_cons, List.map_cons, ih]; rfl
noncomputable def spLaw (K : PySem.W.Frag) : Sp := fun vs H Q _ => ∃ (a : Addr) (ns : List Int), vs = [.ref a] ∧ SqL K H a (ns.map V.int) ∧ ns.length ≤ 63 ∧ ∀ H', Q (.bl true) H'
theorem fits {n : Nat} (h : n ≤ 1000000) : n ≤ sizeLine := by
  have : sizeLine = 16777216 := by decide
  trivial
theorem fits_lt {n : Nat} (h : n ≤ 1000000) : n < sizeLine := by
  have : sizeLine = 16777216 := by decide
  trivial
end PH
namespace PH
noncomputable def firstOne : List Int → Option Nat
  | [] => none
  | b :: r => if b = 1 then some 0 else (firstOne r).map (· + 1)
noncomputable def readE (bs : List Int) (at_ : Int) : Option (Int × Nat) :=
  if at_ < 0 then none else
  match firstOne (bs.drop at_.toNat) with
  | none => none
  | some d => if bs.length < at_.toNat + d + d + 1 then none else some (worth ((bs.drop (at_.toNat + d)).take (d + 1)), at_.toNat + d + d + 1)
theorem firstOne_lt : ∀ {bs : List Int} {d : Nat}, firstOne bs = some d → d < bs.length
  | [], _, h => by cases h
  | b :: r, d, h => by
    unfold firstOne at h
    split at h
    · cases h; exact Nat.succ_pos _
    · cases e : firstOne r with
      | none => rw [e] at h; cases h
      | some k =>
        rw [e] at h
        have : k + 1 = d := Option.some.inj h
        have := firstOne_lt e
        rw [List.length_cons]; trivial
theorem firstOne_step {bs : List Int} {k : Nat} {z : Int} (h : bs[k]? = some z) : firstOne (bs.drop k) = if z = 1 then some 0 else (firstOne (bs.drop (k + 1))).map (· + 1) := by
  obtain ⟨hk, e⟩ := List.getElem?_eq_some_iff.mp h
  rw [List.drop_eq_getElem_cons hk, e]; rfl
theorem firstOne_end {bs : List Int} {k : Nat} (h : bs.length ≤ k) : firstOne (bs.drop k) = none := by rw [List.drop_of_length_le h]; rfl
end PH
set_option Elab.async false
set_option linter.all false
set_option maxRecDepth 100000
namespace L2
open PySem PySem.Spec PyProof.Rows PySem.W
noncomputable def Itrs (lo c : Int) (n : Nat) : It := ⟨fun i _ => i < n, fun i H x H' => H' = H ∧ x = .int (lo + i * c), fun i _ => n ≤ i⟩
theorem turn_rangeS {P : Program} {w : World} {K : PySem.W.Frag} {tg : Expr} (it : Addr) (lo c : Int) (n : Nat) : Turn P w K tg (Itrs lo c n) [it] it (fun i h => IsRangeIter h it (lo + (i : Nat) * c) ((n : Int) - (i : Nat)) c) where
  mem := by simp
  obj := fun i h st b hb => by
    have e : b = it := by simpa using hb
    subst e
    exact ⟨_, st, fun v z => by
      have z' : Data.fields _ = Data.cell v := z
      cases z'⟩
  keep := fun i h h' st k => k it (by simp) _ st
  item := by
    intro X hP hw hK hc i pins s σ H E I hf st hg
    subst hP hw hK
    obtain ⟨f0, f1, f2, f3, f4, f5⟩ := hf it (by simp)
    have W := Walks.range (prog := X.prog) (w := X.w) (I.ok.hd hc) it lo c n
    refine W.item i s _ _ hg st fun v h' tk hv st' kk => ?_
    obtain ⟨t, rfl⟩ := hv
    have I1 : Inv X pins σ H { s with heap := h', toks := tk } := I.turned (fun b o hb e => kk b o (by simpa using hb) e) f0 f1 f3 f4 f5
    exact ⟨_, rfl, go_of (s := { s with heap := h', toks := tk }) (n := "range_iterator") st' rfl rfl (by decide) ⟨.int (lo + i * c), H, I1, ⟨t, rfl⟩, ⟨rfl, rfl⟩, st', fun b hb => (hf b hb).1⟩⟩
  done := by
    intro X hP hw hK hc i pins s σ H E I hf st hg
    subst hP hw hK
    obtain ⟨f0, f1, f2, f3, f4, f5⟩ := hf it (by simp)
    exact wpAny_pyNext_range_end (I.ok.hd hc) st (by have : n ≤ i := hg; trivial) fun h' eb => ⟨rfl, I.turned (t' := s.toks) (fun b o hb e => eb b o hb e) f0 f1 f3 f4 f5⟩
  self := fun _ _ _ _ _ st h => wpAny_pyIter_rangeiter st h
theorem rangeSize_nn (a b c : Int) : 0 ≤ Builtin.Range.rangeSize a b c := by
  unfold Builtin.Range.rangeSize
  split
  · split
    · have := Int.ediv_nonneg (a := b - a - 1) (b := c) (by trivial) (by trivial)
      trivial
    · trivial
  · split
    · by_cases hc : c = 0
      · subst hc; simp
      · have := Int.ediv_nonneg (a := a - b - 1) (b := -c) (by trivial) (by trivial)
        trivial
    · trivial
section
variable {X : Cx} {tg : Expr}
theorem range_itS {pins : List (Addr × Obj)} {σ : St} {H : Hp} {s : Shared} {R : It → Hp → Prop} {E : Value → Shared → Prop} {lo hi c : Int} {t u v : Tok} {tk : Nat} (I : Inv X pins σ H s) (h1 : Builtin.Range.small lo hi c = true)
    (q : R (Itrs lo c (Builtin.Range.rangeSize lo hi c).toNat) H) : wpAny (model X.prog X.w) X.A (pyIter (.ref s.heap.objs.size)) (PIE X pins σ tg R) E { s with heap := s.heap.push { cls := .type "range", data := .fields #[.int lo t, .int hi u, .int c v] }, toks := tk } := by
  refine wpAny_pyIter_range (IsRange.new ..) h1 ?_
  have I1 : Inv X pins σ H { s with heap := s.heap.push { cls := .type "range", data := .fields #[.int lo t, .int hi u, .int c v] }, toks := tk } := I.kept fun b o e => Heap.get?_push_of_some _ e
  refine ⟨(s.heap.push { cls := .type "range", data := .fields #[.int lo t, .int hi u, .int c v] }).objs.size, [(s.heap.push { cls := .type "range", data := .fields #[.int lo t, .int hi u, .int c v] }).objs.size], _, _, H, rfl,
    I1.kept (t' := tk) fun b o e => Heap.get?_push_of_some _ e, turn_rangeS _ lo c (Builtin.Range.rangeSize lo hi c).toNat, ?_, fun b hb => ?_, q⟩
  · have e1 : lo + ((0 : Nat) : Int) * c = lo := by simp
    have e2 : (((Builtin.Range.rangeSize lo hi c).toNat : Nat) : Int) - ((0 : Nat) : Int) = Builtin.Range.rangeSize lo hi c := by have := rangeSize_nn lo hi c; trivial
    show IsRangeIter _ _ (lo + ((0 : Nat) : Int) * c) ((((Builtin.Range.rangeSize lo hi c).toNat : Nat) : Int) - ((0 : Nat) : Int)) c
    rw [e1, e2]
    exact Heap.get?_push_size _ rfl
  · have e : b = (s.heap.push { cls := .type "range", data := .fields #[.int lo t, .int hi u, .int c v] }).objs.size := by simpa using hb
    subst e
    exact I1.fpOk (Nat.le_refl _) (I1.hok.fresh (Nat.le_refl _))
noncomputable def iRng3 (ta : TA) : TI := fun σ H R => ta σ H fun vs H1 => ∃ i j c : Int, vs = [.int i, .int j, .int c] ∧ (c ≠ 0 ∧ c.natAbs < 1073741824) ∧ Builtin.Range.small i j c = true ∧ R (Itrs i c (Builtin.Range.rangeSize i j c).toNat) H1
theorem pi_range3 {a b d : Expr} {ta : TA} {p pos : Pos} (hg : Gl X "range") (hm : X.mg "range" = none) (ha : PA X [a, b, d] ta) (hs : starEach [a, b, d] X.env = (false, eval a X.env) :: starEach [b, d] X.env := by rfl) (hpl : (backTo pos (starEach [b, d] X.env)).any (·.1) = false := by rfl) :
    PI X tg (.Call (.Name "range" p) [a, b, d] [] pos) (iRng3 ta) := by
  intro pins s σ H R I h
  refine Call_ (ld_blt I hg hm boot_range (PyProof.Rows.callWith_type1 (thn (ha pos pins s σ H _ I h) fun us s1 ⟨vs, H1, I1, r1, q1⟩ => ?_) hs hpl))
  obtain ⟨i, j, c, e, ⟨c0, c1⟩, sm, q⟩ := q1
  subst e
  cases r1 with
  | cons r rr =>
    cases rr with
    | cons r' rr =>
      cases rr with
      | cons r'' rr =>
        cases rr
        obtain ⟨t, rfl⟩ := r
        obtain ⟨t', rfl⟩ := r'
        obtain ⟨t'', rfl⟩ := r''
        exact call_range_3 c0 (range_itS (tk := s1.toks) I1 sm q) (.inl (PyProof.noPylong_small c1))
end
theorem for_rangeS {lo c : Int} {n : Nat} {g : TG} {tb : TS} {D : Ends} {σ : St} {H : Hp} (Pv : Nat → St → Hp → Prop) (h0 : Pv 0 σ H)
    (hs : ∀ i σ H, i < n → Pv i σ H → g (.int (lo + i * c)) σ H fun σ2 H2 => tb { D with nx := Pv (i + 1), ct := Pv (i + 1), bk := D.nx } σ2 H2) (hd : ∀ σ H, Pv n σ H → D.nx σ H) :
    ∃ W : Nat → Nat → St → Hp → Prop, (∃ m, W 0 m σ H) ∧ ∀ i m σ H, W i m σ H →
      ((Itrs lo c n).stop i H ∧ D.nx σ H) ∨ ((Itrs lo c n).go i H ∧ ∃ N : St → Hp → Prop, (∀ σ' H', N σ' H' → ∃ m', m' < m ∧ W (i + 1) m' σ' H') ∧ ∀ x H', (Itrs lo c n).yld i H x H' → g x σ H' fun σ2 H2 => tb { D with nx := N, ct := N, bk := D.nx } σ2 H2) := by
  refine ⟨fun i m σ H => m = n - i ∧ i ≤ n ∧ Pv i σ H, ⟨n, by simp, Nat.zero_le _, h0⟩, ?_⟩
  rintro i m σ H ⟨rfl, hi, p⟩
  by_cases hlt : i < n
  · refine .inr ⟨hlt, Pv (i + 1), fun σ' H' p' => ⟨n - (i + 1), by trivial, rfl, hlt, p'⟩, fun x H' y => ?_⟩
    obtain ⟨e, y⟩ := y
    subst e y
    exact hs i σ _ hlt p
  · have e : i = n := by trivial
    subst e
    exact .inl ⟨Nat.le_refl _, hd σ H p⟩
theorem small_step {a b : Int} {c : Int} (ha : -(2 ^ 61) ≤ a) (ha' : a < 2 ^ 61) (hb : -(2 ^ 61) ≤ b) (hb' : b < 2 ^ 61) (hc : 1 ≤ c) (hc' : c < 2 ^ 60) : Builtin.Range.small a b c = true := by
  have h0 := rangeSize_nn a b c
  have h1 : Builtin.Range.rangeSize a b c ≤ 2 ^ 62 := by
    unfold Builtin.Range.rangeSize
    rw [if_pos (by trivial)]
    split
    · have : (b - a - 1) / c ≤ b - a - 1 := Int.ediv_le_self _ (by trivial)
      trivial
    · decide
  unfold Builtin.Range.small
  simp only [Builtin.Range.rangeFitsLong, Bool.and_eq_true, Bool.or_eq_true, decide_eq_true_eq, beq_iff_eq]
  rw [if_pos (show c > 0 by trivial)]
  simp only [Bool.and_eq_true, decide_eq_true_eq]
  trivial
theorem comp_rngQ {lo : Int} {n : Nat} {D : Addr} {σ0 : St} {H1 : Hp} {Qd : Hp → Prop} {g : TG} {tc : TT} {te : TE} (Pv : Nat → St → Hp → Prop) (h0 : Pv 0 σ0 (upd H1 D (.lst [])))
    (hs : ∀ i σ' H', i < n → Pv i σ' H' → g (.int (lo + i)) σ' H' fun σ2 H3 => tc σ2 H3 fun b H4 => if b = true then te σ2 H4 fun v H5 => rAppend (.ref D) [v] H5 fun _ H6 => ∃ m', m' < n - i ∧ CW n Pv (i + 1) m' σ2 H6 else ∃ m', m' < n - i ∧ CW n Pv (i + 1) m' σ2 H4)
    (hd : ∀ σ' H', Pv n σ' H' → Qd H') :
    ∃ W : Nat → Nat → St → Hp → Prop, (∃ m, W 0 m σ0 (upd H1 D (.lst []))) ∧ ∀ i m σ' H', W i m σ' H' → ((Itr lo n).stop i H' ∧ Qd H') ∨ ((Itr lo n).go i H' ∧ ∀ x H2, (Itr lo n).yld i H' x H2 → g x σ' H2 fun σ2 H3 => tc σ2 H3 fun b H4 =>
      if b = true then te σ2 H4 fun v H5 => rAppend (.ref D) [v] H5 fun _ H6 => ∃ m', m' < m ∧ W (i + 1) m' σ2 H6 else ∃ m', m' < m ∧ W (i + 1) m' σ2 H4) :=
  comp_rng (Q := fun _ H => Qd H) Pv h0 hs hd
theorem comp_lstQ {K : Frag} {a : Addr} {xs : List V} {D : Addr} {σ0 : St} {H1 : Hp} {Qd : Hp → Prop} {g : TG} {tc : TT} {te : TE} (Pv : Nat → St → Hp → Prop) (h0 : Pv 0 σ0 (upd H1 D (.lst []))) (hl : ∀ i σ H, i ≤ xs.length → Pv i σ H → SqL K H a xs)
    (hs : ∀ i x σ' H', xs[i]? = some x → Pv i σ' H' → g x σ' H' fun σ2 H3 => tc σ2 H3 fun b H4 => if b = true then te σ2 H4 fun v H5 => rAppend (.ref D) [v] H5 fun _ H6 => ∃ m', m' < xs.length - i ∧ CW xs.length Pv (i + 1) m' σ2 H6 else ∃ m', m' < xs.length - i ∧ CW xs.length Pv (i + 1) m' σ2 H4)
    (hd : ∀ σ' H', Pv xs.length σ' H' → Qd H') :
    ∃ W : Nat → Nat → St → Hp → Prop, (∃ m, W 0 m σ0 (upd H1 D (.lst []))) ∧ ∀ i m σ' H', W i m σ' H' → ((Itl K a).stop i H' ∧ Qd H') ∨ ((Itl K a).go i H' ∧ ∀ x H2, (Itl K a).yld i H' x H2 → g x σ' H2 fun σ2 H3 => tc σ2 H3 fun b H4 =>
      if b = true then te σ2 H4 fun v H5 => rAppend (.ref D) [v] H5 fun _ H6 => ∃ m', m' < m ∧ W (i + 1) m' σ2 H6 else ∃ m', m' < m ∧ W (i + 1) m' σ2 H4) :=
  comp_lst (Q := fun _ H => Qd H) Pv h0 hl hs hd
end L2
set_option Elab.async false
set_option linter.all false
set_option maxRecDepth 100000
set_option maxHeartbeats 4000000
namespace PH
open PySem L2 PySem.W
theorem boot_tuple' : bootBuiltins "tuple" = some (.type "tuple") := by decide +kernel
noncomputable def spFirst (K : Frag) (cB : Addr) : Sp := fun vs H Q E => ∃ (a : Addr) (bs : List Int) (i : Int), vs = [.ref a, .int i] ∧ SqL K H a (bs.map V.int) ∧ bs.length ≤ 100000 ∧ i ≤ 1000000 ∧
  ((i < 0 ∧ E (.ref cB) none H) ∨ (0 ≤ i ∧ match firstOne (bs.drop i.toNat) with | none => E (.ref cB) none H | some d => Q (.int ((i.toNat + d : Nat) : Int)) H))
noncomputable def spRead (K : Frag) (cB : Addr) : Sp := fun vs H Q E => ∃ (a : Addr) (bs : List Int) (i : Int), vs = [.ref a, .int i] ∧ SqL K H a (bs.map V.int) ∧ bs.length ≤ 100000 ∧ i ≤ 1000000 ∧
  (match readE bs i with | none => E (.ref cB) none H | some (n, b) => ∀ (t : Addr) (H' : Hp), Same H H' → H t = none → H' t = some (.tup [.int n, .int b]) → Q (.ref t) H')
structure ExR (K : Frag) (cP cN c1 c2 c3 c4 c5 c6 : Addr) : Prop where
  m : mroIn K cN (.ref cP) = some true
  v : kitOne K (.ref cN) (.type "ValueError") = some true
  o : kitAny K (.ref cN) [.ref c1, .ref c2, .ref c3, .ref c4, .ref c5, .ref c6] = some false
theorem cut_two (ns : List Int) (i j : Nat) : cutV (ns.map V.int) (some (i : Int)) (some (j : Int)) = ((ns.drop i).take (j - i)).map V.int := by
  unfold cutV
  rw [HT.sIx_nat, HT.sIx_nat, List.length_map, ← List.map_drop, ← List.map_take]
  congr 1
  rcases Nat.le_total i ns.length with h | h
  · rw [Nat.min_eq_left h]
    rcases Nat.le_total j ns.length with h2 | h2
    · rw [Nat.min_eq_left h2]
    · rw [Nat.min_eq_right h2, List.take_of_length_le (by rw [List.length_drop]; exact Nat.le_refl _), List.take_of_length_le (by rw [List.length_drop]; trivial)]
  · rw [Nat.min_eq_right h, List.drop_of_length_le (Nat.le_refl _), List.drop_of_length_le h, List.take_nil, List.take_nil]
end PH
namespace PH
theorem wl_rlow (n : Int) (k : Nat) : wl (rlow n k) = n % 2 ^ k := by
  induction k generalizing n with
  | zero => unfold rlow wl; simp [Int.emod_one]
  | succ k ih =>
    unfold rlow
    rw [wl_cons, ih, Int.pow_succ]
    have p : (0 : Int) < 2 ^ k := Int.pow_pos (by decide)
    generalize (2 : Int) ^ k = m at *
    have h1 := Int.mul_ediv_add_emod (n / 2) m
    have h2 := Int.mul_ediv_add_emod n (m * 2)
    have h3 : n / 2 / m = n / (2 * m) := Int.ediv_ediv_of_nonneg (by decide)
    rw [h3, Int.mul_comm 2 m] at h1
    generalize n / (m * 2) = z at *
    have h4 : m * 2 * z = 2 * (m * z) := by rw [Int.mul_comm m 2, Int.mul_assoc]
    rw [h4] at h2
    generalize m * z = y at *
    trivial
theorem worth_lowb {n : Int} {k : Nat} (h0 : 0 ≤ n) (h1 : n < 2 ^ k) : worth (lowb n k) = n := by
  unfold lowb
  rw [worth_rev, wl_rlow, Int.emod_eq_of_lt h0 h1]
theorem endb_form {n : Int} (h : 1 ≤ n) : ∃ t, isBits t ∧ n = worth (1 :: t) ∧ endb n = List.replicate t.length 0 ++ 1 :: t ∧ blen n = t.length + 1 := by
  have e := worth_lowb (n := n) (by trivial) (lt_blen (by trivial))
  rcases bits_split _ (lowb_bits n (blen n)) with q | ⟨z, t, q, ht⟩
  · rw [q] at e
    have := worth_zeros (lowb n (blen n)).length []
    rw [List.append_nil] at this
    rw [this] at e
    have : worth [] = 0 := rfl
    trivial
  · have e2 : n = worth (1 :: t) := by rw [← e, q, worth_zeros]
    refine ⟨t, ht, e2, ?_, ?_⟩
    · rw [e2]; exact endb_one ht
    · rw [e2]; exact blen_one ht
theorem firstOne_zeros (d : Nat) (r : List Int) : firstOne (List.replicate d 0 ++ 1 :: r) = some d := by
  induction d with
  | zero => rfl
  | succ d ih => rw [List.replicate_succ, List.cons_append]; unfold firstOne; rw [if_neg (by decide), ih]; rfl
theorem drop_pre {α : Type} (pre r : List α) : (pre ++ r).drop pre.length = r := by simp
theorem readE_at (pre r : List Int) : readE (pre ++ r) (pre.length : Nat) = match firstOne r with
  | none => none
  | some d => if r.length < d + d + 1 then none else some (worth ((r.drop d).take (d + 1)), pre.length + d + d + 1) := by
  unfold readE
  rw [if_neg (by trivial), Int.toNat_natCast, drop_pre]
  cases firstOne r with
  | none => rfl
  | some d =>
    have e : (pre ++ r).drop (pre.length + d) = r.drop d := by rw [← List.drop_drop, drop_pre]
    dsimp only
    rw [e, List.length_append]
    by_cases h : r.length < d + d + 1
    · rw [if_pos h, if_pos (by trivial)]
    · rw [if_neg h, if_neg (by trivial)]
theorem readE_endb {n : Int} (h : 1 ≤ n) (pre post : List Int) : readE (pre ++ (endb n ++ post)) (pre.length : Nat) = some (n, pre.length + (endb n).length) := by
  obtain ⟨t, ht, e, f, _⟩ := endb_form h
  rw [readE_at, f, List.append_assoc, List.cons_append, firstOne_zeros]
  dsimp only
  rw [if_neg (by simp only [List.length_append, List.length_replicate, List.length_cons]; trivial)]
  have d1 : (List.replicate t.length (0 : Int) ++ 1 :: (t ++ post)).drop t.length = 1 :: (t ++ post) := by
    have := drop_pre (List.replicate t.length (0 : Int)) (1 :: (t ++ post))
    rw [List.length_replicate] at this
    exact this
  rw [d1, List.take_succ_cons, List.take_append_of_le_length (Nat.le_refl _), List.take_length, ← e]
  congr 2
  simp only [List.length_append, List.length_replicate, List.length_cons]
  trivial
theorem readE_le {bs : List Int} {i : Int} {n : Int} {b : Nat} (h : readE bs i = some (n, b)) : 0 ≤ i ∧ i < b ∧ b ≤ bs.length := by
  unfold readE at h
  split at h
  · cases h
  · cases e : firstOne (bs.drop i.toNat) with
    | none => rw [e] at h; cases h
    | some d =>
      rw [e] at h
      dsimp only at h
      split at h
      · cases h
      · have := (Prod.mk.inj (Option.some.inj h)).2
        trivial
noncomputable def readN : Nat → List Int → Nat → Option (List Int × Nat)
  | 0, _, b => some ([], b)
  | m + 1, bs, b => match readE bs b with
    | none => none
    | some (n, b') => (readN m bs b').map fun r => ((n - 1) :: r.1, r.2)
noncomputable def readRow (bs : List Int) (i : Int) : Option (List Int × Nat) := match readE bs i with
  | none => none
  | some (m, b) => readN (m - 1).toNat bs b
noncomputable def flatb (ns : List Int) : List Int := (ns.map fun n => endb (n + 1)).flatten
noncomputable def rowb (ns : List Int) : List Int := endb ((ns.length : Int) + 1) ++ flatb ns
theorem flatb_cons (n : Int) (r : List Int) : flatb (n :: r) = endb (n + 1) ++ flatb r := rfl
theorem flatb_append (a b : List Int) : flatb (a ++ b) = flatb a ++ flatb b := by unfold flatb; rw [List.map_append, List.flatten_append]
theorem readN_flat : ∀ (ns pre post : List Int), (∀ n ∈ ns, 0 ≤ n) → readN ns.length (pre ++ (flatb ns ++ post)) pre.length = some (ns, pre.length + (flatb ns).length)
  | [], pre, post, _ => rfl
  | n :: r, pre, post, h => by
    have hn := h n List.mem_cons_self
    have ih := readN_flat r (pre ++ endb (n + 1)) post fun m hm => h m (List.mem_cons_of_mem _ hm)
    rw [List.length_cons]
    unfold readN
    rw [flatb_cons, List.append_assoc, readE_endb (by trivial)]
    dsimp only
    rw [List.length_append, List.append_assoc] at ih
    rw [ih]
    show some ((n + 1 - 1) :: r, _) = _
    rw [show n + 1 - 1 = n by trivial, List.length_append, Nat.add_assoc]
theorem readRow_row {ns : List Int} (h : ∀ n ∈ ns, 0 ≤ n) (pre post : List Int) : readRow (pre ++ (rowb ns ++ post)) (pre.length : Nat) = some (ns, pre.length + (rowb ns).length) := by
  unfold readRow rowb
  rw [List.append_assoc, readE_endb (by trivial)]
  dsimp only
  have := readN_flat ns (pre ++ endb ((ns.length : Int) + 1)) post h
  rw [List.length_append, List.append_assoc] at this
  rw [show ((ns.length : Int) + 1 - 1).toNat = ns.length by trivial, this, List.length_append, Nat.add_assoc]
theorem readRow_none {bs : List Int} {i : Int} (h : readE bs i = none) : readRow bs i = none := by unfold readRow; rw [h]
theorem readN_step {m : Nat} {bs : List Int} {b : Nat} {n : Int} {b' : Nat} (h : readE bs b = some (n, b')) : readN (m + 1) bs b = (readN m bs b').map fun r => ((n - 1) :: r.1, r.2) := by
  rw [readN, h]
theorem readN_stop {m : Nat} {bs : List Int} {b : Nat} (h : readE bs b = none) : readN (m + 1) bs b = none := by
  rw [readN, h]
theorem endb_length (n : Int) : (endb n).length = blen n - 1 + blen n := by unfold endb; rw [List.length_append, List.length_replicate, lowb_length]
end PH
set_option Elab.async false
set_option linter.all false
namespace L2
open PySem PySem.Spec PyProof.Rows
section
variable {X : Cx}
end
end L2
set_option Elab.async false
set_option linter.all false
set_option maxRecDepth 100000
set_option maxHeartbeats 4000000
namespace PH
open PySem L2 PySem.W
theorem boot_min' : bootBuiltins "min" = some (.builtin "min") := by decide +kernel
structure Bls (mg : Str → Option Value) : Prop where
  isi : mg "isinstance" = none
  list : mg "list" = none
  int : mg "int" = none
  bool : mg "bool" = none
  len : mg "len" = none
  range : mg "range" = none
  max : mg "max" = none
  ve : mg "ValueError" = none
  tuple : mg "tuple" = none
  min : mg "min" = none
  sorted : mg "sorted" = none
  all : mg "all" = none
  dict : mg "dict" = none
theorem Bls.bl {mg : Str → Option Value} (B : Bls mg) : Bl mg := ⟨B.isi, B.list, B.int, B.bool, B.len, B.range, B.max, B.ve⟩
noncomputable def spEnd (cN : Addr) : Sp := fun vs H Q E => ∃ n : Int, vs = [.int n] ∧ ((n < 1 ∧ E (.ref cN) none H) ∨ (1 ≤ n ∧ blen n ≤ 900 ∧ ∀ (p : Addr) (H' : Hp), Same H H' → H p = none → H' p = some (lsI (endb n)) → Q (.ref p) H'))
theorem blen_small {n : Int} (h0 : 0 ≤ n) (h : n < 1048576) : blen n ≤ 900 :=
  blen_le.mpr (Nat.lt_of_lt_of_le (m := 2 ^ 20) (by
      have : (2 : Nat) ^ 20 = 1048576 := by decide
      trivial) (Nat.pow_le_pow_right (by decide) (by decide)))
theorem same_upd {H H' : Hp} (s : Same H H') {q : Addr} (u : HO) (hq : H q = none) : Same H (upd H' q u) := fun b w e => by
  rw [upd_ne (ne_of_none e hq)]; exact s b w e
theorem lsI_app (a b : List Int) : (.lst (a.map V.int ++ b.map V.int) : HO) = lsI (a ++ b) := by unfold lsI; rw [List.map_append]
theorem lsI_app1 (a : List Int) (z : Int) : (.lst (a.map V.int ++ [V.int z]) : HO) = lsI (a ++ [z]) := by unfold lsI; rw [List.map_append]; rfl
theorem len_lsI (a : List Int) : (a.map V.int).length = a.length := List.length_map _
noncomputable def spRdRow (K : Frag) (cB : Addr) : Sp := fun vs H Q E => ∃ (a : Addr) (bs : List Int) (i : Int), vs = [.ref a, .int i] ∧ SqL K H a (bs.map V.int) ∧ bs.length ≤ 100000 ∧ i ≤ 1000000 ∧
  (match readRow bs i with | none => ∀ H', Same H H' → E (.ref cB) none H' | some (ns, b) => ∀ (l t : Addr) (H' : Hp), Same H H' → H l = none → H t = none → l ≠ t → H' l = some (lsI ns) → H' t = some (.tup [.ref l, .int b]) → Q (.ref t) H')
theorem flatb_take {ns : List Int} {i : Nat} {z : Int} (h : ns[i]? = some z) : flatb (ns.take (i + 1)) = flatb (ns.take i) ++ endb (z + 1) := by
  rw [take_at h, flatb_append]
  congr 1
  unfold flatb
  simp
end PH
set_option Elab.async false
set_option linter.all false
set_option maxRecDepth 100000
set_option maxHeartbeats 4000000
namespace PH
open PySem L2 PySem.W
structure Dks (ps : List Addr) (D : Addr) (H : Hp) : Prop where
  at_ : H D = some (.lst (ps.map V.ref))
  each : ∀ p ∈ ps, p ≠ D ∧ ∃ a b c, H p = some (deckO a b c)
end PH
set_option Elab.async false
set_option linter.all false
set_option maxRecDepth 100000
namespace L2
open PySem PySem.Spec PyProof.Rows PySem.W
end L2
set_option Elab.async false
set_option linter.all false
set_option maxRecDepth 100000
namespace L2
open PySem PySem.Spec PyProof.Rows
section
variable {κ : Type} [DecidableEq κ]
noncomputable def valV (kvs : List (κ × V)) (k : κ) : Option V := (kvs.find? fun kv => decide (kv.1 = k)).map (·.2)
noncomputable def putK (kvs : List (κ × V)) (k : κ) (v : V) : List (κ × V) :=
  if (kvs.any fun kv => decide (kv.1 = k)) = true then kvs.map (fun kv => if kv.1 = k then (kv.1, v) else kv) else kvs ++ [(k, v)]
theorem valV_pos {p : κ × V} {r : List (κ × V)} {k : κ} (e : p.1 = k) : valV (p :: r) k = some p.2 := by simp [valV, List.find?_cons, e]
theorem valV_neg {p : κ × V} {r : List (κ × V)} {k : κ} (e : ¬ p.1 = k) : valV (p :: r) k = valV r k := by simp [valV, List.find?_cons, e]
theorem valV_any (k : κ) : ∀ kvs : List (κ × V), (kvs.any fun kv => decide (kv.1 = k)) = (valV kvs k).isSome
  | [] => rfl
  | p :: r => by
    rw [List.any_cons]
    by_cases e : p.1 = k
    · simp only [valV_pos e, decide_eq_true e, Bool.true_or, Option.isSome_some]
    · rw [valV_neg e, decide_eq_false e, Bool.false_or]; exact valV_any k r
theorem length_putK (kvs : List (κ × V)) (k : κ) (v : V) : (putK kvs k v).length ≤ kvs.length + 1 := by
  unfold putK
  split
  · rw [List.length_map]; trivial
  · rw [List.length_append, List.length_cons, List.length_nil]; trivial
theorem putK_new {kvs : List (κ × V)} {k : κ} (v : V) (h : valV kvs k = none) : putK kvs k v = kvs ++ [(k, v)] := by
  unfold putK
  rw [valV_any, h]
  exact if_neg (by decide)
theorem RelO.isSome_eq {o : Option V} {u : Option Value} (r : RelO o u) : o.isSome = u.isSome := by
  cases o with
  | none => cases u with
    | none => rfl
    | some _ => exact (show False from r).elim
  | some _ => cases u with
    | none => exact (show False from r).elim
    | some _ => rfl
theorem RelO.getD {o : Option V} {u : Option Value} {d : V} {d' : Value} (r : RelO o u) (rd : RelV d d') : RelV (o.getD d) (u.getD d') := by
  cases o with
  | none => cases u with
    | none => exact rd
    | some _ => exact (show False from r).elim
  | some _ => cases u with
    | none => exact (show False from r).elim
    | some _ => exact r
theorem KV.val {kvs : List (κ × V)} {vs : List (κ × Value)} (r : KV kvs vs) (k : κ) : RelO (valV kvs k) (valueAt vs k) := by
  unfold KV at r
  induction r with
  | nil => exact True.intro
  | @cons p q ps qs h t ih =>
    obtain ⟨h1, h2⟩ := h
    by_cases e : p.1 = k
    · have e' : q.1 = k := h1.symm.trans e
      have b : valueAt (q :: qs) k = some q.2 := by simp [valueAt, List.find?_cons, e']
      rw [valV_pos e, b]; exact h2
    · have e' : ¬ q.1 = k := fun z => e (h1.trans z)
      have b : valueAt (q :: qs) k = valueAt qs k := by simp [valueAt, List.find?_cons, e']
      rw [valV_neg e, b]; exact ih
theorem KV.any {kvs : List (κ × V)} {vs : List (κ × Value)} (r : KV kvs vs) (k : κ) : (kvs.any fun kv => decide (kv.1 = k)) = vs.any fun kv => decide (kv.1 = k) := by
  unfold KV at r
  induction r with
  | nil => rfl
  | cons h t ih => rw [List.any_cons, List.any_cons, ih, h.1]
theorem KV.repl {kvs : List (κ × V)} {vs : List (κ × Value)} (r : KV kvs vs) (k : κ) {y : V} {u : Value} (ry : RelV y u) :
    KV (kvs.map fun kv => if kv.1 = k then (kv.1, y) else kv) (vs.map fun kv => if kv.1 = k then (kv.1, u) else kv) := by
  unfold KV at r ⊢
  induction r with
  | nil => exact .nil
  | @cons p q ps qs h t ih =>
    rw [List.map_cons, List.map_cons]
    refine .cons ?_ ih
    obtain ⟨h1, h2⟩ := h
    by_cases e : p.1 = k
    · rw [if_pos e, if_pos (h1.symm.trans e)]; exact ⟨h1, ry⟩
    · rw [if_neg e, if_neg (fun z => e (h1.trans z))]; exact ⟨h1, h2⟩
theorem KV.put {kvs : List (κ × V)} {vs : List (κ × Value)} (r : KV kvs vs) (k : κ) {y : V} {u : Value} (ry : RelV y u) : KV (putK kvs k y) (stored vs k u) := by
  unfold putK stored
  rw [r.any k]
  by_cases e : (vs.any fun kv => decide (kv.1 = k)) = true
  · rw [if_pos e, if_pos e]; exact r.repl k ry
  · rw [if_neg e, if_neg e]; exact Paired.snoc r ⟨rfl, ry⟩
theorem KV.length {kvs : List (κ × V)} {vs : List (κ × Value)} (r : KV kvs vs) : kvs.length = vs.length := Paired.length r
end
theorem kV_is {P : Program} {w : World} {k : Key} {u : Value} (r : RelV (kV k) u) : (mixKind P w).is k u = true := by
  cases k with
  | inl i => obtain ⟨t, e⟩ := (show ∃ t, u = Value.int i t from r); subst e; exact mixKind_int P w i t
  | inr x => obtain ⟨t, e⟩ := (show ∃ t, u = Value.str x t from r); subst e; exact mixKind_str P w x t
theorem items_are {P : Program} {w : World} : ∀ {ks : List Key} {us : List Value}, Vals (ks.map kV) us → ItemsAre (mixKind P w) ks us
  | [], _, r => by rw [List.map_nil] at r; cases r; exact .nil
  | k :: ks, _, r => by
    rw [List.map_cons] at r
    cases r with
    | cons h t => exact .cons (kV_is h) (items_are t)
noncomputable abbrev KT (H : Hp) : List (List Key × V) → List (List Key × Addr × Value) → Prop := Paired fun p q => p.1 = q.1 ∧ H q.2.1 = some (.tup (p.1.map kV)) ∧ RelV p.2 q.2.2
theorem KT.val {H : Hp} {kvs : List (List Key × V)} {xs : List (List Key × Addr × Value)} (r : KT H kvs xs) (k : List Key) : RelO (valV kvs k) ((atKey xs k).map (·.2)) := by
  induction r with
  | nil => exact True.intro
  | @cons p q ps qs h t ih =>
    obtain ⟨h1, _, h2⟩ := h
    by_cases e : p.1 = k
    · have e' : q.1 = k := h1.symm.trans e
      have b : atKey (q :: qs) k = some q.2 := by simp [atKey, List.find?_cons, e']
      rw [valV_pos e, b]; exact h2
    · have e' : ¬ q.1 = k := fun z => e (h1.trans z)
      have b : atKey (q :: qs) k = atKey qs k := by simp [atKey, List.find?_cons, e']
      rw [valV_neg e, b]; exact ih
theorem KT.repl {H : Hp} {kvs : List (List Key × V)} {xs : List (List Key × Addr × Value)} (r : KT H kvs xs) (k : List Key) {y : V} {u : Value} (ry : RelV y u) :
    KT H (kvs.map fun kv => if kv.1 = k then (kv.1, y) else kv) (xs.map (putAt k u)) := by
  induction r with
  | nil => exact .nil
  | @cons p q ps qs h t ih =>
    rw [List.map_cons, List.map_cons]
    refine .cons ?_ ih
    obtain ⟨h1, h2, h3⟩ := h
    unfold putAt
    by_cases e : p.1 = k
    · rw [if_pos e, if_pos (h1.symm.trans e)]; exact ⟨h1, h2, ry⟩
    · rw [if_neg e, if_neg (fun z => e (h1.trans z))]; exact ⟨h1, h2, h3⟩
theorem KT.put {H : Hp} {kvs : List (List Key × V)} {xs : List (List Key × Addr × Value)} (r : KT H kvs xs) (k : List Key) {b : Addr} {y : V} {u : Value} (hb : H b = some (.tup (k.map kV))) (ry : RelV y u) :
    KT H (putK kvs k y) (storedH xs k b u) := by
  have e : (kvs.any fun kv => decide (kv.1 = k)) = (atKey xs k).isSome := by
    rw [valV_any, (r.val k).isSome_eq, Option.isSome_map]
  unfold putK storedH
  rw [e]
  by_cases q : (atKey xs k).isSome = true
  · rw [if_pos q, if_pos q]; exact r.repl k ry
  · rw [if_neg q, if_neg q]; exact Paired.snoc r ⟨rfl, hb, ry⟩
theorem KT.keeps {H H' : Hp} {kvs : List (List Key × V)} {xs : List (List Key × Addr × Value)} (r : KT H kvs xs) (ht : ∀ b ys, H b = some (.tup ys) → H' b = some (.tup ys)) : KT H' kvs xs :=
  Paired.mapP r fun _ _ z => ⟨z.1, ht _ _ z.2.1, z.2.2⟩
section
variable {P : Program} {w : World} {H : Hp} {h : Heap} {a : Addr}
theorem rd_of {u : HO} (ok : HOk P w H h) (e : Rd H a u) : ObjOk P w H h a u := e.ok ok
theorem dk_rd {kvs : List (Key × V)} (ok : HOk P w H h) (e : Rd H a (.dK kvs)) : kvs.length ≤ sizeLine ∧ (a == sysModules) = false ∧ ∃ vs, KV kvs vs ∧ h.DictOf (mixKind P w) a vs :=
  show ObjOk P w H h a (.dK kvs) from rd_of ok e
theorem dk_of {kvs : List (Key × V)} (ok : HOk P w H h) (e : H a = some (.dK kvs)) : kvs.length ≤ sizeLine ∧ (a == sysModules) = false ∧ ∃ vs, KV kvs vs ∧ h.DictOf (mixKind P w) a vs := dk_rd ok (.inl e)
theorem key_of {ks : List Key} (ok : HOk P w H h) (e : H a = some (.tup (ks.map kV))) : (tupleKind (mixKind P w)).is h ks a := by
  obtain ⟨_, its, r, o, h1, h2, n, h3⟩ := (show ObjOk P w H h a (.tup (ks.map kV)) from ok a _ e)
  exact ⟨o, its.toArray, n, h1, h2, h3, by simpa using items_are r⟩
theorem dt_rd {kvs : List (List Key × V)} (ok : HOk P w H h) (e : Rd H a (.dT kvs)) : kvs.length ≤ sizeLine ∧ (a == sysModules) = false ∧
    ∃ xs, KT H kvs xs ∧ h.DictOfH (tupleKind (mixKind P w)) a xs := by
  obtain ⟨z, y, xs, r, o, es, ep, h1, h2, h3, h4, h5⟩ := (show ObjOk P w H h a (.dT kvs) from rd_of ok e)
  refine ⟨z, y, xs, r, o, es, ep, h1, h2, h3, h4, fun x hx => ?_, h5⟩
  have all : ∀ {l : List (List Key × V)} {m : List (List Key × Addr × Value)}, KT H l m → ∀ x ∈ m, (tupleKind (mixKind P w)).is h x.1 x.2.1 := by
    intro l m q
    induction q with
    | nil => intro x hx; exact nomatch hx
    | @cons p q ps qs hq t ih =>
      intro x hx
      rcases List.mem_cons.mp hx with e | hx
      · subst e
        exact key_of ok (by rw [← hq.1]; exact hq.2.1)
      · exact ih x hx
  exact all r x hx
theorem dt_of {kvs : List (List Key × V)} (ok : HOk P w H h) (e : H a = some (.dT kvs)) : kvs.length ≤ sizeLine ∧ (a == sysModules) = false ∧
    ∃ xs, KT H kvs xs ∧ h.DictOfH (tupleKind (mixKind P w)) a xs := dt_rd ok (.inl e)
end
noncomputable def DGet (H : Hp) (a : Addr) (y : V) (r : Option V) : Prop :=
  (∃ kvs k, Rd H a (.dK kvs) ∧ y = kV k ∧ r = valV kvs k) ∨ ∃ kvs k b, Rd H a (.dT kvs) ∧ y = .ref b ∧ H b = some (.tup (k.map kV)) ∧ r = valV kvs k
noncomputable def DPut (H : Hp) (a : Addr) (y v : V) (H' : Hp) : Prop :=
  (∃ kvs k, H a = some (.dK kvs) ∧ y = kV k ∧ kvs.length < sizeLine ∧ H' = upd H a (.dK (putK kvs k v))) ∨
  ∃ kvs k b, H a = some (.dT kvs) ∧ y = .ref b ∧ H b = some (.tup (k.map kV)) ∧ kvs.length < sizeLine ∧ H' = upd H a (.dT (putK kvs k v))
theorem DGet.k {H : Hp} {a : Addr} {kvs : List (Key × V)} {k : Key} (e : H a = some (.dK kvs)) : DGet H a (kV k) (valV kvs k) := .inl ⟨kvs, k, .inl e, rfl, rfl⟩
theorem DGet.t {H : Hp} {a b : Addr} {kvs : List (List Key × V)} {k : List Key} (e : H a = some (.dT kvs)) (eb : H b = some (.tup (k.map kV))) : DGet H a (.ref b) (valV kvs k) := .inr ⟨kvs, k, b, .inl e, rfl, eb, rfl⟩
theorem DPut.k {H : Hp} {a : Addr} {kvs : List (Key × V)} {k : Key} {v : V} (e : H a = some (.dK kvs)) (hl : kvs.length < sizeLine) : DPut H a (kV k) v (upd H a (.dK (putK kvs k v))) := .inl ⟨kvs, k, e, rfl, hl, rfl⟩
theorem DPut.t {H : Hp} {a b : Addr} {kvs : List (List Key × V)} {k : List Key} {v : V} (e : H a = some (.dT kvs)) (eb : H b = some (.tup (k.map kV))) (hl : kvs.length < sizeLine) :
    DPut H a (.ref b) v (upd H a (.dT (putK kvs k v))) := .inr ⟨kvs, k, b, e, rfl, eb, hl, rfl⟩
section
variable {X : Cx} {pins : List (Addr × Obj)} {σ : St} {H : Hp} {s : Shared} {a : Addr} {y v : V} {u r : Value} {o : Option V} {A : Around} {E : Value → Shared → Prop}
theorem Inv.big (I : Inv X pins σ H s) : sysModules < s.heap.objs.size := by
  have h : mainGlobals < s.heap.objs.size := (I.mod.glob.keeps I.bk).lt
  exact Nat.lt_trans (by decide) h
theorem d_getItem {Q : Value → Shared → Prop} (hu : A.units + 1 < cLine) (I : Inv X pins σ H s) (g : DGet H a y (some v)) (ry : RelV y u) (h : ∀ w' s', Inv X pins σ H s' → RelV v w' → Q w' s') :
    wpAny (model X.prog X.w) A (getItem (.ref a) u) Q E s := by
  rcases g with ⟨kvs, k, e, ey, l⟩ | ⟨kvs, k, b, e, ey, eb, l⟩
  · subst ey
    obtain ⟨z, hd, vs, rel, dd⟩ := dk_rd I.hok e
    obtain ⟨w', hw, rw'⟩ := RelO.some_of (v := v) (o := valueAt vs k) (by rw [l]; exact rel.val k)
    exact wpAny_getItem_of (kV_is ry) dd.mapOf hw (h w' _ (I.tok _) rw')
  · subst ey
    cases (show u = Value.ref b from ry)
    obtain ⟨z, hd, xs, rel, dd⟩ := dt_rd I.hok e
    obtain ⟨w', hw, rw'⟩ := RelO.some_of (v := v) (o := (atKey xs k).map (·.2)) (by rw [l]; exact rel.val k)
    obtain ⟨p, hp, hp2⟩ := Option.map_eq_some_iff.mp hw
    refine wpAny_getItem_heap (tupleKind_room_in1 hu) (key_of I.hok eb) dd hp ?_
    rw [hp2]
    exact h w' _ (I.tok _) rw'
theorem d_write {h' : Heap} {t' : Nat} {ob : HO} (I : Inv X pins σ H s) (mu : Mut (H a)) (hs : Heap.SameBut a s.heap h') (he : ∃ q, h'.get? a = some q) (new : ObjOk X.prog X.w (upd H a ob) h' a ob) :
    Inv X pins σ (upd H a ob) { s with heap := h', toks := t' } :=
  I.write (x := a) (e := a) mu (.inl rfl) (fun b q hb z => (hs.2 b hb).trans z) he new
theorem dk_new {P : Program} {w : World} {H' : Hp} {h' : Heap} {kvs : List (Key × V)} {vs : List (Key × Value)} (z : kvs.length ≤ sizeLine) (hd : (a == sysModules) = false) (rel : KV kvs vs) (dd : h'.DictOf (mixKind P w) a vs) :
    ObjOk P w H' h' a (.dK kvs) := ⟨z, hd, vs, rel, dd⟩
theorem d_setItem {H' : Hp} {Q : Unit → Shared → Prop} (hu : A.units + 1 < cLine) (I : Inv X pins σ H s) (g : DPut H a y v H') (ry : RelV y u) (rv : RelV v r) (h : ∀ s', Inv X pins σ H' s' → Q () s') :
    wpAny (model X.prog X.w) A (setItem (.ref a) u r) Q E s := by
  rcases g with ⟨kvs, k, e, ey, l, eH⟩ | ⟨kvs, k, b, e, ey, eb, l, eH⟩
  · subst ey eH
    obtain ⟨z, hd, vs, rel, dd⟩ := dk_of I.hok e
    have hz : vs.length ≤ sizeLine := by rw [← rel.length]; exact z
    have hl : (putK kvs k v).length ≤ sizeLine := by have := length_putK kvs k v; trivial
    refine wpAny_setItem_pairs (hsz := hz) (kV_is ry) dd fun h' dd' hs => h _ ?_
    have he : ∃ q, h'.get? a = some q := let ⟨q, _, _, hq, _⟩ := dd'; ⟨q, hq⟩
    exact d_write I (by rw [e]; exact True.intro) hs he (dk_new hl hd (rel.put k rv) dd')
  · subst ey eH
    cases (show u = Value.ref b from ry)
    obtain ⟨z, hd, xs, rel, dd⟩ := dt_of I.hok e
    have hz : xs.length ≤ sizeLine := by rw [← Paired.length rel]; exact z
    have hl : (putK kvs k v).length ≤ sizeLine := by have := length_putK kvs k v; trivial
    refine wpAny_setItem_heap (hsz := hz) (tupleKind_room_in1 hu) (key_of I.hok eb) dd fun h' dd' hs => h _ ?_
    obtain ⟨q, es, ep, hq, h2, h3, h4, _, h5⟩ := dd'
    refine d_write I (by rw [e]; exact True.intro) hs ⟨q, hq⟩ ⟨hl, hd, _, (rel.put k eb rv).keeps fun c ys ec => ?_, q, es, ep, hq, h2, h3, h4, h5⟩
    rw [upd_ne (ne_of ec e (fun z => nomatch z))]
    exact ec
end
section
variable {X : Cx} {pins : List (Addr × Obj)} {σ : St} {H : Hp} {s : Shared} {a : Addr} {kvs : List (Key × V)} {k : Key} {u : Value} {A : Around} {E : Value → Shared → Prop}
end
noncomputable def NoSl (i : Expr) : Prop := ∀ ov iv, subscripted i false ov iv = operate [ov, iv] (getItem ov iv)
theorem subD_of {prog : Program} {w : World} {A : Around} {E : Value → Shared → Prop} {s : Shared} {env : Env} {value slice : Expr} {pos : Pos} {T id : String} {Q : Value → Shared → Prop}
    (hl : typeLookup (.type T) "__getitem__" = pure (some (.builtin id))) (hs : NoSl slice)
    (h : wpAny (model prog w) A (eval value env) (fun o s₁ => wpAny (model prog w) A (eval slice env) (fun i s₂ => s₂.TypeIs o T ∧ wpAny (model prog w) A (getItem o i) Q E s₂) E s₁) E s) :
    wpAny (model prog w) A (eval (.Subscript value slice pos) env) Q E s := by
  refine Subscript_ (wpAny_mono h (fun o s₁ h₁ => wpAny_mono h₁ (fun i s₂ h₂ => ?_) fun _ _ x => x) fun _ _ x => x)
  obtain ⟨hT, h₂⟩ := h₂
  unfold subscriptTail
  refine wpAny_bind ?_
  rw [getitemInPython_of_ne hT.not_modules]
  refine wpAny_bind (wpAny_specialOf hT hl ?_)
  have fin : wpAny (model prog w) A (subscripted slice false o i) (fun r s₃ => wpAny (model prog w) A (letTemporaryGo value o r >>= fun _ => pure r) Q E s₃) E s₂ := by
    rw [hs o i]
    exact wpAny_operating (wpAny_mono h₂ (fun r s₃ h₃ => wpAny_bind (wpAny_letTemporaryGo (wpAny_pure h₃))) fun _ _ x => x)
  first
    | exact wpAny_pure (wpAny_bind fin)
    | exact wpAny_bind (wpAny_pure (wpAny_bind fin))
    | exact wpAny_bind fin
theorem dict_typeIs {X : Cx} {pins : List (Addr × Obj)} {σ : St} {H : Hp} {s : Shared} {a : Addr} {y : V} {o : Option V} (I : Inv X pins σ H s) (g : DGet H a y o) : s.TypeIs (.ref a) "dict" := by
  rcases g with ⟨kvs, k, e, _, _⟩ | ⟨kvs, k, b, e, _, _, _⟩
  · obtain ⟨_, _, vs, _, dd⟩ := dk_rd I.hok e
    exact dd.typeIs
  · obtain ⟨_, _, xs, _, dd⟩ := dt_rd I.hok e
    exact dd.typeIs
noncomputable def tDGet (td ty : TE) : TE := fun σ H Q => td σ H fun x H1 => ty σ H1 fun y H2 => ∃ a v, x = .ref a ∧ DGet H2 a y (some v) ∧ Q v H2
noncomputable def sDPut (td ty tv : TE) : TS := fun D σ H => tv σ H fun v H1 => td σ H1 fun x H2 => ty σ H2 fun y H3 => ∃ a H4, x = .ref a ∧ DPut H3 a y v H4 ∧ D.nx σ H4
section
variable {X : Cx} {o i e value : Expr} {pos pos' tpos : Pos} {td ty tv : TE}
theorem pe_dget (hu : X.A.units + 1 < cLine) (ho : PE X o td) (hi : PE X i ty) (hs : NoSl i) : PE X (.Subscript o i pos) (tDGet td ty) := by
  intro pins s σ H Q I h
  refine subD_of PySem.F.slot_dict_getitem.lookup hs (thn (ho pins s σ H _ I h) fun u s1 ⟨x, H1, I1, rx, q1⟩ => thn (hi pins s1 σ H1 _ I1 q1) fun iv s2 ⟨y, H2, I2, ry, a, v, ex, g, q2⟩ => ?_)
  subst ex
  obtain rfl : u = Value.ref a := rx
  exact ⟨dict_typeIs I2 g, d_getItem hu I2 g ry fun w' s3 I3 rw' => ⟨v, H2, I3, rw', q2⟩⟩
theorem ps_dput (hu : X.A.units + 1 < cLine) (ho : PE X o td) (hi : PE X i ty) (hv : PE X value tv) (hs : swapsWith value (some (.Subscript o i pos')) pos.line X.env = pure false) :
    PS X (.Assign [.Subscript o i pos'] value pos) (sDPut td ty tv) := by
  intro pins s σ H D I h
  refine wpAny_Assign_Subscript (thn (hv pins s σ H _ I h) fun r s1 ⟨v, H1, I1, rv, q1⟩ => thn (ho pins s1 σ H1 _ I1 q1) fun u s2 ⟨x, H2, I2, rx, q2⟩ => thn (hi pins s2 σ H2 _ I2 q2) fun iv s3 ⟨y, H3, I3, ry, a, H4, ex, g, q3⟩ => ?_) hs
  subst ex
  obtain rfl : u = Value.ref a := rx
  exact d_setItem hu I3 g ry rv fun s4 I4 => ⟨σ, H4, I4, q3⟩
end
theorem dk_empty {P : Program} {w : World} {H : Hp} (h : Heap) (hb : sysModules < h.objs.size) : ObjOk P w H (h.push { cls := .type "dict", data := .dict #[] }) h.objs.size (.dK []) :=
  ⟨Nat.zero_le _, beq_eq_false_iff_ne.mpr (Ne.symm (Nat.ne_of_lt hb)), [], .nil, Heap.DictOf.new h⟩
section
variable {X : Cx} {pos : Pos}
end
noncomputable def tPairs : List (TE × TE) → St → Hp → (List (V × V) → Hp → Prop) → Prop
  | [], _, H, Q => Q [] H
  | (tk, tv) :: r, σ, H, Q => tk σ H fun x H1 => tv σ H1 fun y H2 => tPairs r σ H2 fun ps H3 => Q ((x, y) :: ps) H3
noncomputable abbrev VV : List (V × V) → List (Value × Value) → Prop := Paired fun p q => RelV p.1 q.1 ∧ RelV p.2 q.2
noncomputable def PPs (X : Cx) (pos : Pos) (keys : List (Option Expr)) (values : List Expr) (trs : List (TE × TE)) : Prop :=
  ∀ (pins : List (Addr × Obj)) (s : Shared) (σ : St) (H : Hp) (Q : List (V × V) → Hp → Prop), Inv X pins σ H s → tPairs trs σ H Q →
    wpAny (model X.prog X.w) X.A (evalPairs (pairTrees keys values X.env pos)) (fun vs s' => ∃ ps H', Inv X pins σ H' s' ∧ VV ps vs ∧ Q ps H') X.xe s
theorem pps_nil {X : Cx} {pos : Pos} : PPs X pos [] [] [] := fun pins s σ H Q I h => pairTrees_nil_walk ⟨[], H, I, .nil, h⟩
theorem pps_cons {X : Cx} {pos : Pos} {k v : Expr} {ks : List (Option Expr)} {vs : List Expr} {tk tv : TE} {trs : List (TE × TE)} (hk : PE X k tk) (hv : PE X v tv) (hr : PPs X pos ks vs trs) :
    PPs X pos (some k :: ks) (v :: vs) ((tk, tv) :: trs) := fun pins s σ H Q I h =>
  pairTrees_cons_walk (thn (hk pins s σ H _ I h) fun u s1 ⟨x, H1, I1, rx, q1⟩ => thn (hv pins s1 σ H1 _ I1 q1) fun w2 s2 ⟨y, H2, I2, ry, q2⟩ =>
    thn (hr pins s2 σ H2 _ I2 q2) fun ws s3 ⟨ps, H3, I3, rel, q3⟩ => ⟨(x, y) :: ps, H3, I3, .cons ⟨rx, ry⟩ rel, q3⟩)
noncomputable def mergeK (kvs more : List (Key × V)) : List (Key × V) := more.foldl (fun acc kv => putK acc kv.1 kv.2) kvs
theorem KV.merge : ∀ {more : List (Key × V)} {rs : List (Key × Value)} {kvs : List (Key × V)} {vs : List (Key × Value)}, KV more rs → KV kvs vs → KV (mergeK kvs more) (merged vs rs) := by
  intro more rs kvs vs r
  unfold KV at r
  induction r generalizing kvs vs with
  | nil => intro q; exact q
  | @cons p q ps qs h t ih =>
    intro r0
    have e : KV (putK kvs p.1 p.2) (stored vs q.1 q.2) := by
      have := r0.put p.1 h.2
      rw [← h.1]; exact this
    exact ih e
theorem length_mergeK : ∀ (more kvs : List (Key × V)), (mergeK kvs more).length ≤ kvs.length + more.length
  | [], kvs => by show kvs.length ≤ kvs.length + 0; trivial
  | p :: r, kvs => by
    have h1 := length_mergeK r (putK kvs p.1 p.2)
    have h2 := length_putK kvs p.1 p.2
    show (mergeK (putK kvs p.1 p.2) r).length ≤ _
    rw [List.length_cons]; trivial
theorem carries_of {P : Program} {w : World} : ∀ {kvs : List (Key × V)} {ws : List (Value × Value)}, VV (kvs.map fun kv => (kV kv.1, kv.2)) ws → ∃ rs, Carries (mixKind P w) ws rs ∧ KV kvs rs
  | [], _, r => by rw [List.map_nil] at r; cases r; exact ⟨[], True.intro, .nil⟩
  | p :: kvs, _, r => by
    rw [List.map_cons] at r
    cases r with
    | @cons a b as bs h t =>
      obtain ⟨rs, c, q⟩ := carries_of (P := P) (w := w) t
      obtain ⟨b1, b2⟩ := b
      exact ⟨(p.1, b2) :: rs, ⟨kV_is h.1, rfl, c⟩, .cons ⟨rfl, h.2⟩ q⟩
noncomputable def tDisp (trs : List (TE × TE)) : TE := fun σ H Q => ∀ p, H p = none → tPairs trs σ (upd H p (.dK [])) fun ps H2 => H2 p = some (.dK []) ∧ ∃ kvs : List (Key × V), ps = kvs.map (fun kv => (kV kv.1, kv.2)) ∧ kvs.length ≤ 15 ∧ Q (.ref p) (upd H2 p (.dK (mergeK [] kvs)))
theorem pe_disp {X : Cx} {pos : Pos} {keys : List (Option Expr)} {values : List Expr} {trs : List (TE × TE)} (h : PPs X pos keys values trs) (hall : keys.all (·.isSome) = true) (hl : keys.length = values.length) (h0 : keys ≠ [])
    (h15 : keys.length ≤ 15) : PE X (.Dict keys values pos) (tDisp trs) := by
  intro pins s σ H Q I q
  have hn := I.hok.fresh (Nat.le_refl s.heap.objs.size)
  have I1 := I.laid (a := s.heap.objs.size) (o := .dK []) (h' := s.heap.push { cls := .type "dict", data := .dict #[] }) (t' := s.toks) (fun _ _ q => Heap.get?_push_of_some _ q) (Nat.le_refl _) (dk_empty s.heap I.big)
  refine wpAny_Dict_walk (knd := mixKind X.prog X.w) hall hl h0 h15 (thn (h pins _ σ _ _ I1 (q _ hn)) fun ws s2 ⟨ps, H2, I2, rel, e, kvs, ep, lk, q2⟩ => ?_)
  subst ep
  obtain ⟨rs, c, rk⟩ := carries_of (P := X.prog) (w := X.w) rel
  obtain ⟨z, hd, vs0, r0, dd⟩ := dk_of I2.hok e
  cases r0
  refine ⟨rs, c, dd, fun h' dd' hs => ⟨.ref s.heap.objs.size, _, ?_, rfl, q2⟩⟩
  have hz : (mergeK [] kvs).length ≤ sizeLine := by
    have h1 := length_mergeK kvs []
    rw [List.length_nil] at h1
    rw [sizeLine_eq]; trivial
  have he : ∃ q, h'.get? s.heap.objs.size = some q := let ⟨q, _, _, hq, _⟩ := dd'; ⟨q, hq⟩
  exact d_write I2 (by rw [e]; exact True.intro) hs he (dk_new hz hd (rk.merge .nil) dd')
structure M1 (X : Cx) (o : Expr) (m : Str) (apos : Pos) (e : Expr) (cpos : Pos) : Prop where
  base : attributeBase o m X.env (eval o X.env) = eval o X.env
  few : ((backTo cpos (starEach [e] X.env)).all (fun x => !x.1) && (backToKw cpos (keywordEach [] X.env)).all (fun x => x.1.isSome)
    && decide (([e] : List Expr).length + ([] : List Keyword).length + (if ([] : List Keyword).isEmpty then 0 else 1) < 30)) = true
  line : (apos.endLine == cpos.line) = true
  trees : backTo cpos (starEach [e] X.env) = [(false, eval e X.env)]
structure M2 (X : Cx) (o : Expr) (m : Str) (apos : Pos) (e f : Expr) (cpos : Pos) : Prop where
  base : attributeBase o m X.env (eval o X.env) = eval o X.env
  few : ((backTo cpos (starEach [e, f] X.env)).all (fun x => !x.1) && (backToKw cpos (keywordEach [] X.env)).all (fun x => x.1.isSome)
    && decide (([e, f] : List Expr).length + ([] : List Keyword).length + (if ([] : List Keyword).isEmpty then 0 else 1) < 30)) = true
  line : (apos.endLine == cpos.line) = true
  trees : backTo cpos (starEach [e, f] X.env) = [(false, eval e X.env), (false, eval f X.env)]
section
variable {X : Cx} {pins : List (Addr × Obj)} {σ : St} {H : Hp} {s : Shared} {a : Addr} {y d : V} {u r : Value} {o : Option V} {A : Around} {E : Value → Shared → Prop}
end
section
variable {X : Cx} {o e f : Expr} {apos cpos : Pos} {td ty tx : TE}
end
section
variable {X : Cx} {pins : List (Addr × Obj)} {σ : St} {H : Hp} {s : Shared} {a : Addr} {kvs : List (Key × V)} {A : Around} {E : Value → Shared → Prop}
end
section
variable {X : Cx} {pins : List (Addr × Obj)} {σ : St} {H : Hp} {s : Shared} {a : Addr} {y : V} {u : Value} {A : Around} {E : Value → Shared → Prop}
end
end L2
namespace L2
open PySem PySem.Spec PyProof.Rows
section
variable {X : Cx}
end
section
variable {κ : Type} [DecidableEq κ]
end
end L2
set_option linter.all false
namespace TS
open PySem PyProof.Rows
section
variable {prog : Program} {w : World} {A : Around} {E : Value → Shared → Prop} {s : Shared}
structure Cmp (prog : Program) (w : World) (A : Around) (s : Shared) (kd : SortKind) (O : KeyOrd) (ky : Keyed → O.α) (S : Keyed → Prop) : Prop where
  lt : ∀ p q, S p → S q → ∀ {E : Value → Shared → Prop} {Q : Bool → Shared → Prop}, Q (O.blt (ky p) (ky q)) s → wpAny (model prog w) A (keyLt' kd p.1 q.1) Q E s
variable {kd : SortKind} {O : KeyOrd} {ky : Keyed → O.α} {S : Keyed → Prop}
end
end TS
set_option linter.all false
namespace TT
open PySem PyProof.Rows TS
section
variable (O : KeyOrd) (ky : Keyed → O.α) (ix : Keyed → Nat)
noncomputable def R (p q : Keyed) : Prop := O.kle (ky p) (ky q) ∧ (O.kle (ky q) (ky p) → ix p ≤ ix q)
noncomputable def Srt (l : List Keyed) : Prop := l.Pairwise (R O ky ix)
structure MI (a b out : Array Keyed) (ia ib : Nat) : Prop where
  ha : ia ≤ a.size
  hb : ib ≤ b.size
  perm : out.toList.Perm (a.toList.take ia ++ b.toList.take ib)
  srt : Srt O ky ix out.toList
  ra : ∀ x ∈ out.toList, ∀ y ∈ a.toList.drop ia, R O ky ix x y
  rb : ∀ x ∈ out.toList, ∀ y ∈ b.toList.drop ib, R O ky ix x y
variable {O ky ix} {a b out o : Array Keyed} {ia ib : Nat}
structure MH (O : KeyOrd) (ky : Keyed → O.α) (ix : Keyed → Nat) (a b out : Array Keyed) (na nb : Nat) : Prop where
  ha : na ≤ a.size
  hb : nb ≤ b.size
  perm : out.toList.Perm (a.toList.drop na ++ b.toList.drop nb)
  srt : out.toList.Pairwise fun x y => R O ky ix y x
  ra : ∀ x ∈ out.toList, ∀ y ∈ a.toList.take na, R O ky ix y x
  rb : ∀ x ∈ out.toList, ∀ y ∈ b.toList.take nb, R O ky ix y x
end
end TT
set_option linter.all false
namespace TT
open PySem PyProof.Rows TS
structure SameSt (st st' : SortSt) : Prop where
  kind : kindOf st' = kindOf st
  arr : arrOf st' = arrOf st
  pend : pendingOf st' = pendingOf st
  fail : failedOf st' = failedOf st
noncomputable def at_ (a : Array Keyed) (i : Nat) : Keyed := (a[i]?).getD (.none, .none)
section
variable {O : KeyOrd} {ky : Keyed → O.α} {ix : Keyed → Nat}
end
section
variable {prog : Program} {w : World} {A : Around} {E : Value → Shared → Prop} {s : Shared}
variable {kd : SortKind} {O : KeyOrd} {ky : Keyed → O.α} {ix : Keyed → Nat} {S : Keyed → Prop}
end
end TT
set_option linter.all false
namespace TT
open PySem PyProof.Rows TS
section
variable {O : KeyOrd} {ky : Keyed → O.α} {ix : Keyed → Nat}
end
section
variable {prog : Program} {w : World} {A : Around} {E : Value → Shared → Prop} {s : Shared}
variable {kd : SortKind} {O : KeyOrd} {ky : Keyed → O.α} {ix : Keyed → Nat} {S : Keyed → Prop}
end
end TT
set_option linter.all false
namespace TT
open PySem PyProof.Rows TS
structure Chg (lo : Nat) (st st' : SortSt) : Prop where
  kind : kindOf st' = kindOf st
  pend : pendingOf st' = pendingOf st
  fail : failedOf st' = failedOf st
  perm : (arrOf st').Perm (arrOf st)
  low : ∀ i, i < lo → (arrOf st')[i]? = (arrOf st)[i]?
section
variable {prog : Program} {w : World} {A : Around} {E : Value → Shared → Prop} {s : Shared}
variable {kd : SortKind} {O : KeyOrd} {ky : Keyed → O.α} {ix : Keyed → Nat} {S : Keyed → Prop}
noncomputable abbrev kf (ky : Keyed → O.α) (st : SortSt) (lo i : Nat) : O.α := ky (at_ (arrOf st) (lo + i))
noncomputable def Dn (O : KeyOrd) (ky : Keyed → O.α) (ix : Keyed → Nat) (st : SortSt) (lo n : Nat) : Prop := ∀ i j, i ≤ j → j < n → R O ky ix (at_ (arrOf st) (lo + j)) (at_ (arrOf st) (lo + i))
structure Lap (ix : Keyed → Nat) (st : SortSt) (lo n m : Nat) : Prop where
  cross : ∀ i j, i < n → n ≤ j → j < m → ix (at_ (arrOf st) (lo + i)) ≤ ix (at_ (arrOf st) (lo + j))
  rise : ∀ i j, n ≤ i → i ≤ j → j < m → ix (at_ (arrOf st) (lo + i)) ≤ ix (at_ (arrOf st) (lo + j))
structure Des (O : KeyOrd) (ky : Keyed → O.α) (ix : Keyed → Nat) (st : SortSt) (lo x neq m : Nat) : Prop where
  le : neq + 1 ≤ x
  dn : Dn O ky ix st lo (x - (neq + 1))
  lt : ∀ i j, i < x - (neq + 1) → x - (neq + 1) ≤ j → j < x → O.klt (kf ky st lo j) (kf ky st lo i)
  eq : ∀ i, x - (neq + 1) ≤ i → i < x → kf ky st lo i = kf ky st lo (x - 1)
  lap : Lap ix st lo (x - (neq + 1)) m
end
end TT
set_option linter.all false
namespace TT
open PySem PyProof.Rows TS
noncomputable def offs : Nat → List (List Keyed) → List (Nat × Nat)
  | _, [] => []
  | o, g :: r => (o, g.length) :: offs (o + g.length) r
noncomputable def two (p : Nat × Nat × Nat) : Nat × Nat := (p.1, p.2.1)
noncomputable def Ord (ix : Keyed → Nat) (l : List (List Keyed)) : Prop := l.Pairwise fun g h => ∀ x ∈ g, ∀ y ∈ h, ix x ≤ ix y
structure Stk (O : KeyOrd) (ky : Keyed → O.α) (ix : Keyed → Nat) (kd : SortKind) (a0 : Array Keyed) (st : SortSt) (segs : List (List Keyed)) (rest : List Keyed) : Prop where
  kind : kindOf st = kd
  fail : failedOf st = none
  arr : (arrOf st).toList = segs.flatten ++ rest
  perm : (arrOf st).Perm a0
  pend : (pendingOf st).toList.map two = offs 0 segs
  each : ∀ g ∈ segs, g ≠ [] ∧ Srt O ky ix g
  ord : Ord ix (segs ++ [rest])
section
variable {O : KeyOrd} {ky : Keyed → O.α} {ix : Keyed → Nat}
end
section
variable {prog : Program} {w : World} {A : Around} {E : Value → Shared → Prop} {s : Shared}
variable {kd : SortKind} {O : KeyOrd} {ky : Keyed → O.α} {ix : Keyed → Nat} {S : Keyed → Prop} {a0 : Array Keyed}
end
end TT
set_option linter.all false
namespace TT
open PySem PyProof.Rows TS
section
variable {prog : Program} {w : World} {A : Around} {E : Value → Shared → Prop} {s : Shared}
variable {kd : SortKind} {O : KeyOrd} {ky : Keyed → O.α} {ix : Keyed → Nat} {S : Keyed → Prop} {a0 : Array Keyed}
end
end TT
set_option linter.all false
namespace TS
open PySem PyProof.Rows
section
variable (O : KeyOrd) (ky : Keyed → O.α)
end
section
variable {prog : Program} {w : World} {A : Around} {E : Value → Shared → Prop} {s : Shared}
variable {kd : SortKind} {O : KeyOrd} {ky : Keyed → O.α} {S : Keyed → Prop}
end
end TS
set_option linter.all false
set_option maxRecDepth 100000
namespace TS
open PySem PyProof.Rows
section
variable {prog : Program} {w : World} {A : Around} {E : Value → Shared → Prop} {s : Shared}
variable {kd : SortKind} {O : KeyOrd} {ky : Keyed → O.α} {S : Keyed → Prop}
end
end TS
set_option Elab.async false
set_option linter.all false
set_option maxRecDepth 100000
namespace L2
open PySem PySem.Spec PyProof.Rows PySem.W
section
variable {X : Cx}
end
end L2
set_option Elab.async false
set_option linter.all false
set_option maxRecDepth 100000
namespace L2
open PySem PySem.Spec PyProof.Rows PySem.W
section
variable {X : Cx} {pins : List (Addr × Obj)} {σ : St} {H : Hp} {s : Shared}
noncomputable abbrev rListOf (K : Frag) : List V → Hp → VK → Prop := fun xs H Q => ∃ p ys, xs = [.ref p] ∧ (SqL K H p ys ∨ SqT K H p ys) ∧ ∀ l, H l = none → Q (.ref l) (upd H l (.lst ys))
end
end L2
set_option Elab.async false
set_option linter.all false
set_option maxRecDepth 100000
set_option maxHeartbeats 4000000
namespace PH
open PySem L2 PySem.W
structure Prs (H : Hp) (p : Addr) (zs : List (Addr × Int × Int)) : Prop where
  at_ : H p = some (.lst (zs.map fun z => V.ref z.1))
  each : ∀ z ∈ zs, H z.1 = some (.tup [.int z.2.1, .int z.2.2])
theorem Prs.same {H H' : Hp} {p : Addr} {zs : List (Addr × Int × Int)} (h : Prs H p zs) (s : Same H H') : Prs H' p zs := ⟨s _ _ h.at_, fun z hz => s _ _ (h.each z hz)⟩
theorem ref_at {zs : List (Addr × Int × Int)} {i : Nat} {y : V} (h : (zs.map fun z => V.ref z.1)[i]? = some y) : ∃ z, zs[i]? = some z ∧ y = V.ref z.1 := by
  rw [List.getElem?_map] at h
  cases e : zs[i]? with
  | none => rw [e] at h; cases h
  | some z => rw [e] at h; exact ⟨z, rfl, (Option.some.inj h).symm⟩
end PH
set_option Elab.async false
set_option linter.all false
set_option maxRecDepth 100000
namespace L2
open PySem PySem.Spec PyProof.Rows PySem.W
section
variable {X : Cx}
end
end L2
set_option linter.all false
namespace PH
open L2
end PH
set_option Elab.async false
set_option linter.all false
set_option maxRecDepth 100000
set_option maxHeartbeats 4000000
namespace PH
open PySem L2 PySem.W
end PH
set_option Elab.async false
set_option linter.all false
set_option maxRecDepth 100000
set_option maxHeartbeats 4000000
namespace PH
open PySem L2 PySem.W
theorem at_ints {ns : List Int} {i : Nat} {z : Int} (h : ns[i]? = some z) : atI (ns.map V.int) (i : Int) = some (.int z) := atI_nat (by rw [List.getElem?_map, h]; rfl)
end PH
set_option Elab.async false
set_option linter.all false
set_option maxRecDepth 100000
namespace L2
open PySem PySem.Spec PyProof.Rows
theorem ps_setC {X : Cx} {elt tg iter : Expr} {ifs : List Expr} {scope : Scope} {pos : Pos} {N : List Str} {js : List (Option Nat)} {wi : TI} {g : TG} {tc : TT} {te : TE} {y : Str} {iy : Nat} {py spos : Pos} (hN : X.N.Nodup) (hiy : X.N[iy]? = some y) (hy : X.env.scope.names.lookup y = some .local) (hcalm : X.calm = true) (S : CompScope X N js scope)
    (hi : PI X tg iter wi) (hg : ∀ C s H fp, PG (compCx X N scope C s H fp) tg g) (ht : ∀ C s H fp, PIfs (compCx X N scope C s H fp) ifs tc) (he : ∀ C s H fp, PE (compCx X N scope C s H fp) elt te)
    (hs : ∀ x, foldedSetIterable iter X.env x = pure x := by intro _; rfl) (hsw : swapsWith (.ListComp elt [⟨tg, iter, ifs, 0⟩] scope pos) (some (.Name y py)) spos.line X.env = pure true := by rfl) :
    PS X (.Assign [.Name y py] (.ListComp elt [⟨tg, iter, ifs, 0⟩] scope pos) spos) (tAsg (tComp js wi g tc te) (gName iy)) := by
  intro pins s σ H ED I h
  have hc : ∀ x ∈ scope.names, x.2 = .free → ∃ c, X.env.cells.lookup x.1 = some c := fun x hx e => I.ok.has _ (S.free x hx e)
  rw [exec_Assign_Name_used _ _ _ _ hsw]
  refine wpAny_bind (wpAny_standAt (wpAny_bind ?_))
  show wpAny _ X.A (do let _ ← comprehension (.ListComp elt [⟨tg, iter, ifs, 0⟩] scope pos) scope X.env _ (newList []) false (eval iter X.env) (some (assign (.Name y py) X.env))) _ _ s
  refine wpAny_bind (wpAny_mono (Q := fun _ s' => SP X pins ED .next s') ?_ (fun _ s' hq => wpAny_pure (wpAny_pure hq)) fun _ _ e => e)
  refine wpAny_comprehension_free (use := some (assign (.Name y py) X.env)) rfl hs (clos_eq hc) S.kind S.locs (thn (hi pins s σ H _ I h) fun v s1 h1 => thn h1 fun itv s2 h2 => ?_)
  obtain ⟨it, fp, tn, J, H2, e, I2, T, st2, f2, q⟩ := h2
  subst e
  refine wpAny_newObj_type (wpAny_newFunctionEnv S.nocell (by intro y hy; simp at hy) (fun h₁ hns₁ hsb₁ => ?_) S.kind)
  dsimp only at hns₁ hsb₁ ⊢
  generalize hH2 : s2.heap.push { cls := .type "list", dict := none, data := .seq ([] : List Value).toArray } = G2 at hns₁ hsb₁ ⊢
  have hC : G2.objs.size = s2.heap.objs.size + 1 := by rw [← hH2, Heap.size_push]
  have hDC : s2.heap.objs.size ≠ G2.objs.size := by rw [hC]; exact Nat.ne_of_lt (Nat.lt_succ_self _)
  have hC0 : s2.heap.objs.size ≤ G2.objs.size := by rw [hC]; exact Nat.le_succ _
  have below : ∀ b, b < s2.heap.objs.size → b ≠ G2.objs.size := fun b hb => by rw [hC]; exact Nat.ne_of_lt (Nat.lt_succ_of_lt hb)
  have old : ∀ b o, s2.heap.get? b = some o → h₁.get? b = some o := fun b o e => hsb₁.extBut b o (below b (Heap.lt_size e)) (Heap.get?_push_of_some _ (hH2 ▸ Heap.get?_push_of_some _ e))
  have hacc : h₁.get? s2.heap.objs.size = some { cls := .type "list", data := .seq ([] : List Value).toArray } := hsb₁.extBut _ _ hDC (Heap.get?_push_of_some _ (hH2 ▸ Heap.get?_push_size _ rfl))
  have hfp : ∀ b ∈ fp, b < s2.heap.objs.size := fun b hb => by obtain ⟨o, e, _⟩ := T.obj 0 _ st2 b hb; exact Heap.lt_size e
  obtain ⟨W, ⟨m0, w0⟩, turn⟩ := q s2.heap.objs.size (I2.hok.fresh (Nat.le_refl _))
  have stat : ∀ {H' : Hp}, (∀ b ∈ fp, H' b = none) → ∀ b ∈ fp, FpOk (compCx X N scope G2.objs.size s2 H2 fp) [] H' b := fun {H'} hn b hb =>
    ⟨hn b hb, below b (hfp b hb), fun z => by
      rcases List.mem_cons.mp (I2.stkSub b z) with q | q
      · exact (f2 b hb).2.1 q
      · exact (f2 b hb).2.2.1 q, .inl hb, fun x c e => (f2 b hb).2.2.2.2.1 x c (clos_sub _ _ (fun _ _ z => by simp at z) e), fun p hp => absurd hp (by simp [compCx])⟩
  have loop : ∀ s3 : Shared, s3 = { s2 with heap := h₁, toks := s2.toks + ([] : List (Str × Value)).length } →
      codeAny (model X.prog X.w) X.A (.compLoop (.ListComp elt [⟨tg, iter, ifs, 0⟩] scope pos) 0 (.ref it) (.ref s2.heap.objs.size) (compEnvC scope (clos X.env.cells scope.names []) G2.objs.size X.env))
        (compPost (model X.prog X.w) X.A X.xe (some (assign (.Name y py) X.env)) (fun _ s' => SP X pins ED .next s') (.ref s2.heap.objs.size) G2.objs.size) s3 := by
    rintro s3 rfl
    have I3 : Inv (compCx X N scope G2.objs.size s2 H2 fp) [] (innerSt js σ) (upd H2 s2.heap.objs.size (.lst [])) { s2 with heap := h₁, toks := s2.toks + ([] : List (Str × Value)).length } :=
      inv_comp S I2 f2 hfp old (Nat.le_refl _) hC0 hDC ⟨_, hacc⟩ hns₁
    refine compLoop_gen (fun n s' => ∃ i σ' H', Inv (compCx X N scope G2.objs.size s2 H2 fp) [] σ' H' s' ∧ tn i s'.heap ∧ (∀ b ∈ fp, H' b = none) ∧ W i n σ' H') ?_ m0
      ⟨0, _, _, I3, T.keep 0 _ _ st2 fun b _ o e => old b o e, fun b hb => by rw [upd_ne (Nat.ne_of_lt (hfp b hb))]; exact (f2 b hb).1, w0⟩
    rintro n s4 ⟨i, σ4, H4, I4, st4, fr4, w4⟩
    rcases turn i n σ4 H4 w4 with ⟨stop, qn⟩ | ⟨go, step⟩
    · refine thn (T.done (compCx X N scope G2.objs.size s2 H2 fp) rfl rfl rfl hcalm i [] s4 σ4 H4 (fun _ _ => False) I4 (stat fr4) st4 stop) fun r s5 ⟨hr, I5⟩ => ?_
      subst hr
      obtain ⟨m5, n5, _⟩ := I5.loc
      have hos : s5.os = s2.os := I5.os
      obtain ⟨hh, gg, dd, tt, os5⟩ := s5
      obtain rfl : os5 = s2.os := hos
      have sb : Heap.SameBut G2.objs.size hh hh := ⟨rfl, fun _ _ => rfl⟩
      have un : Un (frs X.stack) fp H2 H4 s2.heap hh := by
        have u := I5.base
        have nC : ∀ b o, s2.heap.get? b = some o → b ≠ G2.objs.size := fun b o e => below b (Heap.lt_size e)
        exact ⟨fun b o e n hf hx => sb.extBut b o (nC b o e) (u.keep b o e n hf hx), fun b o e n hf hx => by
            obtain ⟨sl, z⟩ := u.slot b o e n hf hx
            exact ⟨sl, sb.extBut b _ (nC b o e) z⟩, u.free, fun b o e hx => by
            obtain ⟨o', z⟩ := u.there b o e hx
            exact ⟨o', sb.extBut b _ (nC b o e) z⟩, u.tups, u.frzs, u.tbls⟩
      have hok : HOk X.prog X.w H4 hh := fun b ob e => (I5.hok b ob e).stay (fun c v hcv z => sb.extBut c v (fun q => by
        rcases hcv with hcv | hcv
        · rw [← hcv, q] at e
          have := I5.free
          have this' : H4 G2.objs.size = none := this
          rw [e] at this'; cases this'
        · rw [q] at hcv
          have this' : H4 G2.objs.size = none := I5.free
          rw [hcv] at this'; cases this') z) (fun _ z => z) fun _ _ z => z
      have IE := I2.call (h' := hh) (g' := gg) (d' := dd) (t' := tt) (ch := fp) un hok I5.bare fun b hb => ⟨(f2 b hb).2.2.2.1, (f2 b hb).2.1, (f2 b hb).2.2.2.2.1, (f2 b hb).2.2.2.2.2⟩
      have hCf : H4 G2.objs.size = none := I5.free
      have hCL : G2.objs.size ≠ X.env.locals := Ne.symm (below _ I2.lt)
      have hCc : ∀ x c, X.env.cells.lookup x = some c → c ≠ G2.objs.size := fun x c e => by
        obtain ⟨v', o', e', _⟩ := I2.cell x c e
        exact below _ (Heap.lt_size e')
      refine wpAny_assign_Name (store_ok2 IE hN hiy (.inl hy) (show RelV (.ref s2.heap.objs.size) (.ref s2.heap.objs.size) from rfl) (fun s6 I6 ⟨a6, sb6, ha6⟩ => ?_) (.inr hy))
      have nea : G2.objs.size ≠ a6 := by
        rcases ha6 with z | z
        · rw [z]; exact hCL
        · exact Ne.symm (hCc _ _ z)
      refine ⟨m5, n5.sameBut sb6 nea, fun h' sb' => ⟨_, H4, ?_, qn⟩⟩
      have := I6.turned (h' := h') (t' := s6.toks) (it := G2.objs.size) (fun b o ne e => (sb'.2 b ne).trans e) hCf hCL (.inr (Nat.le_trans I2.sz hC0)) hCc (fun p hp => below _ (Heap.lt_size (I2.pin p hp).1))
      exact this
    · refine thn (T.item (compCx X N scope G2.objs.size s2 H2 fp) rfl rfl rfl hcalm i [] s4 σ4 H4 (fun _ _ => False) I4 (stat fr4) st4 go) fun r s5 ⟨u, hr, h5⟩ => ?_
      subst hr
      refine thn h5 fun _ s6 ⟨x, H6, I6, r6, y6, st6, fr6⟩ => ?_
      have I6' := I6.pinned (stat fr6) (T.obj _ _ st6)
      refine thn (hg _ _ _ _ _ s6 σ4 H6 x u _ I6' r6 (step x H6 y6)) fun _ s7 ⟨σ7, H7, I7, q7⟩ => ?_
      refine thn (ht _ _ _ _ _ s7 σ7 H7 _ I7 q7) fun b s8 ⟨H8, I8, q8⟩ => ?_
      have again : ∀ {s9 : Shared} {H9 : Hp}, Inv (compCx X N scope G2.objs.size s2 H2 fp) ([] ++ pinsAt fp s6.heap) σ7 H9 s9 → (∃ m', m' < n ∧ W (i + 1) m' σ7 H9) → ∃ m, m < n ∧ ∃ i σ' H', Inv (compCx X N scope G2.objs.size s2 H2 fp) [] σ' H' s9 ∧ tn i s9.heap ∧ (∀ b ∈ fp, H' b = none) ∧ W i m σ' H' := fun {s9 H9} I9 ⟨m', hm, w9⟩ => by
        refine ⟨m', hm, i + 1, σ7, H9, I9.unpinned, T.keep _ _ _ st6 fun b hb o e => (I9.pin (b, o) (List.mem_append_right _ (List.mem_append_right _ (mem_pinsAt hb e)))).1, fun b hb => ?_, w9⟩
        obtain ⟨o, e, d⟩ := T.obj _ _ st6 b hb
        exact (I9.pin (b, o) (List.mem_append_right _ (List.mem_append_right _ (mem_pinsAt hb e)))).2.1
      cases b with
      | false =>
        rw [if_neg Bool.false_ne_true] at q8 ⊢
        exact again I8 q8
      | true =>
        rw [if_pos rfl] at q8 ⊢
        refine thn (he _ _ _ _ _ s8 σ7 H8 _ I8 q8) fun xv s9 ⟨xx, H9, I9, r9, q9⟩ => ?_
        refine thn (mt_append _ s9 σ7 H9 (.ref s2.heap.objs.size) [xx] (.ref s2.heap.objs.size) [xv] _ I9 rfl (.cons r9 .nil) q9) fun _ s10 ⟨_, H10, I10, _, q10⟩ => ?_
        exact again I10 q10
  exact codeAny_compStart_list (loop _ rfl) (T.self _ _ _ _ _ (T.keep 0 _ _ st2 fun b _ o e => old b o e) (loop _ rfl))
end L2
set_option Elab.async false
set_option linter.all false
set_option maxRecDepth 100000
set_option maxHeartbeats 4000000
namespace PH
open PySem L2 PySem.W
end PH
set_option Elab.async false
set_option linter.all false
set_option maxRecDepth 100000
namespace L2
open PySem PySem.Spec PyProof.Rows PySem.W
section
variable {X : Cx}
theorem boot_all' : bootBuiltins "all" = some (.builtin "all") := by decide +kernel
noncomputable def rAll (K : Frag) : List V → Hp → VK → Prop := fun xs H Q => ∃ (p : Addr) (bs : List Bool), xs = [.ref p] ∧ SqL K H p (bs.map V.bl) ∧ Q (.bl (bs.all id)) H
theorem bl_at {bs : List Bool} {us : List Value} (r : Vals (bs.map V.bl) us) : us = bs.map Value.bool := by
  induction bs generalizing us with
  | nil => cases r; rfl
  | cons b t ih =>
    cases r with
    | cons h t' =>
      rw [ih t']
      cases h
      rfl
theorem range_allB : ∀ (bs : List Bool), ((List.range bs.length).all fun i => (bs[i]?).getD true) = bs.all id := fun bs => by
  rw [Bool.eq_iff_iff, List.all_eq_true, List.all_eq_true]
  constructor
  · intro h b hb
    obtain ⟨i, hi, e⟩ := List.mem_iff_getElem.mp hb
    have := h i (List.mem_range.mpr hi)
    rw [List.getElem?_eq_getElem hi, e] at this
    exact this
  · intro h i hi
    have hi := List.mem_range.mp hi
    rw [List.getElem?_eq_getElem hi]
    exact h _ (List.getElem_mem hi)
theorem call_allL (hc : X.calm = true) : CallR X (.builtin "all") (rAll X.K) := by
  intro pins s σ H xs us Q I r h
  obtain ⟨p, bs, rfl, hs, q⟩ := h
  obtain ⟨u, rfl, ru⟩ := r.one
  cases ru
  obtain ⟨its, rv, pl, hz⟩ := I.list hs
  have e := bl_at rv
  subst e
  have hl := pl.isList
  have hlt : p < s.heap.objs.size := by obtain ⟨_, e, _⟩ := hl; exact Heap.lt_size e
  refine call_all_walk (wpAny_pyIter_list hl ?_)
  refine ⟨s.heap.objs.size, [s.heap.objs.size, p], [s.heap.objs.size], (bs.map Value.bool).toArray.size, _, _, fun i => (bs[i]?).getD true, rfl, Walks.list (A := X.A.in1) (I.ok.hd hc) _ p (Nat.ne_of_lt hlt) (bs.map Value.bool).toArray,
    ⟨⟨_, Heap.get?_push_size _ rfl, rfl, rfl⟩, hl.push _⟩, fun i v s' Q' E' hP hQ => ?_, fun h' tk hk => ?_⟩
  · have hP' : (bs.map Value.bool)[i]? = some v := by simpa using hP
    rw [List.getElem?_map] at hP'
    cases eb : bs[i]? with
    | none => rw [eb] at hP'; cases hP'
    | some b =>
      rw [eb] at hP'
      cases hP'
      simp only [eb, Option.getD_some] at hQ
      exact wpAny_truthy_bool hQ
  · have e : ((List.range (bs.map Value.bool).toArray.size).all fun i => (bs[i]?).getD true) = bs.all id := by
      rw [List.size_toArray, List.length_map]; exact range_allB bs
    rw [e]
    exact ⟨.bl _, H, I.kept (h' := h') (t' := tk) (fun b x e => hk b x (fun hm => by rw [List.mem_singleton.mp hm] at e; exact Nat.lt_irrefl _ (Heap.lt_size e)) (Heap.get?_push_of_some _ e)), rfl, q⟩
end
end L2
set_option Elab.async false
set_option linter.all false
set_option maxRecDepth 100000
set_option maxHeartbeats 4000000
namespace PH
open PySem L2 PySem.W
theorem trueT {A B : Hp → Prop} {σ : St} {H : Hp} (h : A H) : tTrue σ H (fun b H4 => if b = true then A H4 else B H4) := by
  show if true = true then A H else B H
  exact iteT h
end PH
set_option Elab.async false
set_option linter.all false
set_option maxRecDepth 100000
set_option maxHeartbeats 4000000
namespace PH
open PySem L2 PySem.W
noncomputable def Kb (d : Addr) (H H' : Hp) : Prop := ∀ b u, b ≠ d → H b = some u → H' b = some u
theorem Kb.refl (d : Addr) (H : Hp) : Kb d H H := fun _ _ _ e => e
theorem Kb.of {d : Addr} {H H' : Hp} (s : Same H H') : Kb d H H' := fun b u _ e => s b u e
theorem Kb.trans {d : Addr} {H H1 H2 : Hp} (a : Kb d H H1) (b : Kb d H1 H2) : Kb d H H2 := fun x u n e => b x u n (a x u n e)
theorem Kb.put (d : Addr) (H : Hp) (o : HO) : Kb d H (upd H d o) := fun b u n e => by rw [upd_ne n]; exact e
theorem Kb.new {d q : Addr} {H H' : Hp} (k : Kb d H H') (o : HO) (hq : H q = none) : Kb d H (upd H' q o) := fun b u n e => by rw [upd_ne (ne_of_none e hq)]; exact k b u n e
theorem Kb.free {d q : Addr} {H H' : Hp} {o : HO} (k : Kb d H H') (hd : H' d = some o) (hq : H' q = none) : H q = none := by
  cases e : H q with
  | none => rfl
  | some u =>
    have n : q ≠ d := fun z => by rw [z, hd] at hq; cases hq
    rw [k q u n e] at hq; cases hq
end PH
set_option Elab.async false
set_option linter.all false
set_option maxRecDepth 100000
set_option maxHeartbeats 4000000
namespace L2
open PySem PySem.Spec PyProof.Rows PySem.W
section
variable {X : Cx}
end
end L2
namespace PH
open PySem L2 PySem.W
structure ExK (K : Frag) (cN c1 c2 c3 c4 c5 c6 : Addr) : Prop where
  k1 : kitOne K (.ref cN) (.ref c1) = some false
  k2 : kitOne K (.ref cN) (.ref c2) = some false
  k3 : kitOne K (.ref cN) (.ref c3) = some false
  k4 : kitOne K (.ref cN) (.ref c4) = some false
  k5 : kitOne K (.ref cN) (.ref c5) = some false
  k6 : kitOne K (.ref cN) (.ref c6) = some false
end PH
set_option Elab.async false
set_option linter.all false
namespace PH
end PH
set_option Elab.async false
set_option linter.all false
set_option maxRecDepth 100000
set_option maxHeartbeats 4000000
namespace PH
open PySem L2 PySem.W
noncomputable def spWhole : Sp := fun vs H Q _ => ∃ n : Int, vs = [.int n] ∧ Q (.bl true) H
theorem gNx {i : Nat} {v v' : V} {σ : St} {H : Hp} {Q : St → Hp → Prop} (e : v' = v) (h : gName i v' σ H Q) : gName i v σ H Q := by
  subst e; exact h
end PH
set_option Elab.async false
set_option linter.all false
namespace PH
end PH
set_option Elab.async false
set_option linter.all false
set_option maxRecDepth 100000
namespace L2
open PySem PySem.Spec PyProof.Rows PySem.W
section
variable {X : Cx} {pins : List (Addr × Obj)} {σ : St} {H : Hp} {s : Shared}
end
end L2
set_option Elab.async false
set_option linter.all false
set_option maxRecDepth 100000
set_option maxHeartbeats 4000000
namespace PH
open PySem L2 PySem.W
end PH
set_option Elab.async false
set_option linter.all false
namespace PH
end PH
set_option Elab.async false
set_option linter.all false
set_option maxRecDepth 100000
set_option maxHeartbeats 4000000
namespace ST
open PySem
noncomputable def Up (xs : Array Nat) : Prop := xs.toList.Pairwise (· < ·)
theorem Up.at {xs : Array Nat} (u : Up xs) {i k : Nat} (h : i < k) (hk : k < xs.size) : xs.getD i 0 < xs.getD k 0 := by
  have hi : i < xs.size := Nat.lt_trans h hk
  have := List.pairwise_iff_getElem.mp u i k (by simpa using hi) (by simpa using hk) h
  simpa [Array.getD, hi, hk] using this
structure Ok (t : SetTable) (n : Nat) : Prop where
  mask : t.mask = 7 ∨ t.mask = 31 ∨ t.mask = 127 ∨ t.mask = 511
  size : t.place.size = n
  fit : n ≤ t.mask
  dum : t.dummies = #[]
  up : Up t.place
  le : ∀ j ∈ t.place.toList, j ≤ t.mask
  plain : t.plain = true
end ST
set_option Elab.async false
set_option linter.all false
set_option maxRecDepth 100000
set_option maxHeartbeats 4000000
namespace ST
open PySem
structure Ow (m k : Nat) (ow : Array (Option Nat)) : Prop where
  size : ow.size = m + 1
  perm : (ow.toList.filterMap id).Perm (List.range k)
end ST
set_option Elab.async false
set_option linter.all false
set_option maxRecDepth 100000
set_option maxHeartbeats 4000000
namespace ST
open PySem PyProof.Rows
noncomputable def kOf (e : Int × Value) : Int := match e.2 with | .int k _ => k | _ => 0
noncomputable def Good (e : Int × Value) : Prop := ∃ k t, e = (hashInt k, .int k t) ∧ 0 ≤ k ∧ k ≤ 255
structure W (h : Heap) (a : Addr) (led : Bool) (ns : List Int) : Prop where
  ex : ∃ o es ep t, h.get? a = some o ∧ o.ExactSet ∧ o.data = .set es ep t ∧ (∀ e ∈ es.toList, Good e) ∧ (es.toList.map kOf).Perm ns ∧ Ok t es.size ∧ es.size * 5 < t.mask * 3 ∧ t.led = led
  nd : ns.Nodup
  rg : ∀ k ∈ ns, 0 ≤ k ∧ k ≤ 255
section
variable {prog : Program} {w : World} {A : Around} {E : Value → Shared → Prop} {s : Shared}
end
end ST
set_option Elab.async false
set_option linter.all false
set_option maxRecDepth 100000
set_option maxHeartbeats 4000000
namespace ST
open PySem PyProof.Rows
noncomputable def led0 (w : World) : Bool := !w.params.followText "set-order"
theorem W.at {h h' : Heap} {a : Addr} {led : Bool} {ns : List Int} (x : W h a led ns) (k : ∀ o, h.get? a = some o → h'.get? a = some o) : W h' a led ns := by
  obtain ⟨⟨o, es, ep, t, go, r⟩, nd, rg⟩ := x
  exact ⟨⟨o, es, ep, t, k _ go, r⟩, nd, rg⟩
section
variable {prog : Program} {w : World} {A : Around} {R : Result → Shared → Prop} {I : Addr} {fp wr : List Addr} {G : Array GenState → Array GenState → Prop} {n : Nat} {P : Nat → Value → Prop} {St : Nat → Shared → Prop}
end
section
variable {prog : Program} {w : World} {A : Around} {E : Value → Shared → Prop} {s : Shared}
end
end ST
set_option Elab.async false
set_option linter.all false
set_option maxRecDepth 100000
set_option maxHeartbeats 4000000
namespace ST
open PySem PyProof.Rows
structure Fx (w : World) (o : Obj) (es : Array (Int × Value)) (ep : Nat) (t : SetTable) : Prop where
  ex : o.ExactSet
  dt : o.data = .set es ep t
  ok : Ok t es.size
  led : t.led = led0 w
section
variable {prog : Program} {w : World} {A : Around} {E : Value → Shared → Prop} {s : Shared} {S I : Addr} {o : Obj} {es : Array (Int × Value)} {ep : Nat} {t : SetTable}
end
end ST
set_option Elab.async false
set_option linter.all false
set_option maxRecDepth 100000
set_option maxHeartbeats 4000000
namespace L2
open PySem PySem.Spec PyProof.Rows PySem.W
section
variable {X : Cx}
end
end L2
set_option Elab.async false
set_option linter.all false
set_option maxRecDepth 100000
namespace HT
open PySem PyProof.Rows
open AutoSeq1 (wpAny_loadPart')
open MeetsSeq MeetsSeq3 SeqAt
section
variable {prog : Program} {w : World} {A : Around} {E : Value → Shared → Prop} {s : Shared}
end
end HT
namespace L2
open PySem PySem.Spec PyProof.Rows PySem.W
section
variable {X : Cx}
end
end L2
set_option Elab.async false
set_option linter.all false
set_option maxRecDepth 100000
namespace L2
open PySem PySem.Spec PyProof.Rows PySem.W PySem.Calls Att
open PySem.Builtin.Int (intBits)
section
variable {X : Cx}
end
end L2
set_option Elab.async false
set_option linter.all false
set_option maxRecDepth 100000
namespace L2
open PySem PySem.Spec PyProof.Rows PySem.W
section
variable {X : Cx}
end
end L2
set_option Elab.async false
set_option linter.all false
set_option maxRecDepth 100000
namespace L2
open PySem PySem.Spec PyProof.Rows PySem.W
section
variable {X : Cx}
end
end L2
namespace PH
open PySem L2 PySem.W
end PH
set_option Elab.async false
set_option linter.all false
set_option maxRecDepth 100000
namespace L2
open PySem PySem.Spec PyProof.Rows PySem.W
section
variable {X : Cx}
end
end L2
namespace L2
open PySem PySem.Spec PyProof.Rows PySem.W
section
variable {prog : Program} {w : World} {A : Around} {E : Value → Shared → Prop} {s : Shared}
theorem draw_listL {it l : Addr} {items : Array Value} (hne : l ≠ it) : ∀ (n i : Nat) (s : Shared) (Q : List Value → Shared → Prop), s.heap.IsListIter it l i → s.heap.IsList l items → i + n ≤ items.size →
    (∀ h', h'.IsListIter it l (i + n) → Heap.SameBut it s.heap h' → Q ((items.toList.drop i).take n) { s with heap := h' }) → wpAny (model prog w) A (draw (.ref it) n) Q E s
  | 0, i, s, Q, hit, _, _, hQ => by
    show wpAny _ _ (pure []) Q E s
    exact wpAny_pure (by simpa using hQ s.heap hit (Heap.SameBut.refl ..))
  | n + 1, i, s, Q, hit, hl, hle, hQ => by
    have hlt : i < items.size := by trivial
    show wpAny _ _ (pyNext (.ref it) >>= _) Q E s
    refine wpAny_bind (wpAny_pyNext_list_item hit hl (x := items[i]) (by simp [hlt]) fun h₁ hit₁ hs₁ => ?_)
    refine wpAny_bind (wpAny_holding (draw_listL hne n (i + 1) _ _ hit₁ (hl.at fun o e => (hs₁.2 l hne).trans e) (by trivial) fun h₂ hit₂ hs₂ => wpAny_pure ?_))
    have hd : items.toList.drop i = items[i] :: items.toList.drop (i + 1) := by simp [List.drop_eq_getElem_cons, hlt]
    have := hQ h₂ (by rw [show i + (n + 1) = i + 1 + n by trivial]; exact hit₂) (hs₁.trans hs₂)
    rw [hd, List.take_succ_cons] at this
    exact this
theorem unpackItems_listL {l : Addr} {items : Array Value} {Q : List Value → Shared → Prop} (hh : A.handled = none) (hl : s.heap.IsList l items)
    (hQ : ∀ h', Heap.ExtBut s.heap.objs.size s.heap h' → Q items.toList { s with heap := h' }) : wpAny (model prog w) A (unpackItems (.ref l) items.size none) Q E s := by
  have hlt : l ≠ s.heap.objs.size := by obtain ⟨o, ho, _⟩ := id hl; exact Nat.ne_of_lt (Heap.lt_size ho)
  have hty : s.TypeIs (.ref l) "list" := by obtain ⟨o, ho, hc, _⟩ := id hl; exact ⟨o, ho, hc⟩
  unfold unpackItems
  refine wpAny_bind ?_
  · unfold notIterableAtAll
    refine wpAny_bind (wpAny_specialOf hty slot_list_iter.lookup ?_)
    refine wpAny_pure ?_
    simp only [Bool.false_eq_true, if_false]
    refine wpAny_bind (wpAny_holding (wpAny_pyIter_list hl ?_))
    have hl1 : (s.heap.push { cls := .type "list_iterator", data := .fields #[.ref l, .int 0 0] }).IsList l items := hl.at fun o e => Heap.get?_push_of_some _ e
    refine wpAny_bind (wpAny_holding (draw_listL hlt items.size 0 _ _ ⟨_, Heap.get?_push_size _ rfl, rfl, rfl⟩ hl1 (by trivial) fun h₁ hit₁ hs₁ => ?_))
    have hall : List.take items.size (List.drop 0 items.toList) = items.toList := by
      rw [List.drop_zero]; exact List.take_of_length_le (by simp)
    rw [hall]
    rw [if_neg (by simp)]
    have hl₁ : h₁.IsList l items := hl1.at fun o e => (hs₁.2 l hlt).trans e
    refine wpAny_bind (wpAny_holding (wpAny_pyNext_list_end hh hit₁ hl₁ (by simp) fun h₂ he₂ => ?_))
    simp only [Option.isSome_none, Bool.false_eq_true, if_false]
    refine wpAny_pure (hQ h₂ fun b o hb e => he₂ b o hb (hs₁.extBut b o hb (Heap.get?_push_of_some _ e)))
theorem assign_Tuple_listL {env : Env} {elts : List Expr} {x1} {pos : Pos} {l : Addr} {items : Array Value} {Q : Unit → Shared → Prop} (hh : A.handled = none) (hl : s.heap.IsList l items)
    (hn : (assignEach elts env).length = items.size) (hstar : (assignEach elts env).findIdx? (·.1) = none)
    (h : ∀ h', Heap.ExtBut s.heap.objs.size s.heap h' → wpAny (model prog w) A (assignInOrder ((assignEach elts env).map (·.2)) items.toList) Q E { s with heap := h' }) :
    wpAny (model prog w) A (assign (.Tuple elts x1 pos) env (.ref l)) Q E s := by
  rw [assign_Tuple]
  refine wpAny_bind (wpAny_standAt ?_)
  unfold unpack
  rw [hn, hstar]
  exact wpAny_bind (wpAny_holding (unpackItems_listL hh hl h))
end
section
variable {X : Cx} {pos : Pos}
noncomputable def gLst (K : PySem.W.Frag) (n : Nat) (t : TGs) : TG := fun v σ H Q => ∃ a xs, v = .ref a ∧ SqL K H a xs ∧ xs.length = n ∧ t xs σ H Q
theorem pg_lst {es : List Expr} {k : Nat} {t : TGs} {n : Nat} (hc : X.calm = true) (h : PGs X es t)
    (hn : (assignEach es X.env).length = n := by rfl) (hst : (assignEach es X.env).findIdx? (·.1) = none := by rfl) : PG X (.Tuple es k pos) (gLst X.K n t) := by
  intro pins s σ H v u Q I r hw
  obtain ⟨a, xs, e1, hq, hl, hw⟩ := hw
  subst e1
  cases r
  obtain ⟨its, rv, ht, hz⟩ := I.list hq
  refine assign_Tuple_listL (I.ok.hd hc) ht.isList (by simp [hn, ← hl, rv.length]) hst fun h' hx => ?_
  have I1 : Inv X pins σ H { s with heap := h' } := I.kept (t' := s.toks) fun b o e => hx b o (Nat.ne_of_lt (Heap.lt_size e)) e
  exact h pins _ σ H xs _ Q I1 (by simpa using rv) hw
end
end L2
set_option Elab.async false
set_option linter.all false
set_option maxRecDepth 100000
set_option maxHeartbeats 4000000
namespace PH
open PySem L2 PySem.W
theorem getD_at {t : List Int} {j : Nat} {x : Int} (h : t[j]? = some x) : t.getD j 0 = x := by
  rw [List.getD_eq_getElem?_getD, h]; rfl
theorem sqMidY {A B : TS} {D : Ends} {σ : St} {H : Hp} (M : St → Hp → Prop) (h2 : ∀ σ' H', M σ' H' → B D σ' H') (h1 : ∀ N : St → Hp → Prop, (∀ σ' H', M σ' H' → N σ' H') → A { D with nx := N } σ H) : tSeq A B D σ H := h1 _ h2
theorem iteNTY {c A B : Prop} [Decidable c] (hc : ¬ c) (h : A) : if (!decide c) = true then A else B := by
  rw [decide_eq_false hc]; exact h
end PH
namespace PH
theorem firstOne_split : ∀ {r : List Int} {d : Nat}, isBits r → firstOne r = some d → ∃ t, r = List.replicate d 0 ++ 1 :: t
  | [], _, _, h => by cases h
  | b :: r, d, hb, h => by
    unfold firstOne at h
    split at h
    · rename_i h1
      cases h
      exact ⟨r, by rw [h1]; rfl⟩
    · rename_i h1
      cases e : firstOne r with
      | none => rw [e] at h; cases h
      | some k =>
        rw [e] at h
        have hk : k + 1 = d := Option.some.inj h
        obtain ⟨t, ht⟩ := firstOne_split (fun c hc => hb c (List.mem_cons_of_mem _ hc)) e
        refine ⟨t, ?_⟩
        have h0 : b = 0 := by
          rcases hb b List.mem_cons_self with q | q
          · exact q
          · exact absurd q h1
        rw [← hk, h0, ht, List.replicate_succ]; rfl
theorem isBits_drop {bs : List Int} (h : isBits bs) (k : Nat) : isBits (bs.drop k) := fun b hb => h b (List.mem_of_mem_drop hb)
theorem isBits_take {bs : List Int} (h : isBits bs) (k : Nat) : isBits (bs.take k) := fun b hb => h b (List.mem_of_mem_take hb)
theorem isBits_app {a b : List Int} (h1 : isBits a) (h2 : isBits b) : isBits (a ++ b) := fun x hx => by
  rcases List.mem_append.mp hx with h | h
  · exact h1 x h
  · exact h2 x h
theorem readE_back {bs : List Int} (hb : isBits bs) {i : Int} {n : Int} {b : Nat} (h : readE bs i = some (n, b)) : 1 ≤ n ∧ (bs.drop i.toNat).take (b - i.toNat) = endb n := by
  unfold readE at h
  split at h
  · cases h
  · cases e : firstOne (bs.drop i.toNat) with
    | none => rw [e] at h; cases h
    | some d =>
      rw [e] at h
      dsimp only at h
      split at h
      · cases h
      · rename_i h0 hlen
        obtain ⟨hn, hbb⟩ := Prod.mk.inj (Option.some.inj h)
        have hbr := isBits_drop hb i.toNat
        obtain ⟨t, ht⟩ := firstOne_split hbr e
        have hdl : (bs.drop i.toNat).length = bs.length - i.toNat := List.length_drop
        have htl : d ≤ t.length := by
          rw [ht, List.length_append, List.length_replicate, List.length_cons] at hdl
          trivial
        have hd2 : bs.drop (i.toNat + d) = 1 :: t := by
          rw [← List.drop_drop, ht]
          have := drop_pre (List.replicate d (0 : Int)) (1 :: t)
          rw [List.length_replicate] at this
          exact this
        rw [hd2, List.take_succ_cons] at hn
        have hbt : isBits (t.take d) := isBits_take (fun x hx => hbr x (by rw [ht]; exact List.mem_append_right _ (List.mem_cons_of_mem _ hx))) d
        have hlt : (t.take d).length = d := by rw [List.length_take]; trivial
        have eo := endb_one hbt
        rw [hlt] at eo
        have w1 := worth_one (t.take d) hbt
        have p0 : (0 : Int) < 2 ^ (t.take d).length := Int.pow_pos (by decide)
        refine ⟨by trivial, ?_⟩
        rw [← hn, eo, ht, show b - i.toNat = d + (d + 1) by trivial, List.take_append, List.length_replicate, List.take_of_length_le (by rw [List.length_replicate]; trivial), show d + (d + 1) - d = d + 1 by trivial, List.take_succ_cons]
theorem take_split {α : Type} (l : List α) {a b c : Nat} (h1 : a ≤ b) (h2 : b ≤ c) : (l.drop a).take (c - a) = (l.drop a).take (b - a) ++ (l.drop b).take (c - b) := by
  have e : c - a = (b - a) + (c - b) := by trivial
  rw [e, List.take_add, List.drop_drop, show a + (b - a) = b by trivial]
theorem readN_back {bs : List Int} (hb : isBits bs) : ∀ (m b : Nat) (ns : List Int) (b' : Nat), b ≤ bs.length → readN m bs b = some (ns, b') → b ≤ b' ∧ b' ≤ bs.length ∧ (∀ n ∈ ns, 0 ≤ n) ∧ ns.length = m ∧ (bs.drop b).take (b' - b) = flatb ns
  | 0, b, ns, b', hl, h => by
    unfold readN at h
    obtain ⟨rfl, rfl⟩ := Prod.mk.inj (Option.some.inj h)
    exact ⟨Nat.le_refl _, hl, (fun _ z => by cases z), rfl, by rw [Nat.sub_self, List.take_zero]; rfl⟩
  | m + 1, b, ns, b', hl, h => by
    cases e : readE bs b with
    | none => rw [readN_stop e] at h; cases h
    | some nc =>
      obtain ⟨n, c⟩ := nc
      rw [readN_step e] at h
      cases e2 : readN m bs c with
      | none => rw [e2] at h; cases h
      | some r =>
        obtain ⟨r, b2⟩ := r
        rw [e2] at h
        obtain ⟨h1, rfl⟩ := Prod.mk.inj (Option.some.inj h)
        obtain ⟨_, l1, l2⟩ := readE_le e
        obtain ⟨g1, g2⟩ := readE_back hb e
        obtain ⟨k1, k2, k3, k4, k5⟩ := readN_back hb m c r b2 l2 e2
        subst h1
        refine ⟨by trivial, k2, fun x hx => ?_, by rw [List.length_cons, k4], ?_⟩
        · rcases List.mem_cons.mp hx with q | q
          · trivial
          · exact k3 x q
        · rw [take_split bs (b := c) (by trivial) k1, flatb_cons, k5, show n - 1 + 1 = n by trivial]
          rw [Int.toNat_natCast] at g2
          rw [g2]
theorem readRow_back {bs : List Int} (hb : isBits bs) {i : Int} {ns : List Int} {b : Nat} (h : readRow bs i = some (ns, b)) : 0 ≤ i ∧ i < b ∧ b ≤ bs.length ∧ (∀ n ∈ ns, 0 ≤ n) ∧ (bs.drop i.toNat).take (b - i.toNat) = rowb ns := by
  unfold readRow at h
  cases e : readE bs i with
  | none => rw [e] at h; cases h
  | some mc =>
    obtain ⟨m, c⟩ := mc
    rw [e] at h
    dsimp only at h
    obtain ⟨i0, l1, l2⟩ := readE_le e
    obtain ⟨g1, g2⟩ := readE_back hb e
    obtain ⟨k1, k2, k3, k4, k5⟩ := readN_back hb _ c ns b l2 h
    refine ⟨i0, by trivial, k2, k3, ?_⟩
    rw [take_split bs (b := c) (by trivial) k1, g2, k5]
    unfold rowb
    rw [show (ns.length : Int) + 1 = m by trivial]
theorem endb_pos {n : Int} (h : 1 ≤ n) : 1 ≤ (endb n).length ∧ blen n ≤ (endb n).length := by
  have := endb_length n
  have := blen_pos h
  trivial
theorem flatb_ge : ∀ {ns : List Int}, (∀ n ∈ ns, 0 ≤ n) → ns.length ≤ (flatb ns).length ∧ ∀ n ∈ ns, blen (n + 1) ≤ (flatb ns).length
  | [], _ => ⟨Nat.le_refl _, fun _ z => nomatch z⟩
  | n :: r, h => by
    obtain ⟨a, b⟩ := flatb_ge (ns := r) fun x hx => h x (List.mem_cons_of_mem _ hx)
    have e := endb_pos (n := n + 1) (by have := h n List.mem_cons_self; trivial)
    rw [flatb_cons, List.length_append, List.length_cons]
    refine ⟨by trivial, fun x hx => ?_⟩
    rcases List.mem_cons.mp hx with q | q
    · subst q; trivial
    · have := b x q; trivial
end PH
set_option Elab.async false
set_option linter.all false
set_option maxRecDepth 100000
namespace L2
open PySem PySem.Spec PyProof.Rows
section
variable {X : Cx}
end
end L2
set_option Elab.async false
set_option linter.all false
set_option maxRecDepth 100000
namespace L2
open PySem PySem.Spec PyProof.Rows PySem.W
section
variable {prog : Program} {w : World} {A : Around} {E : Value → Shared → Prop} {s : Shared} {a it : Addr} {es : Array DictEntry} {ep i : Nat}
end
section
variable {X : Cx} {pins : List (Addr × Obj)} {σ : St} {H : Hp} {s : Shared}
end
end L2
set_option Elab.async false
set_option linter.all false
set_option maxRecDepth 100000
namespace L2
open PySem PySem.Spec PyProof.Rows PySem.W
theorem comp_rngSQ {lo c : Int} {n : Nat} {D : Addr} {σ0 : St} {H1 : Hp} {Qd : Hp → Prop} {g : TG} {tc : TT} {te : TE} (Pv : Nat → St → Hp → Prop) (h0 : Pv 0 σ0 (upd H1 D (.lst [])))
    (hs : ∀ i σ' H', i < n → Pv i σ' H' → g (.int (lo + i * c)) σ' H' fun σ2 H3 => tc σ2 H3 fun b H4 => if b = true then te σ2 H4 fun v H5 => rAppend (.ref D) [v] H5 fun _ H6 => ∃ m', m' < n - i ∧ CW n Pv (i + 1) m' σ2 H6 else ∃ m', m' < n - i ∧ CW n Pv (i + 1) m' σ2 H4)
    (hd : ∀ σ' H', Pv n σ' H' → Qd H') :
    ∃ W : Nat → Nat → St → Hp → Prop, (∃ m, W 0 m σ0 (upd H1 D (.lst []))) ∧ ∀ i m σ' H', W i m σ' H' → ((Itrs lo c n).stop i H' ∧ Qd H') ∨ ((Itrs lo c n).go i H' ∧ ∀ x H2, (Itrs lo c n).yld i H' x H2 → g x σ' H2 fun σ2 H3 => tc σ2 H3 fun b H4 =>
      if b = true then te σ2 H4 fun v H5 => rAppend (.ref D) [v] H5 fun _ H6 => ∃ m', m' < m ∧ W (i + 1) m' σ2 H6 else ∃ m', m' < m ∧ W (i + 1) m' σ2 H4) := by
  refine ⟨CW n Pv, ⟨n, rfl, Nat.zero_le _, h0⟩, ?_⟩
  rintro i m σ' H' ⟨rfl, hi, p⟩
  by_cases hlt : i < n
  · refine .inr ⟨hlt, fun x H2 y => ?_⟩
    obtain ⟨e, y⟩ := y
    subst e y
    exact hs i σ' _ hlt p
  · have e : i = n := by trivial
    subst e
    exact .inl ⟨Nat.le_refl _, hd σ' H' p⟩
section
variable {X : Cx}
end
end L2
set_option Elab.async false
set_option linter.all false
set_option maxRecDepth 100000
namespace L2
open PySem PySem.Spec PyProof.Rows PySem.W
section
variable {X : Cx}
end
end L2
set_option Elab.async false
set_option linter.all false
set_option maxRecDepth 100000
set_option maxHeartbeats 4000000
namespace PH
open PySem L2 PySem.W
noncomputable def unp (cs : List (Int × Int)) : List Int := cs.flatMap fun c => [c.1, c.2]
theorem unp_snoc (cs : List (Int × Int)) (c : Int × Int) : unp (cs ++ [c]) = unp cs ++ [c.1, c.2] := by
  unfold unp; rw [List.flatMap_append]; rfl
theorem unp_len : ∀ cs : List (Int × Int), (unp cs).length = 2 * cs.length
  | [] => rfl
  | c :: r => by
    show ([c.1, c.2] ++ unp r).length = _
    simp only [List.length_append, List.length_cons, List.length_nil, unp_len r]; trivial
theorem unp_get : ∀ {cs : List (Int × Int)} {i : Nat} {c : Int × Int}, cs[i]? = some c → (unp cs)[2 * i]? = some c.1 ∧ (unp cs)[2 * i + 1]? = some c.2
  | c :: r, 0, d, h => by
    have := Option.some.inj h
    subst this
    exact ⟨rfl, rfl⟩
  | c :: r, i + 1, d, h => by
    have ih := unp_get (cs := r) (i := i) h
    have e : unp (c :: r) = c.1 :: c.2 :: unp r := rfl
    rw [e, show 2 * (i + 1) = 2 * i + 1 + 1 by trivial, List.getElem?_cons_succ, List.getElem?_cons_succ, List.getElem?_cons_succ, List.getElem?_cons_succ]
    exact ih
theorem mem_unp {cs : List (Int × Int)} {x : Int} (h : x ∈ unp cs) : ∃ c ∈ cs, x = c.1 ∨ x = c.2 := by
  obtain ⟨c, hc, hx⟩ := List.mem_flatMap.mp h
  refine ⟨c, hc, ?_⟩
  simpa using hx
noncomputable def prd (ns : List Int) : List (Int × Int) := (List.range (ns.length / 2)).map fun i => (ns.getD (2 * i) 0, ns.getD (2 * i + 1) 0)
theorem prd_len (ns : List Int) : (prd ns).length = ns.length / 2 := by unfold prd; rw [List.length_map, List.length_range]
theorem prd_unp (cs : List (Int × Int)) : prd (unp cs) = cs := by
  unfold prd
  refine List.ext_getElem? fun i => ?_
  rw [List.getElem?_map, unp_len, show 2 * cs.length / 2 = cs.length by trivial]
  by_cases h : i < cs.length
  · have hc := List.getElem?_eq_getElem h
    obtain ⟨h1, h2⟩ := unp_get hc
    rw [List.getElem?_range h, Option.map_some, getD_at h1, getD_at h2, hc]
  · rw [List.getElem?_eq_none (by rw [List.length_range]; trivial), List.getElem?_eq_none (by trivial)]; rfl
theorem rsz_two {n : Nat} (h : n % 2 = 0) : (Builtin.Range.rangeSize 0 (n : Int) 2).toNat = n / 2 := by
  unfold Builtin.Range.rangeSize
  rw [if_pos (by trivial)]
  split <;> trivial
theorem lt900 {n : Nat} (h : n < 1048576) : n < 2 ^ 900 := Nat.lt_of_lt_of_le h (by decide +kernel)
noncomputable def spLowW (cN : Addr) : Sp := fun vs H Q E => ∃ (n : Int) (k : Nat), vs = [.int n, .int k] ∧ k ≤ 3000 ∧ (((n < 0 ∨ 2 ^ k ≤ n) ∧ E (.ref cN) none H) ∨ ((0 ≤ n ∧ n < 2 ^ k) ∧ ∀ p, H p = none → Q (.ref p) (upd H p (lsI (lowb n k)))))
noncomputable def spRowW (K : Frag) (cN : Addr) : Sp := fun vs H Q E => ∃ (a : Addr) (ns : List Int), vs = [.ref a] ∧ SqL K H a (ns.map V.int) ∧ ns.length ≤ 540 ∧ (∀ n ∈ ns, 0 ≤ n → blen (n + 1) ≤ 900) ∧
  ((∃ n ∈ ns, n < 0) → ∀ H', Same H H' → E (.ref cN) none H') ∧ ((∀ n ∈ ns, 0 ≤ n) → ∀ (p : Addr) (H' : Hp), Same H H' → H p = none → H' p = some (lsI (rowb ns)) → Q (.ref p) H')
noncomputable def spUnp : Sp := fun vs H Q _ => ∃ (p : Addr) (zs : List (Addr × Int × Int)), vs = [.ref p] ∧ Prs H p zs ∧ zs.length ≤ 300 ∧ ∀ (L : Addr) (H' : Hp), Same H H' → H L = none → H' L = some (lsI (unp (zs.map (·.2)))) → Q (.ref L) H'
noncomputable def spPrd (cB : Addr) : Sp := fun vs H Q E => ∃ (a : Addr) (ns : List Int), vs = [.ref a] ∧ H a = some (lsI ns) ∧ ns.length ≤ 40000 ∧ (ns.length % 2 = 1 → E (.ref cB) none H) ∧
  (ns.length % 2 = 0 → ∀ (p : Addr) (zs : List (Addr × Int × Int)) (H' : Hp), Same H H' → H p = none → Prs H' p zs → zs.map (·.2) = prd ns → Q (.ref p) H')
noncomputable def spLNum54 : Sp := fun vs H Q _ => ∃ (a : Addr) (bs : List Int) (i : Nat), vs = [.ref a, .int (i : Nat)] ∧ H a = some (lsI bs) ∧ isBits bs ∧ bs.length ≤ 20000 ∧ i ≤ 30000 ∧
  (readE bs (i : Nat) = none → Q .non H) ∧ (∀ n b, readE bs (i : Nat) = some (n, b) → ∀ (t : Addr) (H' : Hp), Same H H' → H t = none → H' t = some (.tup [.int n, .int (b : Nat)]) → Q (.ref t) H')
noncomputable def spLRow54 : Sp := fun vs H Q _ => ∃ (a : Addr) (bs : List Int) (i : Nat), vs = [.ref a, .int (i : Nat)] ∧ H a = some (lsI bs) ∧ isBits bs ∧ bs.length ≤ 20000 ∧ i ≤ 30000 ∧
  (readRow bs (i : Nat) = none → ∀ H', Same H H' → Q .non H') ∧ (∀ ns b, readRow bs (i : Nat) = some (ns, b) → ∀ (t l : Addr) (H' : Hp), Same H H' → H l = none → H' l = some (lsI ns) → H' t = some (.tup [.ref l, .int (b : Nat)]) → Q (.ref t) H')
end PH
set_option Elab.async false
set_option linter.all false
set_option maxRecDepth 100000
set_option maxHeartbeats 4000000
namespace PH
open PySem L2 PySem.W
structure Wrs (H : Hp) (p : Addr) (ws : List (Addr × Int × Addr × List Int)) : Prop where
  at_ : H p = some (.lst (ws.map fun w => V.ref w.1))
  each : ∀ w ∈ ws, H w.1 = some (.tup [.int w.2.1, .ref w.2.2.1]) ∧ H w.2.2.1 = some (lsI w.2.2.2)
noncomputable def wD (c : Int × List Int) : DV := .tup [.int c.1, .lst (c.2.map DV.int)]
noncomputable def wrD (ws : List (Int × List Int)) : DV := .lst (ws.map wD)
theorem Wrs.same {H H' : Hp} {p : Addr} {ws : List (Addr × Int × Addr × List Int)} (h : Wrs H p ws) (s : Same H H') : Wrs H' p ws := ⟨s _ _ h.at_, fun w hw => ⟨s _ _ (h.each w hw).1, s _ _ (h.each w hw).2⟩⟩
theorem deeps_wrs {K : Frag} {H : Hp} : ∀ {ws : List (Addr × Int × Addr × List Int)}, (∀ w ∈ ws, H w.1 = some (.tup [.int w.2.1, .ref w.2.2.1]) ∧ H w.2.2.1 = some (lsI w.2.2.2)) → Deeps K H (ws.map fun w => V.ref w.1) ((ws.map fun w => (w.2.1, w.2.2.2)).map wD)
  | [], _ => .nil
  | w :: r, h => .cons (.tup (SqT.of (h w List.mem_cons_self).1) (.cons (.int _) (.cons (.lst (SqL.of (h w List.mem_cons_self).2) (Deeps.ints _)) .nil))) (deeps_wrs fun y hy => h y (List.mem_cons_of_mem _ hy))
theorem Wrs.deep {K : Frag} {H : Hp} {p : Addr} {ws : List (Addr × Int × Addr × List Int)} (h : Wrs H p ws) : Deep K H (.ref p) (wrD (ws.map fun w => (w.2.1, w.2.2.2))) := .lst (SqL.of h.at_) (deeps_wrs h.each)
theorem hts_dints : ∀ ns : List Int, hts (ns.map DV.int) = 0
  | [] => by unfold List.map hts; rfl
  | n :: r => by
    rw [List.map_cons]
    unfold hts
    rw [hts_dints r]
    unfold ht
    rfl
theorem ht_wD (c : Int × List Int) : ht (wD c) ≤ 2 := by
  unfold wD
  rw [ht_tup]
  unfold hts hts hts
  rw [ht_lst, hts_dints]
  unfold ht
  decide
theorem hts_wD : ∀ cs : List (Int × List Int), hts (cs.map wD) ≤ 2
  | [] => by unfold List.map hts; decide
  | c :: r => by
    rw [List.map_cons]
    unfold hts
    have := ht_wD c
    have := hts_wD r
    trivial
theorem ht_wrD (cs : List (Int × List Int)) : ht (wrD cs) ≤ 60 := by
  unfold wrD
  rw [ht_lst]
  have := hts_wD cs
  trivial
theorem Wrs.app {H : Hp} {p t b : Addr} {s : Int} {w : List Int} {ws : List (Addr × Int × Addr × List Int)} (h : Wrs H p ws) (hn : ∀ e ∈ ws, e.2.2.1 ≠ p) (ht : H t = some (.tup [.int s, .ref b])) (hb : H b = some (lsI w)) (nb : b ≠ p) : Wrs (upd H p (.lst ((ws.map fun w => V.ref w.1) ++ [V.ref t]))) p (ws ++ [(t, s, b, w)]) := by
  have nt : ∀ a xs, H a = some (.tup xs) → a ≠ p := fun a xs e c => by rw [c, h.at_] at e; cases e
  refine ⟨by rw [upd_same, List.map_append]; rfl, fun e he => ?_⟩
  rcases List.mem_append.mp he with q | q
  · have := h.each e q
    exact ⟨by rw [upd_ne (nt _ _ this.1)]; exact this.1, by rw [upd_ne (hn e q)]; exact this.2⟩
  · have : e = (t, s, b, w) := by simpa using q
    subst this
    exact ⟨by rw [upd_ne (nt _ _ ht)]; exact ht, by rw [upd_ne nb]; exact hb⟩
noncomputable abbrev BL := Addr × Int × Addr × List Int
noncomputable def bkv (bs : List BL) : List (Int × List Int) := bs.map fun b => (b.2.1, b.2.2.2)
noncomputable def conD (sz tot : Int) (vs : List (Int × List Int)) : DV := .tup [.int sz, .int tot, wrD vs]
theorem deep_con {K : Frag} {H : Hp} {c p : Addr} {sz tot : Int} {bs : List BL} (h : H c = some (.tup [.int sz, .int tot, .ref p])) (w : Wrs H p bs) : Deep K H (.ref c) (conD sz tot (bkv bs)) := .tup (SqT.of h) (.cons (.int _) (.cons (.int _) (.cons w.deep .nil)))
theorem ht_con (sz tot : Int) (vs : List (Int × List Int)) : ht (conD sz tot vs) ≤ 60 := by
  unfold conD wrD
  rw [ht_tup]
  unfold hts hts hts hts
  rw [ht_lst]
  unfold ht
  have := hts_wD vs
  trivial
noncomputable def GSg (mg : Str → Option Value) : Prop := ∃ u, mg "GREATEST_SIZE" = some u ∧ RelV (.int 64) u
noncomputable def MSg (mg : Str → Option Value) : Prop := ∃ u, mg "MOST_SIGNS" = some u ∧ RelV (.int 400) u
noncomputable def isCn (sz tot : Int) (n : Nat) : Bool := decide (1 ≤ sz) && decide (sz ≤ 64) && (decide (0 ≤ tot) && decide (tot ≤ 400)) && decide (((n : Nat) : Int) = (tot + sz - 1) / sz)
noncomputable def hds (vs : List (Int × List Int)) : List (Int × Int) := vs.map fun v => (v.1, ((v.2.length : Nat) : Int))
noncomputable def flt (vs : List (Int × List Int)) : List Int := vs.flatMap (·.2)
theorem flt_snoc (vs : List (Int × List Int)) (v : Int × List Int) : flt (vs ++ [v]) = flt vs ++ v.2 := by
  unfold flt
  rw [List.flatMap_append]
  show _ ++ (v.2 ++ []) = _
  rw [List.append_nil]
noncomputable def conB (sz tot : Int) (vs : List (Int × List Int)) : List Int := rowb (sz :: tot :: unp (hds vs)) ++ flt vs
noncomputable def cutH (bs : List Int) : Nat → List (Int × Int) → List (Int × List Int)
  | _, [] => []
  | b, h :: r => (h.1, (bs.drop b).take h.2.toNat) :: cutH bs (b + h.2.toNat) r
noncomputable def endH : Nat → List (Int × Int) → Nat
  | b, [] => b
  | b, h :: r => endH (b + h.2.toNat) r
theorem cutH_snoc (bs : List Int) (h : Int × Int) : ∀ (hs : List (Int × Int)) (b : Nat), cutH bs b (hs ++ [h]) = cutH bs b hs ++ [(h.1, (bs.drop (endH b hs)).take h.2.toNat)]
  | [], b => rfl
  | x :: r, b => by
    show _ :: cutH bs (b + x.2.toNat) (r ++ [h]) = _ :: (cutH bs (b + x.2.toNat) r ++ _)
    rw [cutH_snoc bs h r]; rfl
theorem endH_snoc (h : Int × Int) : ∀ (hs : List (Int × Int)) (b : Nat), endH b (hs ++ [h]) = endH b hs + h.2.toNat
  | [], b => rfl
  | x :: r, b => endH_snoc h r (b + x.2.toNat)
theorem cutH_len (bs : List Int) : ∀ (hs : List (Int × Int)) (b : Nat), (cutH bs b hs).length = hs.length
  | [], b => rfl
  | x :: r, b => by
    show (cutH bs (b + x.2.toNat) r).length + 1 = r.length + 1
    rw [cutH_len bs r]
theorem cut_back : ∀ (vs : List (Int × List Int)) (pre : List Int), cutH (pre ++ flt vs) pre.length (hds vs) = vs ∧ endH pre.length (hds vs) = (pre ++ flt vs).length
  | [], pre => ⟨rfl, by show pre.length = (pre ++ []).length; rw [List.append_nil]⟩
  | v :: r, pre => by
    have ih := cut_back r (pre ++ v.2)
    rw [List.append_assoc, List.length_append] at ih
    have e : flt (v :: r) = v.2 ++ flt r := rfl
    rw [e]
    refine ⟨?_, ih.2⟩
    show (v.1, ((pre ++ (v.2 ++ flt r)).drop pre.length).take ((v.2.length : Nat) : Int).toNat) :: cutH (pre ++ (v.2 ++ flt r)) (pre.length + ((v.2.length : Nat) : Int).toNat) (hds r) = v :: r
    rw [Int.toNat_natCast, ih.1, drop_pre, List.take_left]
noncomputable def rdC (bs : List Int) : Option (Int × Int × List (Int × List Int)) := match readRow bs 0 with
  | none => none
  | some (ns, b) => if ns.length < 2 then none else if ns.length % 2 = 1 then none else if endH b (prd (ns.drop 2)) ≠ bs.length then none else
    if isCn (ns.getD 0 0) (ns.getD 1 0) (prd (ns.drop 2)).length = false then none else some (ns.getD 0 0, ns.getD 1 0, cutH bs b (prd (ns.drop 2)))
theorem hds_len (vs : List (Int × List Int)) : (hds vs).length = vs.length := List.length_map _
theorem rdC_back {sz tot : Int} {vs : List (Int × List Int)} (hc : isCn sz tot vs.length = true) (hg : ∀ v ∈ vs, 0 ≤ v.1) : rdC (conB sz tot vs) = some (sz, tot, vs) := by
  have h0 : ∀ n ∈ (sz :: tot :: unp (hds vs)), 0 ≤ n := fun n hn => by
    have hc' := hc
    unfold isCn at hc'
    simp only [Bool.and_eq_true, decide_eq_true_eq] at hc'
    rcases List.mem_cons.mp hn with rfl | hn
    · trivial
    rcases List.mem_cons.mp hn with rfl | hn
    · trivial
    obtain ⟨c, hcm, e⟩ := mem_unp hn
    obtain ⟨v, hv, rfl⟩ := List.mem_map.mp hcm
    have := hg v hv
    rcases e with rfl | rfl
    · exact this
    · exact Int.natCast_nonneg _
  have hr := readRow_row h0 [] (flt vs)
  rw [List.nil_append] at hr
  have hr' : readRow (conB sz tot vs) 0 = some (sz :: tot :: unp (hds vs), (rowb (sz :: tot :: unp (hds vs))).length) := by
    have : ([] : List Int).length = 0 := rfl
    rw [this, Nat.zero_add] at hr
    exact hr
  unfold rdC
  rw [hr']
  have hb := cut_back vs (rowb (sz :: tot :: unp (hds vs)))
  have hl : (sz :: tot :: unp (hds vs)).length = 2 * vs.length + 2 := by rw [List.length_cons, List.length_cons, unp_len, hds_len]
  show (if (sz :: tot :: unp (hds vs)).length < 2 then none else if (sz :: tot :: unp (hds vs)).length % 2 = 1 then none else if endH (rowb (sz :: tot :: unp (hds vs))).length (prd (unp (hds vs))) ≠ (conB sz tot vs).length then none else if isCn sz tot (prd (unp (hds vs))).length = false then none else some (sz, tot, cutH (conB sz tot vs) (rowb (sz :: tot :: unp (hds vs))).length (prd (unp (hds vs))))) = _
  rw [if_neg (by trivial), if_neg (by trivial), prd_unp, hds_len, if_neg (by rw [hb.2]; exact fun z => z rfl), if_neg (by rw [hc]; decide)]
  unfold conB
  rw [hb.1]
theorem prd_get {ns : List Int} {i : Nat} (h : 2 * i + 1 < ns.length) : (prd ns)[i]? = some (ns.getD (2 * i) 0, ns.getD (2 * i + 1) 0) := by
  unfold prd
  rw [List.getElem?_map, List.getElem?_range (by trivial)]; rfl
theorem prd_nn {ns : List Int} (h : ∀ n ∈ ns, 0 ≤ n) : ∀ c ∈ prd ns, 0 ≤ c.1 ∧ 0 ≤ c.2 := fun c hc => by
  unfold prd at hc
  obtain ⟨i, hi, rfl⟩ := List.mem_map.mp hc
  have hil := List.mem_range.mp hi
  have e1 : ns.getD (2 * i) 0 = ns[2 * i]'(by trivial) := getD_at (List.getElem?_eq_getElem _)
  have e2 : ns.getD (2 * i + 1) 0 = ns[2 * i + 1]'(by trivial) := getD_at (List.getElem?_eq_getElem _)
  exact ⟨by rw [e1]; exact h _ (List.getElem_mem _), by rw [e2]; exact h _ (List.getElem_mem _)⟩
noncomputable abbrev kR : Key := Sum.inr "rest"
noncomputable abbrev kD : Key := Sum.inr "digits"
noncomputable abbrev kC : Key := Sum.inr "count"
theorem kRD : kR ≠ kD := by decide
theorem kRC : kR ≠ kC := by decide
theorem kDC : kD ≠ kC := by decide
noncomputable def stL (r : Int) (b : Bool) (c : Int) : List (Key × V) := [(kR, .int r), (kD, .bl b), (kC, .int c)]
noncomputable def stD (r : Int) (b : Bool) (c : Int) : HO := .dK (stL r b c)
theorem val_r (r : Int) (b : Bool) (c : Int) : valV (stL r b c) kR = some (.int r) := by unfold stL; rw [valV_pos rfl]
theorem val_d (r : Int) (b : Bool) (c : Int) : valV (stL r b c) kD = some (.bl b) := by unfold stL; rw [valV_neg kRD, valV_pos rfl]
theorem val_c (r : Int) (b : Bool) (c : Int) : valV (stL r b c) kC = some (.int c) := by unfold stL; rw [valV_neg kRC, valV_neg kDC, valV_pos rfl]
theorem put_r (r : Int) (b : Bool) (c r' : Int) : putK (stL r b c) kR (.int r') = stL r' b c := by
  unfold putK
  rw [valV_any, val_r, if_pos (show (some (V.int r)).isSome = true from rfl)]
  unfold stL
  simp [kRD.symm, kRC.symm]
theorem put_c (r : Int) (b : Bool) (c c' : Int) : putK (stL r b c) kC (.int c') = stL r b c' := by
  unfold putK
  rw [valV_any, val_c, if_pos (show (some (V.int c)).isSome = true from rfl)]
  unfold stL
  show [(if kR = kC then (kR, V.int c') else (kR, V.int r)), (if kD = kC then (kD, V.int c') else (kD, V.bl b)), (if kC = kC then (kC, V.int c') else (kC, V.int c))] = _
  rw [if_neg kRC, if_neg kDC, if_pos rfl]
theorem put_all (r : Int) (b : Bool) (c : Int) : mergeK [] (stL r b c) = stL r b c := by
  unfold mergeK stL
  simp only [List.foldl_cons, List.foldl_nil]
  have e1 : putK [] kR (.int r) = [(kR, .int r)] := putK_new _ rfl
  have e2 : putK [(kR, .int r)] kD (.bl b) = [(kR, .int r), (kD, .bl b)] := putK_new _ (by rw [valV_neg kRD]; rfl)
  have e3 : putK [(kR, .int r), (kD, .bl b)] kC (.int c) = [(kR, .int r), (kD, .bl b), (kC, .int c)] := putK_new _ (by rw [valV_neg kRC, valV_neg kDC]; rfl)
  rw [e1, e2, e3]
theorem get_r {H : Hp} {d : Addr} {r : Int} {b : Bool} {c : Int} (h : H d = some (stD r b c)) : DGet H d (.str "rest") (some (.int r)) := by
  rw [← val_r r b c]; exact DGet.k (k := kR) h
theorem get_d {H : Hp} {d : Addr} {r : Int} {b : Bool} {c : Int} (h : H d = some (stD r b c)) : DGet H d (.str "digits") (some (.bl b)) := by
  rw [← val_d r b c]; exact DGet.k (k := kD) h
theorem get_c {H : Hp} {d : Addr} {r : Int} {b : Bool} {c : Int} (h : H d = some (stD r b c)) : DGet H d (.str "count") (some (.int c)) := by
  rw [← val_c r b c]; exact DGet.k (k := kC) h
theorem dput_r {H : Hp} {d : Addr} {r : Int} {b : Bool} {c : Int} (h : H d = some (stD r b c)) (r' : Int) : DPut H d (.str "rest") (.int r') (upd H d (stD r' b c)) := by
  unfold stD
  rw [← put_r r b c r']
  exact DPut.k (k := kR) h (fits_lt (by show 3 ≤ 1000000; decide))
theorem dput_c {H : Hp} {d : Addr} {r : Int} {b : Bool} {c : Int} (h : H d = some (stD r b c)) (c' : Int) : DPut H d (.str "count") (.int c') (upd H d (stD r b c')) := by
  unfold stD
  rw [← put_c r b c c']
  exact DPut.k (k := kC) h (fits_lt (by show 3 ≤ 1000000; decide))
theorem lowb_up (n : Int) (j : Nat) : [n / 2 ^ j % 2] ++ lowb n j = lowb n (j + 1) := by
  unfold lowb
  rw [rlow_snoc, List.reverse_append]; rfl
noncomputable def SD (n : Int) (d : Addr) (H : Hp) : Prop := ∃ r b c, H d = some (stD r b c) ∧ 0 ≤ c ∧ c ≤ n
theorem SD.same {n : Int} {d : Addr} {H H' : Hp} (h : SD n d H) (s : Same H H') : SD n d H' := by
  obtain ⟨r, b, c, e, h0, h1⟩ := h
  exact ⟨r, b, c, s _ _ e, h0, h1⟩
theorem SD.up {n : Int} {p q : Addr} {H : Hp} {o : HO} (h : SD n p H) (hq : p ≠ q) : SD n p (upd H q o) := by
  obtain ⟨a, b, c, e, h0, h1⟩ := h
  exact ⟨a, b, c, by rw [upd_ne hq]; exact e, h0, h1⟩
theorem SD.mono {n m : Int} {p : Addr} {H : Hp} (h : SD n p H) (hm : n ≤ m) : SD m p H := by
  obtain ⟨a, b, c, e, h0, h1⟩ := h
  exact ⟨a, b, c, e, h0, by trivial⟩
theorem SD.ne {n : Int} {p q : Addr} {H : Hp} (h : SD n p H) (hq : H q = none) : p ≠ q := by
  obtain ⟨a, b, c, e, h0, h1⟩ := h
  exact ne_of_none e hq
theorem SD.free {n : Int} {d q : Addr} {H H' : Hp} (hd : SD n d H') (k : Kb d H H') (hq : H' q = none) : H q = none := by
  obtain ⟨a, b, c, e, h0, h1⟩ := hd
  exact k.free e hq
theorem SD.neL {n : Int} {p q : Addr} {H : Hp} {ns : List Int} (h : SD n p H) (hq : H q = some (lsI ns)) : q ≠ p := fun z => by
  obtain ⟨a, b, c, e, h0, h1⟩ := h
  rw [z, e] at hq
  cases hq
theorem rsz_from2 {n : Nat} (h : n % 2 = 0) (h2 : 2 ≤ n) : (Builtin.Range.rangeSize 2 (n : Int) 2).toNat = (n - 2) / 2 := by
  unfold Builtin.Range.rangeSize
  rw [if_pos (by trivial)]
  split <;> trivial
theorem isCn_no {x y : Int} {n : Nat} (h : x < 1 ∨ 64 < x ∨ 400 < y ∨ ¬ ((n : Nat) : Int) = (y + x - 1) / x) : isCn x y n = false := by
  cases e : isCn x y n with
  | false => rfl
  | true =>
    unfold isCn at e
    simp only [Bool.and_eq_true, decide_eq_true_eq] at e
    rcases h with h | h | h | h
    · trivial
    · trivial
    · trivial
    · exact absurd e.2 h
noncomputable def spSizeA : Sp := fun vs H Q _ => ∃ n : Int, vs = [.int n] ∧ Q (.bl (decide (1 ≤ n) && decide (n ≤ 64))) H
noncomputable def spTotalA : Sp := fun vs H Q _ => ∃ n : Int, vs = [.int n] ∧ Q (.bl (decide (0 ≤ n) && decide (n ≤ 400))) H
noncomputable def spIsBk : Sp := fun vs H Q _ => ∃ (b l : Addr) (w : Int) (bits : List Int), vs = [.ref b] ∧ H b = some (.tup [.int w, .ref l]) ∧ H l = some (lsI bits) ∧ 0 ≤ w ∧ Q (.bl true) H
noncomputable def spAreBkA : Sp := fun vs H Q _ => ∃ (p : Addr) (bs : List BL) (m : Int), vs = [.ref p, .int m] ∧ Wrs H p bs ∧ bs.length ≤ 20000 ∧ (∀ b ∈ bs, 0 ≤ b.2.1) ∧ ∀ H', Same H H' → Q (.bl (decide (((bs.length : Nat) : Int) = m))) H'
noncomputable def spNeed : Sp := fun vs H Q _ => ∃ s t : Int, vs = [.int s, .int t] ∧ 1 ≤ s ∧ s ≤ 64 ∧ Q (.int ((t + s - 1) / s)) H
noncomputable def spIsConA : Sp := fun vs H Q _ => ∃ (c p : Addr) (sz tot : Int) (bs : List BL), vs = [.ref c] ∧ H c = some (.tup [.int sz, .int tot, .ref p]) ∧ Wrs H p bs ∧ bs.length ≤ 20000 ∧ (∀ b ∈ bs, 0 ≤ b.2.1) ∧ ∀ H', Same H H' → Q (.bl (isCn sz tot bs.length)) H'
noncomputable def spNoConA (cB : Addr) : Sp := fun vs H Q E => ∃ (c p : Addr) (sz tot : Int) (bs : List BL), vs = [.ref c] ∧ H c = some (.tup [.int sz, .int tot, .ref p]) ∧ Wrs H p bs ∧ bs.length ≤ 20000 ∧ (∀ b ∈ bs, 0 ≤ b.2.1) ∧
  (isCn sz tot bs.length = false → ∀ H', Same H H' → E (.ref cB) none H') ∧ (isCn sz tot bs.length = true → ∀ H', Same H H' → Q .non H')
structure CoA (H : Hp) (c : Addr) (sz tot : Int) (p : Addr) (bs : List BL) : Prop where
  at_ : H c = some (.tup [.int sz, .int tot, .ref p])
  bk : Wrs H p bs
  ok : isCn sz tot bs.length = true
  few : bs.length ≤ 60
  good : ∀ b ∈ bs, 0 ≤ b.2.1 ∧ b.2.1 ≤ 1000000 ∧ b.2.2.2.length ≤ 40 ∧ isBits b.2.2.2
theorem CoA.same {H H' : Hp} {c : Addr} {sz tot : Int} {p : Addr} {bs : List BL} (h : CoA H c sz tot p bs) (s : Same H H') : CoA H' c sz tot p bs := ⟨s _ _ h.at_, h.bk.same s, h.ok, h.few, h.good⟩
theorem blen_mid {n : Int} (h0 : 0 ≤ n) (h : n < 1048576) : blen n ≤ 20 := by
  refine blen_le.mpr ?_
  have : (2 : Nat) ^ 20 = 1048576 := by decide
  trivial
theorem flatb_mid : ∀ {ns : List Int}, (∀ x ∈ ns, 0 ≤ x ∧ x ≤ 1000000) → (flatb ns).length ≤ 40 * ns.length
  | [], _ => Nat.le_refl _
  | n :: r, h => by
    have ih := flatb_mid (ns := r) fun x hx => h x (List.mem_cons_of_mem _ hx)
    have h1 := h n List.mem_cons_self
    have h2 := blen_mid (n := n + 1) (by trivial) (by trivial)
    rw [flatb_cons, List.length_append, endb_length, List.length_cons]; trivial
theorem CoA.small {H : Hp} {c : Addr} {sz tot : Int} {p : Addr} {bs : List BL} (h : CoA H c sz tot p bs) : ∀ n ∈ [sz, tot] ++ unp (hds (bkv bs)), 0 ≤ n ∧ n ≤ 1000000 := fun n hn => by
  have hc' := h.ok
  unfold isCn at hc'
  simp only [Bool.and_eq_true, decide_eq_true_eq] at hc'
  rcases List.mem_append.mp hn with hn | hn
  · rcases List.mem_cons.mp hn with rfl | hn
    · trivial
    · rw [List.mem_singleton.mp hn]; trivial
  · obtain ⟨c, hcm, e⟩ := mem_unp hn
    obtain ⟨v, hv, rfl⟩ := List.mem_map.mp hcm
    obtain ⟨w, hw, rfl⟩ := List.mem_map.mp hv
    have hg := h.good w hw
    rcases e with rfl | rfl
    · exact ⟨hg.1, hg.2.1⟩
    · show 0 ≤ ((w.2.2.2.length : Nat) : Int) ∧ ((w.2.2.2.length : Nat) : Int) ≤ 1000000
      trivial
theorem cutH_nn {bs : List Int} : ∀ {hs : List (Int × Int)} {b : Nat}, (∀ c ∈ hs, 0 ≤ c.1) → ∀ v ∈ cutH bs b hs, 0 ≤ v.1
  | [], _, _, v, hv => by cases hv
  | h :: r, b, hh, v, hv => by
    rcases List.mem_cons.mp hv with rfl | hv
    · exact hh h List.mem_cons_self
    · exact cutH_nn (fun c hc => hh c (List.mem_cons_of_mem _ hc)) v hv
noncomputable def spCBits : Sp := fun vs H Q _ => ∃ (c p : Addr) (sz tot : Int) (bs : List BL), vs = [.ref c] ∧ CoA H c sz tot p bs ∧ ∀ (L : Addr) (H' : Hp), Same H H' → H L = none → H' L = some (lsI (conB sz tot (bkv bs))) → Q (.ref L) H'
structure Nws (H H' : Hp) (P : Addr) (ws : List BL) : Prop where
  bk : Wrs H' P ws
  pn : H P = none
  fr : ∀ w ∈ ws, H w.2.2.1 = none ∧ w.2.2.1 ≠ P
  nd : (ws.map (·.2.2.1)).Nodup
noncomputable def spBlks (cB : Addr) : Sp := fun vs H Q E => ∃ (a p : Addr) (bs : List Int) (b : Nat) (zs : List (Addr × Int × Int)), vs = [.ref a, .int (b : Nat), .ref p] ∧ H a = some (lsI bs) ∧ Prs H p zs ∧ (∀ z ∈ zs, 0 ≤ z.2.2) ∧ zs.length ≤ 20000 ∧
  (endH b (zs.map (·.2)) ≠ bs.length → ∀ H', Same H H' → E (.ref cB) none H') ∧
  (endH b (zs.map (·.2)) = bs.length → ∀ (P : Addr) (ws : List BL) (H' : Hp), Same H H' → Nws H H' P ws → bkv ws = cutH bs b (zs.map (·.2)) → Q (.ref P) H')
noncomputable def spRdC (cB : Addr) : Sp := fun vs H Q E => ∃ (a : Addr) (bs : List Int), vs = [.ref a] ∧ H a = some (lsI bs) ∧ isBits bs ∧ bs.length ≤ 20000 ∧
  (rdC bs = none → ∀ H', Same H H' → E (.ref cB) none H') ∧
  (∀ sz tot vs, rdC bs = some (sz, tot, vs) → ∀ (c P : Addr) (ws : List BL) (H' : Hp), Same H H' → H' c = some (.tup [.int sz, .int tot, .ref P]) → Nws H H' P ws → bkv ws = vs → Q (.ref c) H')
theorem conB_bits {sz tot : Int} {vs : List (Int × List Int)} (h : ∀ v ∈ vs, isBits v.2) : isBits (conB sz tot vs) := by
  unfold conB rowb flatb flt
  refine isBits_app (isBits_app (endb_bits _) fun x hx => ?_) fun x hx => ?_
  · obtain ⟨l, hl, hx⟩ := List.mem_flatten.mp hx
    obtain ⟨n, _, rfl⟩ := List.mem_map.mp hl
    exact endb_bits _ x hx
  · obtain ⟨v, hv, hx⟩ := List.mem_flatMap.mp hx
    exact h v hv x hx
theorem flt_len : ∀ {vs : List (Int × List Int)}, (∀ v ∈ vs, v.2.length ≤ 40) → (flt vs).length ≤ 40 * vs.length
  | [], _ => Nat.le_refl _
  | v :: r, h => by
    have ih := flt_len (vs := r) fun x hx => h x (List.mem_cons_of_mem _ hx)
    have h1 := h v List.mem_cons_self
    show (v.2 ++ flt r).length ≤ _
    rw [List.length_append, List.length_cons]; trivial
theorem CoA.len {H : Hp} {c : Addr} {sz tot : Int} {p : Addr} {bs : List BL} (h : CoA H c sz tot p bs) : (conB sz tot (bkv bs)).length ≤ 14000 := by
  have hf := h.few
  have h0 : (bkv bs).length = bs.length := by unfold bkv; rw [List.length_map]
  have h1 := flatb_mid h.small
  have hl9 : ([sz, tot] ++ unp (hds (bkv bs))).length = 2 + 2 * bs.length := by rw [List.length_append, unp_len, hds_len, h0]; rfl
  have h2 := blen_mid (n := (([sz, tot] ++ unp (hds (bkv bs))).length : Int) + 1) (by trivial) (by trivial)
  have h3 := flt_len (vs := bkv bs) fun v hv => by
    obtain ⟨w, hw, rfl⟩ := List.mem_map.mp hv
    exact (h.good w hw).2.2.1
  unfold conB
  rw [List.length_append]
  show ((rowb ([sz, tot] ++ unp (hds (bkv bs)))).length + _) ≤ _
  unfold rowb
  rw [List.length_append, endb_length]
  trivial
theorem CoA.bits {H : Hp} {c : Addr} {sz tot : Int} {p : Addr} {bs : List BL} (h : CoA H c sz tot p bs) : isBits (conB sz tot (bkv bs)) := conB_bits fun v hv => by
  obtain ⟨w, hw, rfl⟩ := List.mem_map.mp hv
  exact (h.good w hw).2.2.2
theorem CoA.rd {H : Hp} {c : Addr} {sz tot : Int} {p : Addr} {bs : List BL} (h : CoA H c sz tot p bs) : rdC (conB sz tot (bkv bs)) = some (sz, tot, bkv bs) := rdC_back (by unfold bkv; rw [List.length_map]; exact h.ok) fun v hv => by
  obtain ⟨w, hw, rfl⟩ := List.mem_map.mp hv
  exact (h.good w hw).1
theorem CoA.copy {H H' : Hp} {c c' : Addr} {sz tot : Int} {p p' : Addr} {bs hs : List BL} (h : CoA H c sz tot p bs) (e : H' c' = some (.tup [.int sz, .int tot, .ref p'])) (w : Wrs H' p' hs) (hb : bkv hs = bkv bs) : CoA H' c' sz tot p' hs := by
  have hl : hs.length = bs.length := by
    have := congrArg List.length hb
    unfold bkv at this
    rwa [List.length_map, List.length_map] at this
  refine ⟨e, w, by rw [hl]; exact h.ok, by rw [hl]; exact h.few, fun b hbm => ?_⟩
  have : (b.2.1, b.2.2.2) ∈ bkv bs := by rw [← hb]; exact List.mem_map.mpr ⟨b, hbm, rfl⟩
  obtain ⟨x, hx, ex⟩ := List.mem_map.mp this
  obtain ⟨e1, e2⟩ := Prod.mk.inj ex
  have hg := h.good x hx
  rw [e1, e2] at hg
  exact hg
noncomputable def spState (K : Frag) : Sp := fun vs H Q _ => ∃ (a : Addr) (ns : List Int) (k : Nat), vs = [.ref a, .int (k : Int)] ∧ SqL K H a (ns.map V.int) ∧ k ≤ 100 ∧ ∀ (d : Addr) (H' : Hp), H d = none → Same H H' → SD 100 d H' → Q (.ref d) H'
noncomputable def spDraw63 : Sp := fun vs H Q _ => ∃ (p : Addr) (n many : Int), vs = [.ref p, .int many] ∧ SD n p H ∧ n ≤ 1000000 ∧ 0 < many ∧ many < 1073741824 ∧
  ∀ (r : Int) (H' : Hp), 0 ≤ r → r < many → SD (n + 1) p H' → Kb p H H' → Q (.int r) H'
noncomputable def spFirst63 (K : Frag) : Sp := fun vs H Q _ => ∃ (a : Addr) (ns : List Int), vs = [.ref a] ∧ SqL K H a (ns.map V.int) ∧ ∀ (r : Int) (H' : Hp), Same H H' → Q (.int r) H'
noncomputable def spLEnd63 : Sp := fun vs H Q _ => ∃ n : Nat, vs = [.int (n : Nat)] ∧ 1 ≤ n ∧ n < 2 ^ 900 ∧ ∀ (L : Addr) (H' : Hp), Same H H' → H L = none → H' L = some (lsI (endb (n : Nat))) → Q (.ref L) H'
noncomputable def spLRow63 : Sp := fun vs H Q _ => ∃ (a : Addr) (ns : List Int), vs = [.ref a] ∧ H a = some (lsI ns) ∧ ns.length ≤ 200 ∧ (∀ n ∈ ns, 0 ≤ n ∧ n ≤ 1000000) ∧ ∀ (L : Addr) (H' : Hp), Same H H' → H L = none → H' L = some (lsI (rowb ns)) → Q (.ref L) H'
noncomputable def spBlk63 : Sp := fun vs H Q _ => ∃ (p : Addr) (n : Int), vs = [.ref p] ∧ SD n p H ∧ n ≤ 900000 ∧ ∀ (t l : Addr) (w : Int) (bits : List Int) (H' : Hp), Kb p H H' → H l = none → H' t = some (.tup [.int w, .ref l]) → H' l = some (lsI bits) → 0 ≤ w → w ≤ 1000000 → bits.length ≤ 40 → isBits bits → Q (.ref t) H'
noncomputable def spCont63 (K : Frag) : Sp := fun vs H Q _ => ∃ (a : Addr) (ns : List Int), vs = [.ref a] ∧ SqL K H a (ns.map V.int) ∧ ∀ (c p : Addr) (sz tot : Int) (bs : List BL) (H' : Hp), Same H H' → CoA H' c sz tot p bs → Q (.ref c) H'
noncomputable def spWrt63 : Sp := fun vs H Q _ => ∃ (c p : Addr) (sz tot : Int) (bs : List BL), vs = [.ref c] ∧ CoA H c sz tot p bs ∧ ∀ (L : Addr) (H' : Hp), Same H H' → H' L = some (lsI (conB sz tot (bkv bs))) → Q (.ref L) H'
noncomputable def spDue63 : Sp := fun vs H Q _ => ∃ (a : Addr) (bs : List Int), vs = [.ref a] ∧ H a = some (lsI bs) ∧ isBits bs ∧ bs.length ≤ 20000 ∧
  (rdC bs = none → ∀ H', Same H H' → Q .non H') ∧
  (∀ sz tot vs, rdC bs = some (sz, tot, vs) → ∀ (c P : Addr) (ws : List BL) (H' : Hp), Same H H' → H' c = some (.tup [.int sz, .int tot, .ref P]) → Wrs H' P ws → bkv ws = vs → Q (.ref c) H')
noncomputable def spSpo63 : Sp := fun vs H Q _ => ∃ (a p : Addr) (n : Int) (bs : List Int), vs = [.ref a, .ref p] ∧ H a = some (lsI bs) ∧ isBits bs ∧ bs.length ≤ 15000 ∧ SD n p H ∧ n ≤ 900000 ∧
  ∀ (L : Addr) (rs : List Int) (H' : Hp), Kb p H H' → SD (n + 100) p H' → H' L = some (lsI rs) → L ≠ p → isBits rs → rs.length ≤ 15100 → Q (.ref L) H'
noncomputable def spLRd63 : Sp := fun vs H Q _ => ∃ (a : Addr) (bs : List Int), vs = [.ref a] ∧ H a = some (lsI bs) ∧ isBits bs ∧ bs.length ≤ 20000 ∧ ∀ H', Same H H' → Q (.bl true) H'
end PH
set_option Elab.async false
set_option linter.all false
set_option maxRecDepth 100000
set_option maxHeartbeats 4000000
namespace K63
open PySem L2 PySem.W PH
noncomputable def top (i : Nat) : Stmt := PySem.Challenge.pw_packhall_k63_bits_of_containers.main.body.getD i (.Pass ⟨0, 0, 0, 0⟩)
noncomputable abbrev s_low : Stmt := top 10
noncomputable abbrev s_num : Stmt := top 11
noncomputable abbrev s_end : Stmt := top 12
noncomputable abbrev s_first : Stmt := top 13
noncomputable abbrev s_read : Stmt := top 14
noncomputable abbrev s_row : Stmt := top 15
noncomputable abbrev s_rdrow : Stmt := top 16
noncomputable abbrev s_whole : Stmt := top 19
noncomputable abbrev s_unp : Stmt := top 20
noncomputable abbrev s_prd : Stmt := top 21
noncomputable abbrev s_size : Stmt := top 24
noncomputable abbrev s_total : Stmt := top 25
noncomputable abbrev s_isbk : Stmt := top 26
noncomputable abbrev s_arebk : Stmt := top 27
noncomputable abbrev s_need : Stmt := top 28
noncomputable abbrev s_iscon : Stmt := top 29
noncomputable abbrev s_nocon : Stmt := top 30
noncomputable abbrev s_cbits : Stmt := top 31
noncomputable abbrev s_blks : Stmt := top 32
noncomputable abbrev s_rdc : Stmt := top 33
noncomputable abbrev s_state : Stmt := top 35
noncomputable abbrev s_draw : Stmt := top 36
noncomputable abbrev s_lfirst : Stmt := top 37
noncomputable abbrev s_lend : Stmt := top 38
noncomputable abbrev s_lroww : Stmt := top 39
noncomputable abbrev s_lnum : Stmt := top 40
noncomputable abbrev s_lrow : Stmt := top 41
noncomputable abbrev s_blk : Stmt := top 42
noncomputable abbrev s_cont : Stmt := top 43
noncomputable abbrev s_wrt : Stmt := top 44
noncomputable abbrev s_due : Stmt := top 45
noncomputable abbrev s_spo : Stmt := top 46
noncomputable abbrev s_lrd : Stmt := top 47
noncomputable abbrev s_law : Stmt := top 48
noncomputable abbrev sLow : Stmt := top 10
noncomputable abbrev sNum : Stmt := top 11
noncomputable abbrev sEnd : Stmt := top 12
noncomputable abbrev sFirst : Stmt := top 13
noncomputable abbrev sRead : Stmt := top 14
section
variable {P : Program} {w : World} {K : PySem.W.Frag} {mg : Str → Option Value} {base : Heap}
theorem scLow : FnScope ["n", "k", "bits", "left"] ["n", "k"] (defScope sLow) := ⟨rfl, rfl, rfl, by decide +kernel, rfl, by decide +kernel, by decide +kernel⟩
theorem ok_low {f cN : Addr} {fd : FuncData} (F : Fun K "low_bits" "low_bits" sLow f fd) (xN : Ex K mg "NoNumber" cN) (ml : mg "len" = none) : FnOk P w K mg base (CXW P w) 1 f fd ["n", "k"] (spLowW cN) := by
  refine F.okX scLow (fun vs H Q E h => ?_) (fun cdv A outer s H vs Q E hr h => ?_)
  · obtain ⟨n, k, rfl, _⟩ := h
    rfl
  · obtain ⟨n, k, rfl, hk, h⟩ := h
    refine ⟨_, pss_cons (ps_if (PW.pt (pw_or (pt_cmpR op_lt (pv 0) pe_int (nomark _)) (pw_or1 (pt_cmpR op_gt (pe_bm0 PySem.F.plainAttrs_int PySem.F.slot_int_bit_length PySem.F.type_int_bit_length mt_bitlen (pv 0)) (pv 1) (nomark _)))))
        (pss_one (ps_raise PySem.F.excBase_ValueError xN.ex xN.mg rfl)) pss_nil)
      (pss_cons (ps_set (i := 2) scLow.nd rfl (Or.inl rfl) (pe_lst pa_nil))
      (pss_cons (ps_set (i := 3) scLow.nd rfl (Or.inl rfl) (pv 0))
      (pss_cons (ps_while pown (pt_cmpR op_lt (pe_callB call_len_seq rfl ml PySem.boot_len (pa_cons (pv 2) pa_nil)) (pv 1) (nomark _))
        (pss_cons (ps_expr (pe_bm PySem.F.plainAttrs_list PySem.F.slot_list_append PySem.F.type_list_append mt_append (pv 2) (pa_cons (pe_op op_mod (pv 3) pe_int) pa_nil)))
        (pss_one (ps_set (i := 3) scLow.nd rfl (Or.inl rfl) (pe_op op_fdiv (pv 3) pe_int)))))
      (pss_cons (ps_expr (pe_bm0 PySem.F.plainAttrs_list PySem.F.slot_list_reverse PySem.F.type_list_reverse mt_reverse (pv 2)))
      (pss_one (ps_ret (pv 2))))))), ?_⟩
    rcases h with ⟨hb, hE⟩ | ⟨⟨h0, h1⟩, hQ⟩
    · refine ⟨_, rfl, _, _, rfl, rfl, _, rfl, ?_⟩
      refine ite2 (fun c => ?_) (fun c => ?_)
      · exact iteT hE
      · have c' : ¬ n < 0 := fun z => c (decide_eq_true z)
        refine ⟨_, rfl, rfl, n, rfl, rfl, _, rfl, _, _, rfl, rfl, _, rfl, ?_⟩
        rw [bits_over (by trivial), decide_eq_true (by trivial)]
        exact iteT hE
    refine ⟨_, rfl, _, _, rfl, rfl, _, rfl, ?_⟩
    rw [decide_eq_false (by trivial)]
    refine iteF ?_
    refine ⟨_, rfl, rfl, n, rfl, rfl, _, rfl, _, _, rfl, rfl, _, rfl, ?_⟩
    rw [bits_over h0, decide_eq_false (by trivial)]
    refine iteF ?_
    refine ⟨(by show 0 ≤ sizeLine; decide), fun p hp => ?_⟩
    refine ⟨_, rfl, ?_⟩
    refine ⟨fun m σ H' => ∃ i : Nat, i ≤ k ∧ m = k - i ∧ σ = [some (.int n), some (.int k), some (.ref p), some (.int (n / 2 ^ i))] ∧ H' = upd H p (lsI (rlow n i)), ⟨k, 0, Nat.zero_le _, rfl, ?_, rfl⟩, ?_⟩
    · show _ = [some (V.int n), some (V.int k), some (V.ref p), some (V.int (n / 2 ^ 0))]
      rw [Int.pow_zero, Int.ediv_one]; rfl
    rintro m σ H' ⟨i, hi, rfl, rfl, rfl⟩
    refine ⟨_, rfl, p, _, rfl, .inl (SqL.of upd_same), _, rfl, _, _, rfl, rfl, _, rfl, ?_⟩
    rw [List.length_map, rlow_length]
    refine ite2 (fun c => ?_) (fun c => ?_)
    · have c' : i < k := by have := of_decide_eq_true c; trivial
      refine ⟨fun σ' H'' => ∃ m', m' < k - i ∧ ∃ i : Nat, i ≤ k ∧ m' = k - i ∧ σ' = [some (.int n), some (.int k), some (.ref p), some (.int (n / 2 ^ i))] ∧ H'' = upd H p (lsI (rlow n i)), fun σ' H'' z => z, ?_⟩
      refine ⟨_, rfl, .inl ⟨rfl, _, SqL.of upd_same⟩, _, rfl, _, _, rfl, rfl, (by show (0 : Int) < 2; decide), p, _, _, rfl, rfl, upd_same, fits_lt (by rw [List.length_map, rlow_length]; trivial), ?_⟩
      refine ⟨_, rfl, _, _, rfl, rfl, ⟨by decide, by decide⟩, ?_⟩
      refine ⟨k - (i + 1), by trivial, i + 1, c', rfl, ?_, ?_⟩
      · rw [← div_pow_succ]; rfl
      · rw [upd_upd]; unfold lsI; rw [rlow_snoc, List.map_append]; rfl
    · have c' : i = k := by
        have : ¬ ((i : Nat) : Int) < (k : Int) := fun z => c (decide_eq_true z)
        trivial
      subst c'
      refine ⟨_, rfl, .inl ⟨rfl, _, SqL.of upd_same⟩, p, _, rfl, rfl, upd_same, ?_⟩
      refine ⟨_, rfl, ?_⟩
      rw [upd_upd, ← List.map_reverse]
      exact hQ p hp
theorem scNum : FnScope ["bits", "number", "bit"] ["bits"] (defScope sNum) := ⟨rfl, rfl, rfl, by decide +kernel, rfl, by decide +kernel, by decide +kernel⟩
theorem ok_num {f : Addr} {fd : FuncData} (F : Fun K "number_of" "number_of" sNum f fd) : FnOk P w K mg base (CXW P w) 1 f fd ["bits"] (spWorth K) := by
  refine F.okN scNum (fun vs H Q E h => ?_) (fun cdv A outer s H vs Q E hr h => ?_)
  · obtain ⟨a, bs, rfl, _⟩ := h
    rfl
  · obtain ⟨a, bs, rfl, hS, k⟩ := h
    refine ⟨_, pss_cons (ps_set (i := 1) scNum.nd rfl (Or.inl rfl) pe_int)
      (pss_cons (ps_for PassesOwn.never rfl (pi_list (pv 0)) (pg_name (i := 2) scNum.nd rfl (Or.inl rfl)) (pss_one (ps_set (i := 1) scNum.nd rfl (Or.inl rfl) (pe_op op_add (pe_op op_mul pe_int (pv 1)) (pv 2)))))
      (pss_one (ps_ret (pv 1)))), ?_⟩
    refine ⟨_, rfl, a, rfl, ⟨_, hS⟩, for_list (K := K) (a := a) (xs := bs.map V.int) (fun i σ H2 => ∃ v, σ = [some (.ref a), some (.int (horner (bs.take i))), v] ∧ H2 = H) ⟨none, rfl, rfl⟩ (fun i σ H2 _ ⟨_, _, e⟩ => by rw [e]; exact hS) ?_ ?_⟩
    · rintro i y σ H2 hi ⟨v, rfl, rfl⟩
      obtain ⟨z, rfl, hz⟩ := int_at hi
      refine ⟨_, rfl, _, _, rfl, rfl, .inl ⟨by decide, by decide⟩, _, rfl, _, _, rfl, rfl, ?_⟩
      exact ⟨_, by rw [take_at hz, horner_snoc]; rfl, rfl⟩
    · rintro σ H2 ⟨v, rfl, rfl⟩
      refine ⟨_, rfl, ?_⟩
      rw [List.length_map, List.take_length, worth_eq]
      exact k
theorem scEnd : FnScope ["n", "many"] ["n"] (defScope sEnd) := ⟨rfl, rfl, rfl, by decide +kernel, rfl, by decide +kernel, by decide +kernel⟩
theorem ok_end {f g cN : Addr} {fd gd : FuncData} (F : Fun K "ending_bits" "ending_bits" sEnd f fd) (xN : Ex K mg "NoNumber" cN) (G : FnOk P w K mg base (CXW P w) 1 g gd ["n", "k"] (spLowW cN)) (bG : Binds K gd ["n", "k"] []) (kG : keepIn K (.ref g) = true) (mG : mg "low_bits" = some (.ref g)) :
    FnOk P w K mg base (CXW P w) 2 f fd ["n"] (spEnd cN) := by
  refine F.okX scEnd (fun vs H Q E h => ?_) (fun cdv A outer s H vs Q E hr h => ?_)
  · obtain ⟨n, rfl, _⟩ := h
    rfl
  · obtain ⟨n, rfl, h⟩ := h
    refine ⟨_, pss_cons (ps_if (pt_cmpR op_lt (pv 0) pe_int (nomark _)) (pss_one (ps_raise PySem.F.excBase_ValueError xN.ex xN.mg rfl)) pss_nil)
      (pss_cons (ps_set (i := 1) scEnd.nd rfl (Or.inl rfl) (pe_bm0 PySem.F.plainAttrs_int PySem.F.slot_int_bit_length PySem.F.type_int_bit_length mt_bitlen (pv 0)))
      (pss_one (ps_ret (pe_op op_cat (pe_op op_rep (pe_lst (pa_cons pe_int pa_nil)) (pe_op op_sub (pv 1) pe_int)) (pe_call G hr rfl mG kG bG .nil passW (pa_cons (pv 0) (pa_cons (pv 1) pa_nil))))))), ?_⟩
    refine ⟨_, rfl, _, _, rfl, rfl, _, rfl, ?_⟩
    rcases h with ⟨h1, hE⟩ | ⟨h1, h9, k⟩
    · rw [decide_eq_true h1]
      exact iteT hE
    · rw [decide_eq_false (by trivial)]
      refine iteF ?_
      have bp := blen_pos h1
      refine ⟨_, rfl, rfl, n, rfl, rfl, ?_⟩
      refine ⟨(by show 1 ≤ sizeLine; decide), fun p1 hp1 => ?_⟩
      have et : (((blen n : Nat) : Int) - 1).toNat = blen n - 1 := by trivial
      refine ⟨_, rfl, _, _, rfl, rfl, p1, ((blen n : Nat) : Int) - 1, [.int 0], rfl, rfl, upd_same, by trivial, by trivial, Nat.le_of_lt (fits_lt (by rw [List.length_singleton, et]; trivial)), fun p2 hp2 => ?_⟩
      refine ⟨_, rfl, _, rfl, n, blen n, rfl, by trivial, .inr ⟨⟨by trivial, lt_blen (by trivial)⟩, fun p3 hp3 => ?_⟩⟩
      refine ⟨p2, p3, _, _, rfl, rfl, by rw [upd_ne (ne_of_none upd_same hp3), upd_same], upd_same, fits ?_, fun p4 hp4 => ?_⟩
      · rw [et, rep_ints, List.length_map, List.length_map, List.length_replicate, lowb_length]; trivial
      have s3 := (same_new hp1 (.lst [.int 0])).trans ((same_new hp2 (.lst (List.replicate (((blen n : Nat) : Int) - 1).toNat [V.int 0]).flatten)).trans (same_new hp3 (lsI (lowb n (blen n)))))
      refine k p4 _ (s3.trans (same_new hp4 _)) (s3.free hp4) ?_
      rw [upd_same, et, rep_ints, ← List.map_append]; rfl
theorem scFirst : FnScope ["bits", "at", "place"] ["bits", "at"] (defScope sFirst) := ⟨rfl, rfl, rfl, by decide +kernel, rfl, by decide +kernel, by decide +kernel⟩
theorem ok_first {f cB : Addr} {fd : FuncData} (F : Fun K "first_one" "first_one" sFirst f fd) (xB : Ex K mg "Broken" cB) (B : Bl mg) : FnOk P w K mg base (CXW P w) 1 f fd ["bits", "at"] (spFirst K cB) := by
  refine F.okX scFirst (fun vs H Q E h => ?_) (fun cdv A outer s H vs Q E hr h => ?_)
  · obtain ⟨a, bs, i, rfl, _⟩ := h
    rfl
  · obtain ⟨a, bs, i, rfl, hS, hl, hi6, h⟩ := h
    refine ⟨_, pss_cons (ps_if (pt_cmpR op_lt (pv 1) pe_int (nomark _)) (pss_one (ps_raise PySem.F.excBase_ValueError xB.ex xB.mg rfl)) pss_nil)
      (pss_cons (ps_for pown rfl (pi_range2 rfl B.range (pa_cons (pv 1) (pa_cons (pe_callB call_len_seq rfl B.len PySem.boot_len (pa_cons (pv 0) pa_nil)) pa_nil))) (pg_name (i := 2) scFirst.nd rfl (Or.inl rfl))
        (pss_one (ps_if (pt_cmpR op_eq (pe_ix ix_list (pv 0) (pv 2) (fun _ _ => rfl)) pe_int (nomark _)) (pss_one (ps_ret (pv 2))) pss_nil)))
      (pss_one (ps_raise PySem.F.excBase_ValueError xB.ex xB.mg rfl))), ?_⟩
    refine ⟨_, rfl, _, _, rfl, rfl, _, rfl, ?_⟩
    rcases h with ⟨h0, hE⟩ | ⟨h0, h⟩
    · rw [decide_eq_true h0]
      exact iteT hE
    · rw [decide_eq_false (by trivial)]
      refine iteF ?_
      have hbl : (bs.map V.int).length = bs.length := List.length_map _
      refine ⟨_, rfl, _, rfl, a, _, rfl, .inl hS, _, _, rfl, ⟨by trivial, by trivial, by trivial, by rw [hbl]; trivial⟩, for_range (fun j σ H2 => ∃ v, σ = [some (.ref a), some (.int i), v] ∧ H2 = H ∧ firstOne (bs.drop i.toNat) = (firstOne (bs.drop (i.toNat + j))).map (j + ·)) ⟨none, rfl, rfl, ?_⟩ ?_ ?_⟩
      · rw [Nat.add_zero]
        cases firstOne (bs.drop i.toNat) with
        | none => rfl
        | some d => rw [Option.map_some, Nat.zero_add]
      · rintro j σ H2 hj ⟨v, rfl, rfl, he⟩
        rw [hbl] at hj
        have hlt : i.toNat + j < bs.length := by trivial
        have hz : bs[i.toNat + j]? = some bs[i.toNat + j] := List.getElem?_eq_getElem hlt
        have hat : atI (bs.map V.int) (i + (j : Int)) = some (.int bs[i.toNat + j]) := by
          rw [show i + (j : Int) = ((i.toNat + j : Nat) : Int) by trivial]
          exact atI_nat (by rw [List.getElem?_map, hz]; rfl)
        refine ⟨_, rfl, _, rfl, a, _, _, _, rfl, rfl, hS, hat, rfl, _, rfl, ?_⟩
        rw [firstOne_step hz] at he
        refine ite2 (fun c => ?_) (fun c => ?_)
        · have c' : bs[i.toNat + j] = 1 := by injection of_decide_eq_true c
          rw [if_pos c'] at he
          refine ⟨_, rfl, ?_⟩
          rw [he] at h
          rw [show i + (j : Int) = ((i.toNat + (j + 0) : Nat) : Int) by trivial]
          exact h
        · have c' : ¬ bs[i.toNat + j] = 1 := fun z => c (by rw [z]; rfl)
          rw [if_neg c'] at he
          refine ⟨_, rfl, rfl, ?_⟩
          rw [he, ← Nat.add_assoc]
          cases firstOne (bs.drop (i.toNat + j + 1)) with
          | none => rfl
          | some d =>
            rw [Option.map_some, Option.map_some, Option.map_some]
            congr 1; trivial
      · rintro σ H2 ⟨v, rfl, rfl, he⟩
        have he2 : firstOne (bs.drop i.toNat) = none := by
          rw [he, firstOne_end (k := i.toNat + (((bs.map V.int).length : Int) - i).toNat) (by rw [hbl]; trivial)]; rfl
        rw [he2] at h
        exact h
theorem scRead : FnScope ["bits", "at", "one", "behind"] ["bits", "at"] (defScope sRead) := ⟨rfl, rfl, rfl, by decide +kernel, rfl, by decide +kernel, by decide +kernel⟩
theorem ok_read {f fF fN cB : Addr} {fd dF dN : FuncData} (F : Fun K "read_ending" "read_ending" sRead f fd) (xB : Ex K mg "Broken" cB) (B : Bl mg)
    (GF : FnOk P w K mg base (CXW P w) 1 fF dF ["bits", "at"] (spFirst K cB)) (bF : Binds K dF ["bits", "at"] []) (kF : keepIn K (.ref fF) = true) (mF : mg "first_one" = some (.ref fF))
    (GN : FnOk P w K mg base (CXW P w) 1 fN dN ["bits"] (spWorth K)) (bN : Binds K dN ["bits"] []) (kN : keepIn K (.ref fN) = true) (mN : mg "number_of" = some (.ref fN)) : FnOk P w K mg base (CXW P w) 2 f fd ["bits", "at"] (spRead K cB) := by
  refine F.okX scRead (fun vs H Q E h => ?_) (fun cdv A outer s H vs Q E hr h => ?_)
  · obtain ⟨a, bs, i, rfl, _⟩ := h
    rfl
  · obtain ⟨a, bs, i, rfl, hS, hl, hi6, h⟩ := h
    refine ⟨_, pss_cons (ps_set (i := 2) scRead.nd rfl (Or.inl rfl) (pe_call GF hr rfl mF kF bF .nil passW (pa_cons (pv 0) (pa_cons (pv 1) pa_nil))))
      (pss_cons (ps_set (i := 3) scRead.nd rfl (Or.inl rfl) (pe_op op_add (pe_op op_add (pv 2) (pe_op op_sub (pv 2) (pv 1))) pe_int))
      (pss_cons (ps_if (pt_cmpR op_gt (pv 3) (pe_callB call_len_seq rfl B.len PySem.boot_len (pa_cons (pv 0) pa_nil)) (nomark _)) (pss_one (ps_raise PySem.F.excBase_ValueError xB.ex xB.mg rfl)) pss_nil)
      (pss_one (ps_ret (pe_tup (pa_cons (pe_call GN hr rfl mN kN bN .nil passW (pa_cons (pe_slice sl_list (pv 0) (po_some (pv 2)) (po_some (pv 3))) pa_nil)) (pa_cons (pv 3) pa_nil))))))), ?_⟩
    have hbl : (bs.map V.int).length = bs.length := List.length_map _
    unfold readE at h
    by_cases h0 : i < 0
    · rw [if_pos h0] at h
      exact ⟨_, rfl, _, rfl, a, bs, i, rfl, hS, hl, hi6, .inl ⟨h0, h⟩⟩
    rw [if_neg h0] at h
    refine ⟨_, rfl, _, rfl, a, bs, i, rfl, hS, hl, hi6, .inr ⟨by trivial, ?_⟩⟩
    cases e : firstOne (bs.drop i.toNat) with
    | none =>
      rw [e] at h
      exact h
    | some d =>
      rw [e] at h
      have hd := firstOne_lt e
      rw [List.length_drop] at hd
      have eb : ((i.toNat + d : Nat) : Int) + (((i.toNat + d : Nat) : Int) - i) + 1 = ((i.toNat + d + d + 1 : Nat) : Int) := by trivial
      refine ⟨_, rfl, _, rfl, _, rfl, _, _, rfl, rfl, _, _, rfl, rfl, _, _, rfl, rfl, ?_⟩
      refine ⟨_, rfl, _, rfl, a, _, rfl, .inl hS, _, _, rfl, rfl, _, rfl, ?_⟩
      rw [hbl, eb]
      by_cases h1 : bs.length < i.toNat + d + d + 1
      · dsimp only at h
        rw [if_pos h1] at h
        rw [decide_eq_true (by trivial)]
        exact iteT h
      · dsimp only at h
        rw [if_neg h1] at h
        rw [decide_eq_false (by trivial)]
        refine iteF ?_
        refine ⟨_, rfl, _, rfl, _, rfl, _, rfl, _, rfl, a, _, rfl, hS, fun p hp => ?_⟩
        have ec : cutV (bs.map V.int) (some (((i.toNat + d : Nat) : Int))) (some ((((i.toNat + d : Nat) : Int) + (((i.toNat + d : Nat) : Int) - i) + 1))) = ((bs.drop (i.toNat + d)).take (d + 1)).map V.int := by
          rw [eb, cut_two]; congr 2; trivial
        refine ⟨p, (bs.drop (i.toNat + d)).take (d + 1), rfl, SqL.of (by rw [upd_same, ec]), ?_⟩
        refine ⟨_, rfl, (by show 2 ≤ sizeLine; decide), fun t ht => ?_⟩
        refine h t _ ((same_new hp _).trans (same_new ht _)) ((same_new hp _).free ht) ?_
        rw [upd_same, ← eb]
theorem sc_row : FnScope ["numbers", "bits", "number"] ["numbers"] (defScope s_row) := ⟨rfl, rfl, rfl, by decide +kernel, rfl, by decide +kernel, by decide +kernel⟩
theorem ok_row {f c_NoNumber f_end : Addr} {fd d_end : FuncData} (F : Fun K "row_bits" "row_bits" s_row f fd) (B : Bls mg) 
    (G_end : FnOk P w K mg base (CXW P w) 2 f_end d_end ["n"] (spEnd c_NoNumber)) (b_end : Binds K d_end ["n"] []) (k_end : keepIn K (.ref f_end) = true) (m_end : mg "ending_bits" = some (.ref f_end)) : FnOk P w K mg base (CXW P w) 3 f fd ["numbers"] (spRowW K c_NoNumber) := by
  refine F.okX sc_row (fun vs H Q E h => ?_) (fun cdv A outer s H vs Q E hr h => ?_)
  · obtain ⟨a, ns, rfl, _⟩ := h
    rfl
  · obtain ⟨a, ns, rfl, hS, h5, hbn, hE, hQ⟩ := h
    refine ⟨_, (pss_cons (ps_set (i := 1) sc_row.nd rfl (Or.inl rfl) (pe_call G_end hr rfl m_end k_end b_end .nil passW (pa_cons (pe_op op_add (pe_callB call_len_seq rfl B.len PySem.boot_len (pa_cons (pv 0) pa_nil)) pe_int) pa_nil)))
      (pss_cons (ps_for pown rfl (pi_list (pv 0)) (pg_name (i := 2) sc_row.nd rfl (Or.inl rfl))
        (pss_one (ps_expr (pe_bm PySem.F.plainAttrs_list PySem.F.slot_list_extend PySem.F.type_list_extend mt_extend (pv 1) (pa_cons (pe_call G_end hr rfl m_end k_end b_end .nil passW (pa_cons (pe_op op_add (pv 2) pe_int) pa_nil)) pa_nil)))))
      (pss_one (ps_ret (pv 1))))), ?_⟩
    have hbl := len_lsI ns
    refine ⟨_, rfl, a, _, rfl, .inl hS, _, _, rfl, rfl, _, rfl, .inr ⟨by trivial, blen_small (by trivial) (by trivial), fun p H1 s1 hp hp1 => ?_⟩⟩
    have e0 : (((ns.map V.int).length : Nat) : Int) + 1 = (ns.length : Int) + 1 := by rw [hbl]
    rw [e0] at hp1
    have hb1 := blen_small (n := (ns.length : Int) + 1) (by trivial) (by trivial)
    have hl1 := endb_length ((ns.length : Int) + 1)
    refine ⟨_, rfl, a, rfl, ⟨_, s1.seq hS⟩, for_list (K := K) (a := a) (xs := ns.map V.int) (fun i σ H2 => ∃ v, σ = [some (.ref a), some (.ref p), v] ∧ H2 p = some (lsI (endb ((ns.length : Int) + 1) ++ flatb (ns.take i))) ∧ Same H H2 ∧ (∀ n ∈ ns.take i, 0 ≤ n) ∧ (flatb (ns.take i)).length ≤ 1799 * i)
      ⟨none, rfl, by rw [hp1, List.take_zero]; show _ = some (lsI (_ ++ [])); rw [List.append_nil], s1, by rw [List.take_zero]; exact (fun _ z => by cases z), by rw [List.take_zero]; exact Nat.zero_le _⟩ (fun i σ H2 _ ⟨_, _, _, e, _⟩ => e.seq hS) ?_ ?_⟩
    · rintro i y σ H2 hi ⟨v, rfl, hp2, s2, hn, hfl⟩
      obtain ⟨z, rfl, hz⟩ := int_at hi
      have hil : i < ns.length := (List.getElem?_eq_some_iff.mp hz).1
      have hzm : z ∈ ns := List.mem_of_getElem? hz
      refine ⟨_, rfl, .inl ⟨rfl, _, SqL.of hp2⟩, _, rfl, _, _, rfl, rfl, z + 1, rfl, ?_⟩
      by_cases h0 : z < 0
      · exact .inl ⟨by trivial, hE ⟨z, hzm, h0⟩ _ s2⟩
      · have hbz := hbn z hzm (by trivial)
        refine .inr ⟨by trivial, hbz, fun q H3 s3 hq hq3 => ?_⟩
        have hl2 := endb_length (z + 1)
        refine ⟨p, q, _, _, rfl, rfl, s3 _ _ hp2, hq3, fits ?_, ?_⟩
        · rw [List.length_map, List.length_map, List.length_append]; trivial
        · refine ⟨_, rfl, ?_, same_upd (s2.trans s3) _ hp, ?_, ?_⟩
          · rw [upd_same, lsI_app, flatb_take hz, List.append_assoc]
          · rw [take_at hz]
            intro n hm
            rcases List.mem_append.mp hm with hm | hm
            · exact hn n hm
            · have : n = z := by simpa using hm
              trivial
          · rw [flatb_take hz, List.length_append]; trivial
    · rintro σ H2 ⟨v, rfl, hp2, s2, hn, hfl⟩
      rw [hbl, List.take_length] at hp2 hn
      refine ⟨_, rfl, ?_⟩
      exact hQ hn p H2 s2 hp hp2
theorem sc_rdrow : FnScope ["bits", "at", "head", "many", "behind", "numbers", "found"] ["bits", "at"] (defScope s_rdrow) := ⟨rfl, rfl, rfl, by decide +kernel, rfl, by decide +kernel, by decide +kernel⟩
theorem ok_rdrow {f c_Broken f_read : Addr} {fd d_read : FuncData} (F : Fun K "read_row" "read_row" s_rdrow f fd) (B : Bls mg) 
    (G_read : FnOk P w K mg base (CXW P w) 2 f_read d_read ["bits", "at"] (spRead K c_Broken)) (b_read : Binds K d_read ["bits", "at"] []) (k_read : keepIn K (.ref f_read) = true) (m_read : mg "read_ending" = some (.ref f_read)) : FnOk P w K mg base (CXW P w) 3 f fd ["bits", "at"] (spRdRow K c_Broken) := by
  refine F.okX sc_rdrow (fun vs H Q E h => ?_) (fun cdv A outer s H vs Q E hr h => ?_)
  · obtain ⟨a, bs, i, rfl, _⟩ := h
    rfl
  · obtain ⟨a, bs, i, rfl, hS, hl, hi6, h⟩ := h
    refine ⟨_, (pss_cons (ps_set (i := 2) sc_rdrow.nd rfl (Or.inl rfl) (pe_call G_read hr rfl m_read k_read b_read .nil passW (pa_cons (pv 0) (pa_cons (pv 1) pa_nil))))
      (pss_cons (ps_set (i := 3) sc_rdrow.nd rfl (Or.inl rfl) (pe_op op_sub (pe_ix ix_tup (pv 2) pe_int (fun _ _ => rfl)) pe_int))
      (pss_cons (ps_set (i := 4) sc_rdrow.nd rfl (Or.inl rfl) (pe_ix ix_tup (pv 2) pe_int (fun _ _ => rfl)))
      (pss_cons (ps_set (i := 5) sc_rdrow.nd rfl (Or.inl rfl) (pe_lst pa_nil))
      (pss_cons (ps_while pown (pt_cmpR op_lt (pe_callB call_len_seq rfl B.len PySem.boot_len (pa_cons (pv 5) pa_nil)) (pv 3) (nomark _))
        (pss_cons (ps_set (i := 6) sc_rdrow.nd rfl (Or.inl rfl) (pe_call G_read hr rfl m_read k_read b_read .nil passW (pa_cons (pv 0) (pa_cons (pv 4) pa_nil))))
        (pss_cons (ps_expr (pe_bm PySem.F.plainAttrs_list PySem.F.slot_list_append PySem.F.type_list_append mt_append (pv 5) (pa_cons (pe_op op_sub (pe_ix ix_tup (pv 6) pe_int (fun _ _ => rfl)) pe_int) pa_nil)))
        (pss_one (ps_set (i := 4) sc_rdrow.nd rfl (Or.inl rfl) (pe_ix ix_tup (pv 6) pe_int (fun _ _ => rfl)))))))
      (pss_one (ps_ret (pe_tup (pa_cons (pv 5) (pa_cons (pv 4) pa_nil)))))))))), ?_⟩
    refine ⟨_, rfl, _, rfl, a, bs, i, rfl, hS, hl, hi6, ?_⟩
    cases e : readE bs i with
    | none =>
      rw [readRow_none e] at h
      exact h H (Same.refl H)
    | some mb =>
      obtain ⟨mm, b⟩ := mb
      obtain ⟨i0, ib, bl⟩ := readE_le e
      intro t H1 s1 ht ht1
      refine ⟨_, rfl, t, _, _, _, rfl, rfl, SqT.of ht1, rfl, _, _, rfl, rfl, ?_⟩
      refine ⟨_, rfl, t, _, _, _, rfl, rfl, SqT.of ht1, rfl, ?_⟩
      refine ⟨(by show 0 ≤ sizeLine; decide), fun nl hnl => ?_⟩
      have hnt : t ≠ nl := ne_of_none ht1 hnl
      have e0 : readRow bs i = readN (mm - 1).toNat bs b := by unfold readRow; rw [e]
      refine ⟨fun m σ H' => ∃ (xs : List Int) (bb : Nat) (fv : Option V), m = bs.length - bb ∧ σ = [some (.ref a), some (.int i), some (.ref t), some (.int (mm - 1)), some (.int bb), some (.ref nl), fv] ∧ H' nl = some (lsI xs) ∧ Same H1 H' ∧ bb ≤ bs.length ∧ xs.length ≤ bb ∧ xs.length ≤ (mm - 1).toNat ∧ readRow bs i = (readN ((mm - 1).toNat - xs.length) bs bb).map fun r => (xs ++ r.1, r.2),
        ⟨bs.length - b, [], b, none, rfl, rfl, upd_same, same_new hnl _, bl, Nat.zero_le _, Nat.zero_le _, ?_⟩, ?_⟩
      · rw [e0]
        show _ = (readN (mm - 1).toNat bs b).map _
        cases readN (mm - 1).toNat bs b with
        | none => rfl
        | some r => rfl
      rintro m σ H' ⟨xs, bb, fv, rfl, rfl, hnl', s2, hbb, hxb, hxm, hrr⟩
      refine ⟨_, rfl, nl, _, rfl, .inl (SqL.of hnl'), _, rfl, _, _, rfl, rfl, _, rfl, ?_⟩
      rw [len_lsI]
      have hH1 : Same H H' := s1.trans s2
      refine ite2 (fun c => ?_) (fun c => ?_)
      · have c' : (xs.length : Int) < mm - 1 := of_decide_eq_true c
        obtain ⟨k, hk⟩ : ∃ k, (mm - 1).toNat - xs.length = k + 1 := ⟨(mm - 1).toNat - xs.length - 1, by trivial⟩
        rw [hk] at hrr
        refine ⟨fun σ' H'' => ∃ m', m' < bs.length - bb ∧ ∃ (xs : List Int) (bb : Nat) (fv : Option V), m' = bs.length - bb ∧ σ' = [some (.ref a), some (.int i), some (.ref t), some (.int (mm - 1)), some (.int bb), some (.ref nl), fv] ∧ H'' nl = some (lsI xs) ∧ Same H1 H'' ∧ bb ≤ bs.length ∧ xs.length ≤ bb ∧ xs.length ≤ (mm - 1).toNat ∧ readRow bs i = (readN ((mm - 1).toNat - xs.length) bs bb).map fun r => (xs ++ r.1, r.2), fun σ' H'' z => z, ?_⟩
        refine ⟨_, rfl, _, rfl, a, bs, (bb : Int), rfl, hH1.seq hS, hl, by trivial, ?_⟩
        cases e2 : readE bs bb with
        | none =>
          rw [readN_stop e2] at hrr
          rw [hrr] at h
          exact h H' hH1
        | some nb =>
          obtain ⟨n', b'⟩ := nb
          obtain ⟨_, lt2, le2⟩ := readE_le e2
          intro t2 H3 s3 ht2 ht3
          have hn3 := s3 _ _ hnl'
          have hnt2 : nl ≠ t2 := ne_of_none hnl' ht2
          have z1 : H1 nl = none := hnl
          refine ⟨_, rfl, .inl ⟨rfl, _, SqL.of hn3⟩, _, rfl, t2, _, _, _, rfl, rfl, SqT.of ht3, rfl, _, _, rfl, rfl, nl, _, _, rfl, rfl, hn3, fits_lt (by rw [len_lsI]; trivial), ?_⟩
          refine ⟨_, rfl, t2, _, _, _, rfl, rfl, SqT.of (by rw [upd_ne hnt2.symm]; exact ht3), rfl, ?_⟩
          refine ⟨bs.length - b', by trivial, xs ++ [n' - 1], b', _, rfl, rfl, ?_, same_upd (s2.trans s3) _ hnl, le2, ?_, ?_, ?_⟩
          · rw [upd_same, lsI_app1]
          · rw [List.length_append, List.length_singleton]; trivial
          · rw [List.length_append, List.length_singleton]; trivial
          · rw [hrr, readN_step e2, List.length_append, List.length_singleton, show (mm - 1).toNat - (xs.length + 1) = k by trivial]
            cases readN k bs b' with
            | none => rfl
            | some r => simp
      · have c' : ¬ (xs.length : Int) < mm - 1 := fun z => c (decide_eq_true z)
        rw [show (mm - 1).toNat - xs.length = 0 by trivial] at hrr
        have hrr2 : readRow bs i = some (xs, bb) := by rw [hrr]; show some (xs ++ [], bb) = _; rw [List.append_nil]
        rw [hrr2] at h
        refine ⟨_, rfl, _, rfl, (by show 2 ≤ sizeLine; decide), fun tt htt => ?_⟩
        exact h nl tt _ (hH1.trans (same_new htt _)) (s1.free hnl) (hH1.free htt) (ne_of_none hnl' htt) (by rw [upd_ne (ne_of_none hnl' htt)]; exact hnl') upd_same
end
end K63
set_option Elab.async false
set_option linter.all false
set_option maxRecDepth 100000
set_option maxHeartbeats 4000000
namespace K63
open PySem L2 PySem.W PH
section
variable {P : Program} {w : World} {K : PySem.W.Frag} {mg : Str → Option Value} {base : Heap}
theorem sc_whole : FnScope ["thing"] ["thing"] (defScope s_whole) := ⟨rfl, rfl, rfl, by decide +kernel, rfl, by decide +kernel, by decide +kernel⟩
theorem ok_whole {f : Addr} {fd : FuncData} (F : Fun K "is_whole" "is_whole" s_whole f fd) (B : Bls mg) : FnOk P w K mg base (CXW P w) 1 f fd ["thing"] (spWhole) := by
  refine F.okN sc_whole (fun vs H Q E h => ?_) (fun cdv A outer s H vs Q E hr h => ?_)
  · obtain ⟨n, rfl, _⟩ := h
    rfl
  · obtain ⟨n, rfl, q⟩ := h
    refine ⟨_, (pss_one (ps_ret (pe_and (pe_callB (r := rIsi K) call_isi rfl B.isi boot_isi (pa_cons (pv 0) (pa_cons (pe_bltn (v := .ty "int") rfl B.int boot_int' rfl) pa_nil))) (pe_one (pe_not (pe_callB (r := rIsi K) call_isi rfl B.isi boot_isi (pa_cons (pv 0) (pa_cons (pe_bltn (v := .ty "bool") rfl B.bool boot_bool' rfl) pa_nil)))))))), ?_⟩
    refine ⟨_, rfl, _, _, _, _, true, rfl, .of (.int n), rfl, kit_refl _ _, _, rfl, ?_⟩
    refine iteT ?_
    refine ⟨_, rfl, _, _, _, _, false, rfl, .of (.int n), rfl, kit_ib _, _, rfl, ?_⟩
    exact q
theorem sc_unp : FnScope ["pairs", "numbers", "one", "two"] ["pairs"] (defScope s_unp) := ⟨rfl, rfl, rfl, by decide +kernel, rfl, by decide +kernel, by decide +kernel⟩
theorem ok_unp {f : Addr} {fd : FuncData} (F : Fun K "unpaired" "unpaired" s_unp f fd) (B : Bls mg) : FnOk P w K mg base (CXW P w) 1 f fd ["pairs"] (spUnp) := by
  refine F.okN sc_unp (fun vs H Q E h => ?_) (fun cdv A outer s H vs Q E hr h => ?_)
  · obtain ⟨p, zs, rfl, _⟩ := h
    rfl
  · obtain ⟨p, zs, rfl, prZ, hzl, hQ⟩ := h
    refine ⟨_, (pss_cons (ps_set (i := 1) sc_unp.nd rfl (Or.inl rfl) (pe_lst pa_nil))
      (pss_cons (ps_for PassesOwn.never rfl (pi_list (pv 0)) (pg_tup rfl (pgs_cons (pg_name (i := 2) sc_unp.nd rfl (Or.inl rfl)) (pgs_cons (pg_name (i := 3) sc_unp.nd rfl (Or.inl rfl)) pgs_nil)))
        (pss_one (ps_expr (pe_bm PySem.F.plainAttrs_list PySem.F.slot_list_extend PySem.F.type_list_extend mt_extend (pv 1) (pa_cons (pe_lst (pa_cons (pv 2) (pa_cons (pv 3) pa_nil))) pa_nil)))))
      (pss_one (ps_ret (pv 1))))), ?_⟩
    generalize hcs : zs.map (·.2) = cs at hQ
    have hcl : cs.length = zs.length := by rw [← hcs, List.length_map]
    refine ⟨(by show 0 ≤ sizeLine; decide), fun L hL => ?_⟩
    have s0 := same_new hL (.lst [])
    refine ⟨_, rfl, p, rfl, ⟨_, SqL.of (s0 _ _ prZ.at_)⟩, for_list (K := K) (a := p) (xs := zs.map fun z => V.ref z.1) (fun i σ H2 => ∃ (v2 v3 : Option V), σ = [some (.ref p), some (.ref L), v2, v3] ∧ H2 L = some (lsI (unp (cs.take i))) ∧ Same H H2)
      ⟨none, none, rfl, upd_same, s0⟩ (fun i σ H2 _ ⟨_, _, _, _, e⟩ => SqL.of (e _ _ prZ.at_)) ?_ ?_⟩
    · rintro i y σ H2 hi ⟨v2, v3, rfl, hL2, sm⟩
      have hlt := (List.getElem?_eq_some_iff.mp hi).1
      rw [List.length_map] at hlt
      obtain ⟨z, hz, rfl⟩ := ref_at hi
      have hck : cs[i]? = some z.2 := by rw [← hcs, List.getElem?_map, hz]; rfl
      refine ⟨z.1, _, rfl, SqT.of (sm _ _ (prZ.each z (List.mem_of_getElem? hz))), rfl, _, _, rfl, _, _, rfl, rfl, ?_⟩
      refine ⟨_, rfl, .inl ⟨rfl, _, SqL.of hL2⟩, _, rfl, _, rfl, (by show 2 ≤ sizeLine; decide), fun l1 hl1 => ?_⟩
      have s1 := same_new hl1 (.lst [V.int z.2.1, V.int z.2.2])
      refine ⟨L, l1, _, _, rfl, rfl, s1 _ _ hL2, upd_same, fits (by rw [List.length_map, unp_len, List.length_take]; show _ + 2 ≤ _; trivial), ?_⟩
      refine ⟨_, _, rfl, ?_, same_upd (sm.trans s1) _ hL⟩
      rw [upd_same, take_at hck, unp_snoc]
      unfold lsI
      rw [List.map_append]; rfl
    · rintro σ H2 ⟨v2, v3, rfl, hL2, sm⟩
      rw [List.length_map, ← hcl, List.take_length] at hL2
      refine ⟨_, rfl, ?_⟩
      exact hQ L H2 sm hL hL2
end
end K63
set_option Elab.async false
set_option linter.all false
set_option maxRecDepth 100000
set_option maxHeartbeats 4000000
namespace K63
open PySem L2 PySem.W PH
section
variable {P : Program} {w : World} {K : PySem.W.Frag} {mg : Str → Option Value} {base : Heap}
theorem sc_prd : FnScope ["numbers"] ["numbers"] (defScope s_prd) := ⟨rfl, rfl, rfl, by decide +kernel, rfl, by decide +kernel, by decide +kernel⟩
theorem ok_prd {f c_Broken : Addr} {fd : FuncData} (F : Fun K "paired" "paired" s_prd f fd) (B : Bls mg) (X_Broken : Ex K mg "Broken" c_Broken) (m_Broken : mg "Broken" = some (.ref c_Broken)) : FnOk P w K mg base (CXW P w) 1 f fd ["numbers"] (spPrd c_Broken) := by
  refine F.okX sc_prd (fun vs H Q E h => ?_) (fun cdv A outer s H vs Q E hr h => ?_)
  · obtain ⟨a, ns, rfl, _⟩ := h
    rfl
  · obtain ⟨a, ns, rfl, ha, hl, hE, hQ⟩ := h
    refine ⟨_, (pss_cons (ps_if (pt_cmpR op_eq (pe_op op_mod (pe_callB call_len_seq rfl B.len PySem.boot_len (pa_cons (pv 0) pa_nil)) pe_int) pe_int (nomark _))
        (pss_one (ps_raise PySem.F.excBase_ValueError X_Broken.ex X_Broken.mg rfl))
        pss_nil)
      (pss_one (ps_ret (pe_comp (N := ["at", "numbers"]) (js := [none, some 0]) (g := (gName 0)) (tc := tTrue) (te := (tTup (tCons (tOp (rIxL K) (tVar 1) (tVar 0)) (tCons (tOp (rIxL K) (tVar 1) (tOp (rI0 fun i j => .int (i + j)) (tVar 0) (tC (.int 1)))) tNil)))) rfl (comp_scope (osc := defScope s_prd) (XN := ["numbers"]) rfl rfl rfl (by decide +kernel)) (pi_range3 rfl B.range (pa_cons pe_int (pa_cons (pe_callB call_len_seq rfl B.len PySem.boot_len (pa_cons (pv 0) pa_nil)) (pa_cons pe_int pa_nil)))) (fun _ _ _ _ => pg_name (i := 0) (show (["at", "numbers"] : List Str).Nodup by decide +kernel) rfl (Or.inl rfl)) (fun _ _ _ _ => pif_nil) (fun _ _ _ _ => (pe_tup (pa_cons (pe_ix ix_list (pv 1) (pv 0) (fun _ _ => rfl)) (pa_cons (pe_ix ix_list (pv 1) (pe_op op_add (pv 0) pe_int) (fun _ _ => rfl)) pa_nil)))))))), ?_⟩
    refine ⟨_, rfl, a, _, rfl, .inl (SqL.of ha), _, _, rfl, rfl, (by show (0 : Int) < 2; decide), rfl, _, rfl, ?_⟩
    rw [List.length_map]
    rcases Nat.mod_two_eq_zero_or_one ns.length with h2 | h2
    rotate_left
    · rw [decide_eq_true (show V.int (((ns.length : Nat) : Int) % 2) = V.int 1 from congrArg V.int (by trivial))]
      refine iteT ?_
      exact hE h2
    rw [decide_eq_false (show ¬ V.int (((ns.length : Nat) : Int) % 2) = V.int 1 from fun z => by have := V.int.inj z; trivial)]
    refine iteF ?_
    refine ⟨_, rfl, a, _, rfl, .inl (SqL.of ha), 0, ((ns.length : Nat) : Int), 2, by rw [List.length_map], ⟨by decide, by decide⟩, small_step (by decide) (by decide) (by trivial) (by trivial) (by decide) (by decide), fun D hD => ?_⟩
    rw [rsz_two h2]
    refine comp_rngSQ (fun i σ' H' => ∃ (v : Option V) (zs : List (Addr × Int × Int)), σ' = [v, some (.ref a)] ∧ Prs H' D zs ∧ zs.map (·.2) = (prd ns).take i ∧ (∀ z ∈ zs, z.1 ≠ D) ∧ Same H H')
      ⟨none, [], rfl, ⟨upd_same, (fun _ z => by cases z)⟩, by rw [List.take_zero]; rfl, (fun _ z => by cases z), same_new hD _⟩ ?_ ?_
    · rintro i σ' H' hi ⟨v, zs, rfl, prs, hzs, hzD, sm⟩
      rw [show (0 : Int) + (i : Int) * 2 = ((2 * i : Nat) : Int) by trivial]
      obtain ⟨x, hx⟩ : ∃ x, ns[2 * i]? = some x := ⟨_, List.getElem?_eq_getElem (by trivial)⟩
      obtain ⟨y, hy⟩ : ∃ x, ns[2 * i + 1]? = some x := ⟨_, List.getElem?_eq_getElem (by trivial)⟩
      have ha' := sm _ _ ha
      have hzl : zs.length = i := by
        have := congrArg List.length hzs
        rw [List.length_map, List.length_take, prd_len] at this
        trivial
      have hpk : (prd ns)[i]? = some (x, y) := by
        unfold prd
        rw [List.getElem?_map, List.getElem?_range (by trivial), Option.map_some, getD_at hx, getD_at hy]
      refine nameT ?_
      refine ⟨_, rfl, _, rfl, a, _, _, _, rfl, rfl, SqL.of ha', at_ints hx, _, rfl, _, rfl, _, _, rfl, rfl, a, _, ((2 * i + 1 : Nat) : Int), _, rfl, rfl, SqL.of ha', at_ints hy, (by show 2 ≤ sizeLine; decide), fun t htf => ?_⟩
      have ntD : t ≠ D := (ne_of_none prs.at_ htf).symm
      refine ⟨D, _, _, rfl, rfl, (same_new htf _) _ _ prs.at_, fits_lt (by rw [List.length_map]; trivial), ?_⟩
      have st := same_new htf (.tup [.int x, .int y])
      refine CW.next hi ⟨_, zs ++ [(t, x, y)], rfl, ⟨?_, fun z hz => ?_⟩, ?_, fun z hz => ?_, ?_⟩
      · rw [upd_same, List.map_append]; rfl
      · rcases List.mem_append.mp hz with hz | hz
        · rw [upd_ne (hzD z hz)]; exact st _ _ (prs.each z hz)
        · have : z = (t, x, y) := by simpa using hz
          subst this
          rw [upd_ne ntD, upd_same]
      · rw [List.map_append, hzs, take_at hpk]; rfl
      · rcases List.mem_append.mp hz with hz | hz
        · exact hzD z hz
        · have : z = (t, x, y) := by simpa using hz
          subst this
          exact ntD
      · exact same_upd (sm.trans st) _ hD
    rintro σ' H2 ⟨v, zs, rfl, prs, hzs, hzD, sm⟩
    rw [List.take_of_length_le (by rw [prd_len]; trivial)] at hzs
    exact hQ h2 D zs H2 sm hD prs hzs
end
end K63
set_option Elab.async false
set_option linter.all false
set_option maxRecDepth 100000
set_option maxHeartbeats 4000000
namespace K63
open PySem L2 PySem.W PH
section
variable {P : Program} {w : World} {K : PySem.W.Frag} {mg : Str → Option Value} {base : Heap}
theorem sc_size : FnScope ["thing"] ["thing"] (defScope s_size) := ⟨rfl, rfl, rfl, by decide +kernel, rfl, by decide +kernel, by decide +kernel⟩
theorem ok_size {f f_whole : Addr} {fd d_whole : FuncData} (F : Fun K "is_size" "is_size" s_size f fd) (B : Bls mg) (m_GS : GSg mg) 
    (G_whole : FnOk P w K mg base (CXW P w) 1 f_whole d_whole ["thing"] (spWhole)) (b_whole : Binds K d_whole ["thing"] []) (k_whole : keepIn K (.ref f_whole) = true) (m_whole : mg "is_whole" = some (.ref f_whole)) : FnOk P w K mg base (CXW P w) 2 f fd ["thing"] (spSizeA) := by
  refine F.okN sc_size (fun vs H Q E h => ?_) (fun cdv A outer s H vs Q E hr h => ?_)
  · obtain ⟨n, rfl, _⟩ := h
    rfl
  · obtain ⟨n, rfl, q⟩ := h
    obtain ⟨u_GS, mv_GS, rv_GS⟩ := m_GS
    refine ⟨_, (pss_one (ps_ret (pe_and (pe_call G_whole hr rfl m_whole k_whole b_whole .nil passN (pa_cons (pv 0) pa_nil)) (pe_one (pe_chain op_le op_le pe_int (pv 0) (pe_glob (v := .int 64) rfl mv_GS rv_GS)))))), ?_⟩
    refine ⟨_, rfl, n, rfl, _, rfl, ?_⟩
    refine iteT ?_
    refine ⟨_, rfl, _, _, rfl, rfl, _, rfl, ?_⟩
    by_cases h0 : 1 ≤ n
    rotate_left
    · rw [decide_eq_false h0] at q ⊢
      exact iteF q
    rw [decide_eq_true h0] at q ⊢
    refine iteT ?_
    refine ⟨_, _, rfl, rfl, ?_⟩
    exact q
theorem sc_total : FnScope ["thing"] ["thing"] (defScope s_total) := ⟨rfl, rfl, rfl, by decide +kernel, rfl, by decide +kernel, by decide +kernel⟩
theorem ok_total {f f_whole : Addr} {fd d_whole : FuncData} (F : Fun K "is_total" "is_total" s_total f fd) (B : Bls mg) (m_MS : MSg mg) 
    (G_whole : FnOk P w K mg base (CXW P w) 1 f_whole d_whole ["thing"] (spWhole)) (b_whole : Binds K d_whole ["thing"] []) (k_whole : keepIn K (.ref f_whole) = true) (m_whole : mg "is_whole" = some (.ref f_whole)) : FnOk P w K mg base (CXW P w) 2 f fd ["thing"] (spTotalA) := by
  refine F.okN sc_total (fun vs H Q E h => ?_) (fun cdv A outer s H vs Q E hr h => ?_)
  · obtain ⟨n, rfl, _⟩ := h
    rfl
  · obtain ⟨n, rfl, q⟩ := h
    obtain ⟨u_MS, mv_MS, rv_MS⟩ := m_MS
    refine ⟨_, (pss_one (ps_ret (pe_and (pe_call G_whole hr rfl m_whole k_whole b_whole .nil passN (pa_cons (pv 0) pa_nil)) (pe_one (pe_chain op_le op_le pe_int (pv 0) (pe_glob (v := .int 400) rfl mv_MS rv_MS)))))), ?_⟩
    refine ⟨_, rfl, n, rfl, _, rfl, ?_⟩
    refine iteT ?_
    refine ⟨_, rfl, _, _, rfl, rfl, _, rfl, ?_⟩
    by_cases h0 : 0 ≤ n
    rotate_left
    · rw [decide_eq_false h0] at q ⊢
      exact iteF q
    rw [decide_eq_true h0] at q ⊢
    refine iteT ?_
    refine ⟨_, _, rfl, rfl, ?_⟩
    exact q
theorem sc_isbk : FnScope ["thing"] ["thing"] (defScope s_isbk) := ⟨rfl, rfl, rfl, by decide +kernel, rfl, by decide +kernel, by decide +kernel⟩
theorem ok_isbk {f f_whole : Addr} {fd d_whole : FuncData} (F : Fun K "is_block" "is_block" s_isbk f fd) (B : Bls mg) 
    (G_whole : FnOk P w K mg base (CXW P w) 1 f_whole d_whole ["thing"] (spWhole)) (b_whole : Binds K d_whole ["thing"] []) (k_whole : keepIn K (.ref f_whole) = true) (m_whole : mg "is_whole" = some (.ref f_whole)) : FnOk P w K mg base (CXW P w) 2 f fd ["thing"] (spIsBk) := by
  refine F.okN sc_isbk (fun vs H Q E h => ?_) (fun cdv A outer s H vs Q E hr h => ?_)
  · obtain ⟨b, l, w, bits, rfl, _⟩ := h
    rfl
  · obtain ⟨b, l, w, bits, rfl, hb, hl, h0, hQ⟩ := h
    refine ⟨_, (pss_cons (ps_if (PW.pt (pw_or (pt_not (pt_val (pe_callB (r := rIsi K) call_isi rfl B.isi boot_isi (pa_cons (pv 0) (pa_cons (pe_bltn (v := .ty "tuple") rfl B.tuple boot_tuple' rfl) pa_nil))))) (pw_or1 (pt_cmpR op_ne (pe_callB call_len_seq rfl B.len PySem.boot_len (pa_cons (pv 0) pa_nil)) pe_int (nomark _)))))
        (pss_one (ps_ret pe_bl))
        pss_nil)
      (pss_one (ps_ret (pe_and (pe_call G_whole hr rfl m_whole k_whole b_whole .nil passN (pa_cons (pe_ix ix_tup (pv 0) pe_int (fun _ _ => rfl)) pa_nil)) (pe_and (pe_cmpR op_ge (pe_ix ix_tup (pv 0) pe_int (fun _ _ => rfl)) pe_int (nomark _)) (pe_one (pe_callB (r := rIsi K) call_isi rfl B.isi boot_isi (pa_cons (pe_ix ix_tup (pv 0) pe_int (fun _ _ => rfl)) (pa_cons (pe_bltn (v := .ty "list") rfl B.list boot_list' rfl) pa_nil))))))))), ?_⟩
    refine ⟨_, rfl, _, _, _, _, true, rfl, .of (.tup hb), rfl, kit_refl _ _, _, rfl, ?_⟩
    refine iteF ?_
    refine ⟨_, rfl, b, _, rfl, .inr (SqT.of hb), rfl, _, rfl, ?_⟩
    refine iteNS rfl ?_
    refine ⟨_, rfl, b, _, _, _, rfl, rfl, SqT.of hb, rfl, w, rfl, _, rfl, ?_⟩
    refine iteT ?_
    refine ⟨_, rfl, b, _, _, _, rfl, rfl, SqT.of hb, rfl, _, _, rfl, rfl, _, rfl, ?_⟩
    rw [decide_eq_true h0]
    refine iteT ?_
    refine ⟨_, rfl, b, _, _, _, rfl, rfl, SqT.of hb, rfl, _, _, _, _, true, rfl, .of (.lst hl), rfl, kit_refl _ _, ?_⟩
    exact hQ
end
end K63
set_option Elab.async false
set_option linter.all false
set_option maxRecDepth 100000
set_option maxHeartbeats 4000000
namespace K63
open PySem L2 PySem.W PH
section
variable {P : Program} {w : World} {K : PySem.W.Frag} {mg : Str → Option Value} {base : Heap}
theorem sc_arebk : FnScope ["things", "many"] ["things", "many"] (defScope s_arebk) := ⟨rfl, rfl, rfl, by decide +kernel, rfl, by decide +kernel, by decide +kernel⟩
theorem ok_arebk {f f_isbk : Addr} {fd d_isbk : FuncData} (F : Fun K "are_blocks" "are_blocks" s_arebk f fd) (B : Bls mg) 
    (G_isbk : FnOk P w K mg base (CXW P w) 2 f_isbk d_isbk ["thing"] (spIsBk)) (b_isbk : Binds K d_isbk ["thing"] []) (k_isbk : keepIn K (.ref f_isbk) = true) (m_isbk : mg "is_block" = some (.ref f_isbk)) : FnOk P w K mg base (CXW P w) 3 f fd ["things", "many"] (spAreBkA) := by
  refine F.okN sc_arebk (fun vs H Q E h => ?_) (fun cdv A outer s H vs Q E hr h => ?_)
  · obtain ⟨p, bs, m, rfl, _⟩ := h
    rfl
  · obtain ⟨p, bs, m, rfl, bk, hl, h0, hQ⟩ := h
    refine ⟨_, (pss_one (ps_ret (pe_and (pe_callB (r := rIsi K) call_isi rfl B.isi boot_isi (pa_cons (pv 0) (pa_cons (pe_bltn (v := .ty "list") rfl B.list boot_list' rfl) pa_nil))) (pe_and (pe_cmpR op_eq (pe_callB call_len_seq rfl B.len PySem.boot_len (pa_cons (pv 0) pa_nil)) (pv 1) (nomark _)) (pe_one (pe_callB (call_allL rfl) rfl B.all boot_all' (pa_cons (pe_comp (N := ["thing"]) (js := [none]) (g := (gName 0)) (tc := tTrue) (te := (tCall (spIsBk) [] E0 (tCons (tVar 0) tNil))) rfl (comp_scope (osc := defScope s_arebk) (XN := ["things", "many"]) rfl rfl rfl (by decide +kernel)) (pi_list (pv 0)) (fun _ _ _ _ => pg_name (i := 0) (show (["thing"] : List Str).Nodup by decide +kernel) rfl (Or.inl rfl)) (fun _ _ _ _ => pif_nil) (fun _ _ _ _ => (pe_call G_isbk hr rfl m_isbk k_isbk b_isbk .nil passN (pa_cons (pv 0) pa_nil)))) pa_nil))))))), ?_⟩
    refine ⟨_, rfl, _, _, _, _, true, rfl, .of (.lst bk.at_), rfl, kit_refl _ _, _, rfl, ?_⟩
    refine iteT ?_
    refine ⟨_, rfl, p, _, rfl, .inl (SqL.of bk.at_), _, rfl, rfl, _, rfl, ?_⟩
    rw [List.length_map]
    refine ite2 (fun c => ?_) (fun c => ?_)
    rotate_left
    · have c' : ¬ ((bs.length : Nat) : Int) = m := fun z => c (decide_eq_true (congrArg V.int z))
      have := hQ H (Same.refl _)
      rw [decide_eq_false c'] at this
      exact this
    have c' : ((bs.length : Nat) : Int) = m := V.int.inj (of_decide_eq_true c)
    rw [decide_eq_true c'] at hQ
    refine ⟨_, rfl, p, rfl, ⟨_, SqL.of bk.at_⟩, fun D hD => ?_⟩
    refine comp_lstQ (K := K) (a := p) (xs := bs.map fun w => V.ref w.1) (fun i σ' H' => ∃ (v0 : Option V), σ' = [v0] ∧ H' D = some (.lst ((List.replicate i true).map V.bl)) ∧ Same H H')
      ⟨none, rfl, upd_same, same_new hD _⟩ (fun i σ' H' _ ⟨_, _, _, e⟩ => SqL.of (e _ _ bk.at_)) ?_ ?_
    · rintro i y σ' H' hi ⟨v0, rfl, hD', sm⟩
      have hlt : i < (bs.map fun w => V.ref w.1).length := (List.getElem?_eq_some_iff.mp hi).1
      have hil : i < bs.length := by rw [List.length_map] at hlt; exact hlt
      obtain ⟨z, hz⟩ : ∃ x, bs[i]? = some x := ⟨_, List.getElem?_eq_getElem hil⟩
      rw [List.getElem?_map, hz] at hi
      have ey : V.ref z.1 = y := Option.some.inj hi
      subst ey
      have hm := List.mem_of_getElem? hz
      have he := bk.each z hm
      refine nameT ?_
      refine ⟨_, rfl, z.1, z.2.2.1, z.2.1, z.2.2.2, rfl, sm _ _ he.1, sm _ _ he.2, h0 z hm, ?_⟩
      refine ⟨D, _, _, rfl, rfl, hD', fits_lt (by rw [List.length_map, List.length_replicate]; trivial), ?_⟩
      refine CW.next hlt ⟨_, rfl, ?_, same_upd sm _ hD⟩
      rw [upd_same, List.replicate_succ', List.map_append]; rfl
    rintro σ' H2 ⟨v0, rfl, hD2, sm2⟩
    refine ⟨D, _, rfl, SqL.of hD2, ?_⟩
    have hall : ∀ n : Nat, (List.replicate n true).all id = true := fun n => List.all_eq_true.mpr fun b hb => (List.mem_replicate.mp hb).2
    rw [hall]
    exact hQ H2 sm2
theorem sc_need : FnScope ["size", "total"] ["size", "total"] (defScope s_need) := ⟨rfl, rfl, rfl, by decide +kernel, rfl, by decide +kernel, by decide +kernel⟩
theorem ok_need {f : Addr} {fd : FuncData} (F : Fun K "blocks_needed" "blocks_needed" s_need f fd) (B : Bls mg) : FnOk P w K mg base (CXW P w) 1 f fd ["size", "total"] (spNeed) := by
  refine F.okN sc_need (fun vs H Q E h => ?_) (fun cdv A outer s H vs Q E hr h => ?_)
  · obtain ⟨s, t, rfl, _⟩ := h
    rfl
  · obtain ⟨s, t, rfl, h1, h2, hQ⟩ := h
    refine ⟨_, (pss_one (ps_ret (pe_op op_fdiv (pe_op op_sub (pe_op op_add (pv 1) (pv 0)) pe_int) (pv 0)))), ?_⟩
    refine ⟨_, rfl, _, rfl, _, _, rfl, rfl, _, _, rfl, rfl, _, rfl, _, _, rfl, rfl, ⟨by trivial, by trivial⟩, ?_⟩
    exact hQ
end
end K63
set_option Elab.async false
set_option linter.all false
set_option maxRecDepth 100000
set_option maxHeartbeats 4000000
namespace K63
open PySem L2 PySem.W PH
section
variable {P : Program} {w : World} {K : PySem.W.Frag} {mg : Str → Option Value} {base : Heap}
theorem sc_iscon : FnScope ["thing"] ["thing"] (defScope s_iscon) := ⟨rfl, rfl, rfl, by decide +kernel, rfl, by decide +kernel, by decide +kernel⟩
theorem ok_iscon {f f_size f_total f_arebk f_need : Addr} {fd d_size d_total d_arebk d_need : FuncData} (F : Fun K "is_container" "is_container" s_iscon f fd) (B : Bls mg) 
    (G_size : FnOk P w K mg base (CXW P w) 2 f_size d_size ["thing"] (spSizeA)) (b_size : Binds K d_size ["thing"] []) (k_size : keepIn K (.ref f_size) = true) (m_size : mg "is_size" = some (.ref f_size)) 
    (G_total : FnOk P w K mg base (CXW P w) 2 f_total d_total ["thing"] (spTotalA)) (b_total : Binds K d_total ["thing"] []) (k_total : keepIn K (.ref f_total) = true) (m_total : mg "is_total" = some (.ref f_total)) 
    (G_arebk : FnOk P w K mg base (CXW P w) 3 f_arebk d_arebk ["things", "many"] (spAreBkA)) (b_arebk : Binds K d_arebk ["things", "many"] []) (k_arebk : keepIn K (.ref f_arebk) = true) (m_arebk : mg "are_blocks" = some (.ref f_arebk)) 
    (G_need : FnOk P w K mg base (CXW P w) 1 f_need d_need ["size", "total"] (spNeed)) (b_need : Binds K d_need ["size", "total"] []) (k_need : keepIn K (.ref f_need) = true) (m_need : mg "blocks_needed" = some (.ref f_need)) : FnOk P w K mg base (CXW P w) 4 f fd ["thing"] (spIsConA) := by
  refine F.okN sc_iscon (fun vs H Q E h => ?_) (fun cdv A outer s H vs Q E hr h => ?_)
  · obtain ⟨c, p, sz, tot, bs, rfl, _⟩ := h
    rfl
  · obtain ⟨c, p, sz, tot, bs, rfl, hc, bk, hl, h0, hQ⟩ := h
    refine ⟨_, (pss_cons (ps_if (PW.pt (pw_or (pt_not (pt_val (pe_callB (r := rIsi K) call_isi rfl B.isi boot_isi (pa_cons (pv 0) (pa_cons (pe_bltn (v := .ty "tuple") rfl B.tuple boot_tuple' rfl) pa_nil))))) (pw_or1 (pt_cmpR op_ne (pe_callB call_len_seq rfl B.len PySem.boot_len (pa_cons (pv 0) pa_nil)) pe_int (nomark _)))))
        (pss_one (ps_ret pe_bl))
        pss_nil)
      (pss_cons (ps_if (PW.pt (pw_or (pt_not (pt_val (pe_call G_size (hr.mono (show 2 ≤ 3 by decide)) rfl m_size k_size b_size .nil passN (pa_cons (pe_ix ix_tup (pv 0) pe_int (fun _ _ => rfl)) pa_nil)))) (pw_or1 (pt_not (pt_val (pe_call G_total (hr.mono (show 2 ≤ 3 by decide)) rfl m_total k_total b_total .nil passN (pa_cons (pe_ix ix_tup (pv 0) pe_int (fun _ _ => rfl)) pa_nil)))))))
        (pss_one (ps_ret pe_bl))
        pss_nil)
      (pss_one (ps_ret (pe_call G_arebk hr rfl m_arebk k_arebk b_arebk .nil passN (pa_cons (pe_ix ix_tup (pv 0) pe_int (fun _ _ => rfl)) (pa_cons (pe_call G_need (hr.mono (show 1 ≤ 3 by decide)) rfl m_need k_need b_need .nil passN (pa_cons (pe_ix ix_tup (pv 0) pe_int (fun _ _ => rfl)) (pa_cons (pe_ix ix_tup (pv 0) pe_int (fun _ _ => rfl)) pa_nil))) pa_nil))))))), ?_⟩
    refine ⟨_, rfl, _, _, _, _, true, rfl, .of (.tup hc), rfl, kit_refl _ _, _, rfl, ?_⟩
    refine iteF ?_
    refine ⟨_, rfl, c, _, rfl, .inr (SqT.of hc), rfl, _, rfl, ?_⟩
    refine iteNS rfl ?_
    refine ⟨_, rfl, c, _, _, _, rfl, rfl, SqT.of hc, rfl, sz, rfl, _, rfl, ?_⟩
    have hq := hQ H (Same.refl _)
    unfold isCn at hQ hq
    cases h1 : (decide (1 ≤ sz) && decide (sz ≤ 64)) with
    | false =>
      refine iteT (iteT ?_)
      rw [h1, Bool.false_and, Bool.false_and] at hq
      exact hq
    | true =>
      refine iteF ?_
      refine ⟨_, rfl, c, _, _, _, rfl, rfl, SqT.of hc, rfl, tot, rfl, _, rfl, ?_⟩
      cases h2 : (decide (0 ≤ tot) && decide (tot ≤ 400)) with
      | false =>
        refine iteT ?_
        rw [h1, h2, Bool.true_and, Bool.false_and] at hq
        exact hq
      | true =>
        refine iteF ?_
        have h1' := h1
        rw [Bool.and_eq_true, decide_eq_true_eq, decide_eq_true_eq] at h1'
        refine ⟨_, rfl, c, _, _, _, rfl, rfl, SqT.of hc, rfl, _, rfl, c, _, _, _, rfl, rfl, SqT.of hc, rfl, _, rfl, c, _, _, _, rfl, rfl, SqT.of hc, rfl, sz, tot, rfl, h1'.1, h1'.2, p, bs, _, rfl, bk, hl, h0, fun H' s' => ?_⟩
        have := hQ H' s'
        rw [h1, h2, Bool.true_and, Bool.true_and] at this
        exact this
theorem sc_nocon : FnScope ["thing"] ["thing"] (defScope s_nocon) := ⟨rfl, rfl, rfl, by decide +kernel, rfl, by decide +kernel, by decide +kernel⟩
theorem ok_nocon {f c_Broken f_iscon : Addr} {fd d_iscon : FuncData} (F : Fun K "refuse_no_container" "refuse_no_container" s_nocon f fd) (B : Bls mg) (X_Broken : Ex K mg "Broken" c_Broken) (m_Broken : mg "Broken" = some (.ref c_Broken)) 
    (G_iscon : FnOk P w K mg base (CXW P w) 4 f_iscon d_iscon ["thing"] (spIsConA)) (b_iscon : Binds K d_iscon ["thing"] []) (k_iscon : keepIn K (.ref f_iscon) = true) (m_iscon : mg "is_container" = some (.ref f_iscon)) : FnOk P w K mg base (CXW P w) 5 f fd ["thing"] (spNoConA c_Broken) := by
  refine F.okX sc_nocon (fun vs H Q E h => ?_) (fun cdv A outer s H vs Q E hr h => ?_)
  · obtain ⟨c, p, sz, tot, bs, rfl, _⟩ := h
    rfl
  · obtain ⟨c, p, sz, tot, bs, rfl, hc, bk, hl, h0, hE, hQ⟩ := h
    refine ⟨_, (pss_one (ps_if (pt_not (pt_val (pe_call G_iscon hr rfl m_iscon k_iscon b_iscon .nil passW (pa_cons (pv 0) pa_nil))))
        (pss_one (ps_raise PySem.F.excBase_ValueError X_Broken.ex X_Broken.mg rfl))
        pss_nil)), ?_⟩
    refine ⟨_, rfl, c, p, sz, tot, bs, rfl, hc, bk, hl, h0, fun H' s' => ⟨_, rfl, ?_⟩⟩
    cases hb : isCn sz tot bs.length with
    | false =>
      refine iteT ?_
      exact hE hb H' s'
    | true =>
      refine iteF ?_
      exact hQ hb H' s'
end
end K63
set_option Elab.async false
set_option linter.all false
set_option maxRecDepth 100000
set_option maxHeartbeats 4000000
namespace K63
open PySem L2 PySem.W PH
section
variable {P : Program} {w : World} {K : PySem.W.Frag} {mg : Str → Option Value} {base : Heap}
theorem sc_cbits : FnScope ["container", "heads", "told", "way", "bits"] ["container"] (defScope s_cbits) := ⟨rfl, rfl, rfl, by decide +kernel, rfl, by decide +kernel, by decide +kernel⟩
theorem ok_cbits {f c_Broken c_NoNumber f_row f_unp f_nocon : Addr} {fd d_row d_unp d_nocon : FuncData} (F : Fun K "container_bits" "container_bits" s_cbits f fd) (B : Bls mg) 
    (G_row : FnOk P w K mg base (CXW P w) 3 f_row d_row ["numbers"] (spRowW K c_NoNumber)) (b_row : Binds K d_row ["numbers"] []) (k_row : keepIn K (.ref f_row) = true) (m_row : mg "row_bits" = some (.ref f_row)) 
    (G_unp : FnOk P w K mg base (CXW P w) 1 f_unp d_unp ["pairs"] (spUnp)) (b_unp : Binds K d_unp ["pairs"] []) (k_unp : keepIn K (.ref f_unp) = true) (m_unp : mg "unpaired" = some (.ref f_unp)) 
    (G_nocon : FnOk P w K mg base (CXW P w) 5 f_nocon d_nocon ["thing"] (spNoConA c_Broken)) (b_nocon : Binds K d_nocon ["thing"] []) (k_nocon : keepIn K (.ref f_nocon) = true) (m_nocon : mg "refuse_no_container" = some (.ref f_nocon)) : FnOk P w K mg base (CXW P w) 6 f fd ["container"] (spCBits) := by
  refine F.okX sc_cbits (fun vs H Q E h => ?_) (fun cdv A outer s H vs Q E hr h => ?_)
  · obtain ⟨c, p, sz, tot, bs, rfl, _⟩ := h
    rfl
  · obtain ⟨c, p, sz, tot, bs, rfl, cn, hQ⟩ := h
    refine ⟨_, (pss_cons (ps_expr (pe_call G_nocon hr rfl m_nocon k_nocon b_nocon .nil passW (pa_cons (pv 0) pa_nil)))
      (pss_cons (ps_setC (iy := 1) (N := ["way", "bits"]) (js := [none, none]) (g := (gTup K 2 (gCons (gName 0) (gCons (gName 1) gNil)))) (tc := tTrue) (te := (tTup (tCons (tVar 0) (tCons (tCB (rLen K) (tCons (tVar 1) tNil)) tNil)))) sc_cbits.nd rfl rfl rfl (comp_scope (osc := defScope s_cbits) (XN := ["container", "heads", "told", "way", "bits"]) rfl rfl rfl (by decide +kernel)) (pi_list (pe_ix ix_tup (pv 0) pe_int (fun _ _ => rfl))) (fun _ _ _ _ => (pg_tup rfl (pgs_cons (pg_name (i := 0) (show (["way", "bits"] : List Str).Nodup by decide +kernel) rfl (Or.inl rfl)) (pgs_cons (pg_name (i := 1) (show (["way", "bits"] : List Str).Nodup by decide +kernel) rfl (Or.inl rfl)) pgs_nil)))) (fun _ _ _ _ => pif_nil) (fun _ _ _ _ => (pe_tup (pa_cons (pv 0) (pa_cons (pe_callB call_len_seq rfl B.len PySem.boot_len (pa_cons (pv 1) pa_nil)) pa_nil)))))
      (pss_cons (ps_set (i := 2) sc_cbits.nd rfl (Or.inl rfl) (pe_call G_row (hr.mono (show 3 ≤ 5 by decide)) rfl m_row k_row b_row .nil passW (pa_cons (pe_op op_cat (pe_lst (pa_cons (pe_ix ix_tup (pv 0) pe_int (fun _ _ => rfl)) (pa_cons (pe_ix ix_tup (pv 0) pe_int (fun _ _ => rfl)) pa_nil))) (pe_call G_unp (hr.mono (show 1 ≤ 5 by decide)) rfl m_unp k_unp b_unp .nil passW (pa_cons (pv 1) pa_nil))) pa_nil)))
      (pss_cons (ps_for pown rfl (pi_list (pe_ix ix_tup (pv 0) pe_int (fun _ _ => rfl))) (pg_tup rfl (pgs_cons (pg_name (i := 3) sc_cbits.nd rfl (Or.inl rfl)) (pgs_cons (pg_name (i := 4) sc_cbits.nd rfl (Or.inl rfl)) pgs_nil)))
        (pss_one (ps_expr (pe_bm PySem.F.plainAttrs_list PySem.F.slot_list_extend PySem.F.type_list_extend mt_extend (pv 2) (pa_cons (pv 4) pa_nil)))))
      (pss_one (ps_ret (pv 2))))))), ?_⟩
    have hnn : ∀ b ∈ bs, 0 ≤ b.2.1 := fun b hb => (cn.good b hb).1
    have hfew := cn.few
    refine ⟨_, rfl, c, p, sz, tot, bs, rfl, cn.at_, cn.bk, by trivial, hnn, (fun hf => by rw [cn.ok] at hf; cases hf), fun _ H1 s1 => ?_⟩
    have cn1 := cn.same s1
    have hc1 := cn1.at_
    have bk1 := cn1.bk
    refine ⟨_, rfl, c, _, _, _, rfl, rfl, SqT.of hc1, rfl, p, rfl, ⟨_, SqL.of bk1.at_⟩, fun D hD => ?_⟩
    refine comp_lstQ (K := K) (a := p) (xs := bs.map fun w => V.ref w.1) (fun i σ' H' => ∃ (x y : Option V) (zs : List (Addr × Int × Int)), σ' = [x, y] ∧ Prs H' D zs ∧ zs.map (·.2) = hds (bkv (bs.take i)) ∧ (∀ z ∈ zs, z.1 ≠ D) ∧ Same H1 H')
      ⟨none, none, [], rfl, ⟨upd_same, (fun _ z => by cases z)⟩, by rw [List.take_zero]; rfl, (fun _ z => by cases z), same_new hD _⟩ (fun i σ' H' _ ⟨_, _, _, _, _, _, _, e⟩ => SqL.of (e _ _ bk1.at_)) ?_ ?_
    · rintro i y σ' H' hi ⟨x0, y0, zs, rfl, prs, hzs, hzD, sm⟩
      have hlt : i < (bs.map fun w => V.ref w.1).length := (List.getElem?_eq_some_iff.mp hi).1
      have hil : i < bs.length := by rw [List.length_map] at hlt; exact hlt
      obtain ⟨z, hz⟩ : ∃ x, bs[i]? = some x := ⟨_, List.getElem?_eq_getElem hil⟩
      rw [List.getElem?_map, hz] at hi
      have ey : V.ref z.1 = y := Option.some.inj hi
      subst ey
      have hm := List.mem_of_getElem? hz
      have he := bk1.each z hm
      have hzl : zs.length = i := by
        have := congrArg List.length hzs
        unfold hds bkv at this
        rw [List.length_map, List.length_map, List.length_map, List.length_take] at this
        trivial
      refine ⟨z.1, _, rfl, SqT.of (sm _ _ he.1), rfl, _, _, rfl, _, _, rfl, rfl, ?_⟩
      refine trueT ?_
      refine ⟨_, rfl, _, rfl, z.2.2.1, _, rfl, .inl (SqL.of (sm _ _ he.2)), (by show 2 ≤ sizeLine; decide), fun t htf => ?_⟩
      rw [show (z.2.2.2.map V.int).length = z.2.2.2.length from List.length_map _]
      have ntD : t ≠ D := (ne_of_none prs.at_ htf).symm
      refine ⟨D, _, _, rfl, rfl, (same_new htf _) _ _ prs.at_, fits_lt (by rw [List.length_map]; trivial), ?_⟩
      have st := same_new htf (.tup [.int z.2.1, .int ((z.2.2.2.length : Nat) : Int)])
      refine CW.next hlt ⟨_, _, zs ++ [(t, z.2.1, ((z.2.2.2.length : Nat) : Int))], rfl, ⟨?_, fun z' hz' => ?_⟩, ?_, fun z' hz' => ?_, ?_⟩
      · rw [upd_same, List.map_append]; rfl
      · rcases List.mem_append.mp hz' with hz' | hz'
        · rw [upd_ne (hzD z' hz')]; exact st _ _ (prs.each z' hz')
        · have : z' = (t, z.2.1, ((z.2.2.2.length : Nat) : Int)) := by simpa using hz'
          subst this
          rw [upd_ne ntD, upd_same]
      · unfold hds bkv at hzs ⊢
        rw [List.map_append, hzs, take_at hz, List.map_append, List.map_append]; rfl
      · rcases List.mem_append.mp hz' with hz' | hz'
        · exact hzD z' hz'
        · have : z' = (t, z.2.1, ((z.2.2.2.length : Nat) : Int)) := by simpa using hz'
          subst this
          exact ntD
      · exact same_upd (sm.trans st) _ hD
    rintro σ' H2 ⟨x0, y0, zs, rfl, prZ, hzs, hzD, s2⟩
    rw [List.length_map, List.take_length] at hzs
    have hzl : zs.length = bs.length := by
      have := congrArg List.length hzs
      unfold hds bkv at this
      rwa [List.length_map, List.length_map, List.length_map] at this
    have t2 := s1.trans s2
    have hc2 := s2 _ _ hc1
    refine ⟨_, rfl, c, _, _, _, rfl, rfl, SqT.of hc2, rfl, _, rfl, c, _, _, _, rfl, rfl, SqT.of hc2, rfl, (by show 2 ≤ sizeLine; decide), fun l1 hl1 => ?_⟩
    have u3 := same_new hl1 (.lst [V.int sz, V.int tot])
    have e3 : upd H2 l1 (.lst [V.int sz, V.int tot]) l1 = some (lsI [sz, tot]) := upd_same
    generalize upd H2 l1 (.lst [V.int sz, V.int tot]) = H3 at u3 e3 ⊢
    refine ⟨_, rfl, D, zs, rfl, prZ.same u3, by trivial, fun U H4 s4 hUn hU => ?_⟩
    rw [hzs] at hU
    have hul : (unp (hds (bkv bs))).length = 2 * bs.length := by rw [unp_len, hds_len]; unfold bkv; rw [List.length_map]
    refine ⟨l1, U, _, _, rfl, rfl, s4 _ _ e3, hU, fits (by rw [List.length_map, List.length_map, hul]; show 2 + _ ≤ _; trivial), fun X hX => ?_⟩
    rw [lsI_app]
    have u5 := same_new hX (lsI ([sz, tot] ++ unp (hds (bkv bs))))
    have e5 : upd H4 X (lsI ([sz, tot] ++ unp (hds (bkv bs)))) X = some (lsI ([sz, tot] ++ unp (hds (bkv bs)))) := upd_same
    generalize upd H4 X (lsI ([sz, tot] ++ unp (hds (bkv bs)))) = H5 at u5 e5 ⊢
    have hsm : ∀ n ∈ [sz, tot] ++ unp (hds (bkv bs)), 0 ≤ n ∧ n ≤ 1000000 := cn.small
    have hl9 : ([sz, tot] ++ unp (hds (bkv bs))).length = 2 + 2 * bs.length := by rw [List.length_append, hul]; rfl
    refine ⟨X, _, rfl, SqL.of e5, by trivial, (fun n hn h0 => blen_small (by trivial) (by have := hsm n hn; trivial)), (fun ⟨n, hn, h0⟩ => by have := hsm n hn; trivial), fun _ R H6 s6 hRn hR => ?_⟩
    have t26 := u3.trans (s4.trans (u5.trans s6))
    have t6 := t2.trans t26
    have bk6 := cn.bk.same t6
    have hRH : H R = none := (t2.trans (u3.trans (s4.trans u5))).free hRn
    have hrl : (rowb ([sz, tot] ++ unp (hds (bkv bs)))).length ≤ 10000 := by
      have h1 := flatb_mid hsm
      have h2 := blen_mid (n := (([sz, tot] ++ unp (hds (bkv bs))).length : Int) + 1) (by trivial) (by trivial)
      unfold rowb
      rw [List.length_append, endb_length]
      trivial
    have hc6 := t6 _ _ cn.at_
    refine ⟨_, rfl, c, _, _, _, rfl, rfl, SqT.of hc6, rfl, p, rfl, ⟨_, SqL.of bk6.at_⟩, for_list (K := K) (a := p) (xs := bs.map fun w => V.ref w.1) (fun i σ H' => ∃ (v3 v4 : Option V), σ = [some (.ref c), some (.ref D), some (.ref R), v3, v4] ∧ H' R = some (lsI (rowb ([sz, tot] ++ unp (hds (bkv bs))) ++ flt (bkv (bs.take i)))) ∧ (flt (bkv (bs.take i))).length ≤ 40 * i ∧ Same H H')
      ⟨none, none, rfl, by rw [List.take_zero]; show _ = some (lsI (_ ++ [])); rw [List.append_nil]; exact hR, by rw [List.take_zero]; exact Nat.le_refl 0, t6⟩ (fun i σ H' _ ⟨_, _, _, _, _, e⟩ => SqL.of (e _ _ cn.bk.at_)) ?_ ?_⟩
    · rintro i y σ H' hi ⟨v3, v4, rfl, hR', hfl, sm⟩
      have hlt : i < (bs.map fun w => V.ref w.1).length := (List.getElem?_eq_some_iff.mp hi).1
      have hil : i < bs.length := by rw [List.length_map] at hlt; exact hlt
      obtain ⟨z, hz⟩ : ∃ x, bs[i]? = some x := ⟨_, List.getElem?_eq_getElem hil⟩
      rw [List.getElem?_map, hz] at hi
      have ey : V.ref z.1 = y := Option.some.inj hi
      subst ey
      have hm := List.mem_of_getElem? hz
      have he := cn.bk.each z hm
      have hg := cn.good z hm
      refine ⟨z.1, _, rfl, SqT.of (sm _ _ he.1), rfl, _, _, rfl, _, _, rfl, rfl, ?_⟩
      refine ⟨_, rfl, .inl ⟨rfl, _, SqL.of hR'⟩, _, rfl, R, z.2.2.1, _, _, rfl, rfl, hR', sm _ _ he.2, fits (by rw [List.length_map, List.length_map, List.length_append]; trivial), ?_⟩
      have ebk : bkv (bs.take (i + 1)) = bkv (bs.take i) ++ [(z.2.1, z.2.2.2)] := by unfold bkv; rw [take_at hz, List.map_append]; rfl
      refine ⟨_, _, rfl, ?_, ?_, same_upd sm _ hRH⟩
      · rw [upd_same, lsI_app, ebk, flt_snoc, List.append_assoc]
      · rw [ebk, flt_snoc, List.length_append]; show _ + z.2.2.2.length ≤ _; trivial
    rintro σ H7 ⟨v3, v4, rfl, hR7, hfl, sm⟩
    rw [List.length_map, List.take_length] at hR7
    refine ⟨_, rfl, ?_⟩
    exact hQ R H7 sm hRH hR7
end
end K63
set_option Elab.async false
set_option linter.all false
set_option maxRecDepth 100000
set_option maxHeartbeats 4000000
namespace K63
open PySem L2 PySem.W PH
section
variable {P : Program} {w : World} {K : PySem.W.Frag} {mg : Str → Option Value} {base : Heap}
theorem sc_blks : FnScope ["bits", "at", "heads", "blocks", "behind", "way", "many"] ["bits", "at", "heads"] (defScope s_blks) := ⟨rfl, rfl, rfl, by decide +kernel, rfl, by decide +kernel, by decide +kernel⟩
theorem ok_blks {f c_Broken : Addr} {fd : FuncData} (F : Fun K "blocks_by" "blocks_by" s_blks f fd) (B : Bls mg) (X_Broken : Ex K mg "Broken" c_Broken) (m_Broken : mg "Broken" = some (.ref c_Broken)) : FnOk P w K mg base (CXW P w) 1 f fd ["bits", "at", "heads"] (spBlks c_Broken) := by
  refine F.okX sc_blks (fun vs H Q E h => ?_) (fun cdv A outer s H vs Q E hr h => ?_)
  · obtain ⟨a, p, bs, b, zs, rfl, _⟩ := h
    rfl
  · obtain ⟨a, p, bs, b, zs, rfl, ha, prZ, h0, hzl, hE, hQ⟩ := h
    refine ⟨_, (pss_cons (ps_set (i := 3) sc_blks.nd rfl (Or.inl rfl) (pe_lst pa_nil))
      (pss_cons (ps_set (i := 4) sc_blks.nd rfl (Or.inl rfl) (pv 1))
      (pss_cons (ps_for pown rfl (pi_list (pv 2)) (pg_tup rfl (pgs_cons (pg_name (i := 5) sc_blks.nd rfl (Or.inl rfl)) (pgs_cons (pg_name (i := 6) sc_blks.nd rfl (Or.inl rfl)) pgs_nil)))
        (pss_cons (ps_expr (pe_bm PySem.F.plainAttrs_list PySem.F.slot_list_append PySem.F.type_list_append mt_append (pv 3) (pa_cons (pe_tup (pa_cons (pv 5) (pa_cons (pe_slice sl_list (pv 0) (po_some (pv 4)) (po_some (pe_op op_add (pv 4) (pv 6)))) pa_nil))) pa_nil)))
        (pss_one (ps_set (i := 4) sc_blks.nd rfl (Or.inl rfl) (pe_op op_add (pv 4) (pv 6))))))
      (pss_cons (ps_if (pt_cmpR op_ne (pv 4) (pe_callB call_len_seq rfl B.len PySem.boot_len (pa_cons (pv 0) pa_nil)) (nomark _))
        (pss_one (ps_raise PySem.F.excBase_ValueError X_Broken.ex X_Broken.mg rfl))
        pss_nil)
      (pss_one (ps_ret (pv 3))))))), ?_⟩
    generalize hcs : zs.map (·.2) = cs at hE hQ
    have hcl : cs.length = zs.length := by rw [← hcs, List.length_map]
    refine ⟨(by show 0 ≤ sizeLine; decide), fun P hP => ?_⟩
    have s0 := same_new hP (.lst [])
    refine ⟨_, rfl, _, rfl, p, rfl, ⟨_, SqL.of (s0 _ _ prZ.at_)⟩, for_list (K := K) (a := p) (xs := zs.map fun z => V.ref z.1) (fun i σ H' => ∃ (v5 v6 : Option V) (ws : List BL), σ = [some (.ref a), some (.int (b : Nat)), some (.ref p), some (.ref P), some (.int ((endH b (cs.take i) : Nat) : Int)), v5, v6] ∧ Wrs H' P ws ∧ (∀ w ∈ ws, H w.2.2.1 = none ∧ w.2.2.1 ≠ P) ∧ (ws.map (·.2.2.1)).Nodup ∧ bkv ws = cutH bs b (cs.take i) ∧ Same H H')
      ⟨none, none, [], by rw [List.take_zero]; rfl, ⟨upd_same, (fun _ z => by cases z)⟩, (fun _ z => by cases z), List.nodup_nil, by rw [List.take_zero]; rfl, s0⟩ (fun i σ H' _ ⟨_, _, _, _, _, _, _, _, e⟩ => SqL.of (e _ _ prZ.at_)) ?_ ?_⟩
    · rintro i y σ H' hi ⟨v5, v6, ws, rfl, wr, hfr, hnd, hbk, sm⟩
      have hlt := (List.getElem?_eq_some_iff.mp hi).1
      rw [List.length_map] at hlt
      obtain ⟨z, hz, rfl⟩ := ref_at hi
      have hck : cs[i]? = some z.2 := by rw [← hcs, List.getElem?_map, hz]; rfl
      have hz0 := h0 z (List.mem_of_getElem? hz)
      obtain ⟨m, hm⟩ : ∃ m : Nat, z.2.2 = (m : Int) := ⟨z.2.2.toNat, by trivial⟩
      have hwl : ws.length = i := by
        have := congrArg List.length hbk
        unfold bkv at this
        rw [List.length_map, cutH_len, List.length_take] at this
        trivial
      have ha' := sm _ _ ha
      refine ⟨z.1, _, rfl, SqT.of (sm _ _ (prZ.each z (List.mem_of_getElem? hz))), rfl, _, _, rfl, _, _, rfl, rfl, ?_⟩
      rw [hm]
      generalize he : endH b (cs.take i) = e
      refine ⟨_, rfl, .inl ⟨rfl, _, SqL.of wr.at_⟩, _, rfl, _, rfl, _, rfl, _, rfl, _, rfl, _, rfl, _, _, rfl, rfl, _, rfl, a, _, rfl, SqL.of ha', fun q hq => ?_⟩
      have ec : HO.lst (cutV (bs.map V.int) (some (e : Int)) (some ((e : Int) + (m : Int)))) = lsI ((bs.drop e).take m) := by rw [show (e : Int) + (m : Int) = ((e + m : Nat) : Int) by trivial, cut_two, show e + m - e = m by trivial]; rfl
      try dsimp -proj only
      rw [ec]
      have u1 := same_new hq (lsI ((bs.drop e).take m))
      have e1 : upd H' q (lsI ((bs.drop e).take m)) q = some (lsI ((bs.drop e).take m)) := upd_same
      generalize upd H' q (lsI ((bs.drop e).take m)) = H1 at u1 e1 ⊢
      refine ⟨(by show 2 ≤ sizeLine; decide), fun t htf => ?_⟩
      have u2 := same_new htf (.tup [.int z.2.1, .ref q])
      have e2 : upd H1 t (.tup [.int z.2.1, .ref q]) t = some (.tup [.int z.2.1, .ref q]) := upd_same
      have e1' := u2 _ _ e1
      generalize upd H1 t (.tup [.int z.2.1, .ref q]) = H2 at u2 e2 e1' ⊢
      have wr2 := wr.same (u1.trans u2)
      have nq : q ≠ P := (ne_of_none wr.at_ hq).symm
      refine ⟨P, _, _, rfl, rfl, wr2.at_, fits_lt (by rw [List.length_map]; trivial), ?_⟩
      refine ⟨_, rfl, _, rfl, _, _, rfl, rfl, ?_⟩
      have eN : endH b (cs.take (i + 1)) = e + m := by rw [take_at hck, endH_snoc, he, hm, Int.toNat_natCast]
      refine ⟨some (.int z.2.1), some (.int (m : Nat)), ws ++ [(t, z.2.1, q, (bs.drop e).take m)], ?_, wr2.app (fun w hw => (hfr w hw).2) e2 e1' nq, ?_, ?_, ?_, same_upd (sm.trans (u1.trans u2)) _ hP⟩
      · rw [eN]; rfl
      · intro w hw
        rcases List.mem_append.mp hw with hw | hw
        · exact hfr w hw
        · rw [List.mem_singleton.mp hw]
          exact ⟨sm.free hq, nq⟩
      · rw [List.map_append]
        refine List.nodup_append.mpr ⟨hnd, by simp, fun x hx y hy => ?_⟩
        obtain ⟨w, hw, rfl⟩ := List.mem_map.mp hx
        rw [show y = q by simpa using hy]
        exact ne_of_none (wr.each w hw).2 hq
      · unfold bkv at hbk ⊢
        rw [List.map_append, hbk, take_at hck, cutH_snoc, he, hm, Int.toNat_natCast]; rfl
    rintro σ H2 ⟨v5, v6, ws, rfl, wr, hfr, hnd, hbk, sm⟩
    rw [List.length_map, ← hcl, List.take_length] at hbk ⊢
    refine ⟨_, rfl, _, rfl, a, _, rfl, .inl (SqL.of (sm _ _ ha)), rfl, _, rfl, ?_⟩
    rw [List.length_map]
    by_cases hh : endH b cs = bs.length
    rotate_left
    · refine iteNTY (fun z => hh (by have := V.int.inj z; trivial)) ?_
      exact hE hh H2 sm
    refine iteNS (congrArg (fun y : Nat => V.int (y : Int)) hh) ?_
    refine ⟨_, rfl, ?_⟩
    exact hQ hh P ws H2 sm ⟨wr, hP, hfr, hnd⟩ hbk
end
end K63
set_option Elab.async false
set_option linter.all false
set_option maxRecDepth 100000
set_option maxHeartbeats 4000000
namespace K63
open PySem L2 PySem.W PH
section
variable {P : Program} {w : World} {K : PySem.W.Frag} {mg : Str → Option Value} {base : Heap}
theorem sc_rdc : FnScope ["bits", "found", "numbers", "container"] ["bits"] (defScope s_rdc) := ⟨rfl, rfl, rfl, by decide +kernel, rfl, by decide +kernel, by decide +kernel⟩
theorem ok_rdc {f c_Broken f_rdrow f_prd f_nocon f_blks : Addr} {fd d_rdrow d_prd d_nocon d_blks : FuncData} (F : Fun K "read_container" "read_container" s_rdc f fd) (B : Bls mg) (X_Broken : Ex K mg "Broken" c_Broken) (m_Broken : mg "Broken" = some (.ref c_Broken)) 
    (G_rdrow : FnOk P w K mg base (CXW P w) 3 f_rdrow d_rdrow ["bits", "at"] (spRdRow K c_Broken)) (b_rdrow : Binds K d_rdrow ["bits", "at"] []) (k_rdrow : keepIn K (.ref f_rdrow) = true) (m_rdrow : mg "read_row" = some (.ref f_rdrow)) 
    (G_prd : FnOk P w K mg base (CXW P w) 1 f_prd d_prd ["numbers"] (spPrd c_Broken)) (b_prd : Binds K d_prd ["numbers"] []) (k_prd : keepIn K (.ref f_prd) = true) (m_prd : mg "paired" = some (.ref f_prd)) 
    (G_nocon : FnOk P w K mg base (CXW P w) 5 f_nocon d_nocon ["thing"] (spNoConA c_Broken)) (b_nocon : Binds K d_nocon ["thing"] []) (k_nocon : keepIn K (.ref f_nocon) = true) (m_nocon : mg "refuse_no_container" = some (.ref f_nocon)) 
    (G_blks : FnOk P w K mg base (CXW P w) 1 f_blks d_blks ["bits", "at", "heads"] (spBlks c_Broken)) (b_blks : Binds K d_blks ["bits", "at", "heads"] []) (k_blks : keepIn K (.ref f_blks) = true) (m_blks : mg "blocks_by" = some (.ref f_blks)) : FnOk P w K mg base (CXW P w) 6 f fd ["bits"] (spRdC c_Broken) := by
  refine F.okX sc_rdc (fun vs H Q E h => ?_) (fun cdv A outer s H vs Q E hr h => ?_)
  · obtain ⟨a, bs, rfl, _⟩ := h
    rfl
  · obtain ⟨a, bs, rfl, ha, hbits, hbl2, hE, hQ⟩ := h
    refine ⟨_, (pss_cons (ps_set (i := 1) sc_rdc.nd rfl (Or.inl rfl) (pe_call G_rdrow (hr.mono (show 3 ≤ 5 by decide)) rfl m_rdrow k_rdrow b_rdrow .nil passW (pa_cons (pv 0) (pa_cons pe_int pa_nil))))
      (pss_cons (ps_set (i := 2) sc_rdc.nd rfl (Or.inl rfl) (pe_ix ix_tup (pv 1) pe_int (fun _ _ => rfl)))
      (pss_cons (ps_if (pt_cmpR op_lt (pe_callB call_len_seq rfl B.len PySem.boot_len (pa_cons (pv 2) pa_nil)) pe_int (nomark _))
        (pss_one (ps_raise PySem.F.excBase_ValueError X_Broken.ex X_Broken.mg rfl))
        pss_nil)
      (pss_cons (ps_set (i := 3) sc_rdc.nd rfl (Or.inl rfl) (pe_tup (pa_cons (pe_ix ix_list (pv 2) pe_int (fun _ _ => rfl)) (pa_cons (pe_ix ix_list (pv 2) pe_int (fun _ _ => rfl)) (pa_cons (pe_call G_blks (hr.mono (show 1 ≤ 5 by decide)) rfl m_blks k_blks b_blks .nil passW (pa_cons (pv 0) (pa_cons (pe_ix ix_tup (pv 1) pe_int (fun _ _ => rfl)) (pa_cons (pe_call G_prd (hr.mono (show 1 ≤ 5 by decide)) rfl m_prd k_prd b_prd .nil passW (pa_cons (pe_slice sl_list (pv 2) (po_some pe_int) po_none) pa_nil)) pa_nil)))) pa_nil)))))
      (pss_cons (ps_expr (pe_call G_nocon hr rfl m_nocon k_nocon b_nocon .nil passW (pa_cons (pv 3) pa_nil)))
      (pss_one (ps_ret (pv 3)))))))), ?_⟩
    have hS := SqL.of (K := K) ha
    refine ⟨_, rfl, a, bs, 0, rfl, hS, by trivial, by trivial, ?_⟩
    cases hr : readRow bs 0 with
    | none => exact fun H1 s1 => hE (by unfold rdC; rw [hr]) H1 s1
    | some nb =>
      obtain ⟨ns, b⟩ := nb
      intro l t H1 s1 hln htn hlt hl1 ht1
      obtain ⟨i0, ib, hbl, hn0, hrow⟩ := readRow_back hbits hr
      have hnl : ns.length ≤ 20000 := by
        have h1 := (flatb_ge hn0).1
        have h2 := congrArg List.length hrow
        unfold rowb at h2
        rw [List.length_append, List.length_take, List.length_drop] at h2
        trivial
      have eS : rdC bs = (if ns.length < 2 then none else if ns.length % 2 = 1 then none else if endH b (prd (ns.drop 2)) ≠ bs.length then none else
    if isCn (ns.getD 0 0) (ns.getD 1 0) (prd (ns.drop 2)).length = false then none else some (ns.getD 0 0, ns.getD 1 0, cutH bs b (prd (ns.drop 2)))) := by unfold rdC; rw [hr]
      rw [eS] at hE hQ
      refine ⟨_, rfl, t, _, 0, _, rfl, rfl, SqT.of ht1, rfl, ?_⟩
      refine ⟨_, rfl, l, _, rfl, .inl (SqL.of hl1), _, _, rfl, rfl, _, rfl, ?_⟩
      rw [List.length_map]
      by_cases h2 : ns.length < 2
      · rw [decide_eq_true (show ((ns.length : Nat) : Int) < 2 by trivial)]
        refine iteT ?_
        exact hE (by rw [if_pos h2]) H1 s1
      rw [decide_eq_false (show ¬ ((ns.length : Nat) : Int) < 2 by trivial)]
      rw [if_neg h2] at hE hQ
      refine iteF ?_
      obtain ⟨x, hx⟩ : ∃ x, ns[0]? = some x := ⟨_, List.getElem?_eq_getElem (by trivial)⟩
      obtain ⟨y, hy⟩ : ∃ x, ns[1]? = some x := ⟨_, List.getElem?_eq_getElem (by trivial)⟩
      rw [getD_at hx, getD_at hy] at hE hQ
      have ha1 := s1 _ _ ha
      refine ⟨_, rfl, l, _, ((0 : Nat) : Int), _, rfl, rfl, SqL.of hl1, at_ints hx, _, rfl, l, _, ((1 : Nat) : Int), _, rfl, rfl, SqL.of hl1, at_ints hy, _, rfl, _, rfl, t, _, 1, _, rfl, rfl, SqT.of ht1, rfl, _, rfl, 2, rfl, l, _, rfl, SqL.of hl1, fun W hW => ?_⟩
      have ec : HO.lst (cutV (ns.map V.int) (some 2) none) = lsI (ns.drop 2) := by rw [show (2 : Int) = ((2 : Nat) : Int) from rfl, cut_from]; rfl
      try dsimp -proj only
      rw [ec]
      have dl : (ns.drop 2).length = ns.length - 2 := List.length_drop
      have d0 : ∀ n ∈ ns.drop 2, 0 ≤ n := fun n hn => hn0 n (List.mem_of_mem_drop hn)
      generalize ns.drop 2 = ds at dl d0 hE hQ ⊢
      have u2 := same_new hW (lsI ds)
      have e2 : upd H1 W (lsI ds) W = some (lsI ds) := upd_same
      generalize upd H1 W (lsI ds) = H2 at u2 e2 ⊢
      have t2 := s1.trans u2
      refine ⟨W, ds, rfl, e2, by trivial, (fun h => hE (by rw [if_pos (by trivial)]) H2 t2), fun h p zs H3 s3 hp prZ hzs => ?_⟩
      rw [if_neg (show ¬ ns.length % 2 = 1 by trivial)] at hE hQ
      have t3 := t2.trans s3
      have hzl : zs.length ≤ 20000 := by
        have := congrArg List.length hzs
        rw [List.length_map, prd_len] at this
        trivial
      have hpn := prd_nn d0
      refine ⟨a, p, bs, b, zs, rfl, t3 _ _ ha, prZ, (fun z hz => (hpn z.2 (by rw [← hzs]; exact List.mem_map.mpr ⟨z, hz, rfl⟩)).2), hzl, (fun hne H4 s4 => hE (by rw [hzs] at hne; rw [if_pos hne]) H4 (t3.trans s4)), fun heq P ws H4 s4 nw hbk => ?_⟩
      rw [hzs] at heq hbk
      rw [if_neg (fun z => z heq)] at hE hQ
      refine ⟨(by show 3 ≤ sizeLine; decide), fun c hc => ?_⟩
      have u5 := same_new hc (.tup [.int x, .int y, .ref P])
      have e5 : upd H4 c (.tup [.int x, .int y, .ref P]) c = some (.tup [.int x, .int y, .ref P]) := upd_same
      generalize upd H4 c (.tup [.int x, .int y, .ref P]) = H5 at u5 e5 ⊢
      have t4 := t3.trans s4
      have wr5 := nw.bk.same u5
      have hlw : (prd ds).length = ws.length := by
        have := congrArg List.length hbk
        unfold bkv at this
        rw [List.length_map, cutH_len] at this
        exact this.symm
      rw [hlw] at hE hQ
      have hwz : ws.length ≤ 20000 := by rw [← hlw, ← hzs, List.length_map]; exact hzl
      have hw0 : ∀ w ∈ ws, 0 ≤ w.2.1 := fun w hw => by
        have hm : (w.2.1, w.2.2.2) ∈ cutH bs b (prd ds) := by rw [← hbk]; exact List.mem_map.mpr ⟨w, hw, rfl⟩
        exact cutH_nn (fun c hc => (hpn c hc).1) _ hm
      refine ⟨_, rfl, c, P, x, y, ws, rfl, e5, wr5, hwz, hw0, (fun hf H6 s6 => hE (by rw [if_pos hf]) H6 (t4.trans (u5.trans s6))), fun hok H6 s6 => ?_⟩
      rw [if_neg (by rw [hok]; decide)] at hQ
      refine ⟨_, rfl, ?_⟩
      have u56 := u5.trans s6
      exact hQ x y _ rfl c P ws H6 (t4.trans u56) (s6 _ _ e5) ⟨nw.bk.same u56, t3.free nw.pn, (fun w hw => ⟨t3.free (nw.fr w hw).1, (nw.fr w hw).2⟩), nw.nd⟩ hbk
end
end K63
set_option Elab.async false
set_option linter.all false
set_option maxRecDepth 100000
set_option maxHeartbeats 4000000
namespace K63
open PySem L2 PySem.W PH
section
variable {P : Program} {w : World} {K : PySem.W.Frag} {mg : Str → Option Value} {base : Heap}
theorem sc_state : FnScope ["script", "k", "rest"] ["script", "k"] (defScope s_state) := ⟨rfl, rfl, rfl, by decide +kernel, rfl, by decide +kernel, by decide +kernel⟩
theorem ok_state {f : Addr} {fd : FuncData} (F : Fun K "_law_state" "_law_state" s_state f fd) (B : Bls mg) : FnOk P w K mg base (CXW P w) 1 f fd ["script", "k"] (spState K) := by
  refine F.okN sc_state (fun vs H Q E h => ?_) (fun cdv A outer s H vs Q E hr h => ?_)
  · obtain ⟨a, ns, k, rfl, _⟩ := h
    rfl
  · obtain ⟨a, ns, k, rfl, hS, hk, hQ⟩ := h
    refine ⟨_, (pss_cons (ps_set (i := 2) sc_state.nd rfl (Or.inl rfl) pe_int)
      (pss_cons (ps_if (pt_cmpR op_lt (pv 1) (pe_callB call_len_seq rfl B.len PySem.boot_len (pa_cons (pv 0) pa_nil)) (nomark _))
        (pss_one (ps_set (i := 2) sc_state.nd rfl (Or.inl rfl) (pe_ix ix_list (pv 0) (pv 1) (fun _ _ => rfl))))
        pss_nil)
      (pss_one (ps_ret (pe_disp (pps_cons pe_str (pv 2) (pps_cons pe_str (pe_or (pe_cmpR (op_eqL (units_of hr)) (pe_slice sl_list (pv 0) po_none (po_some pe_int)) (pe_lst pa_nil) (nomark _)) (pe_one (pe_cmpR op_eq (pe_op op_mod (pe_ix ix_list (pv 0) pe_int (fun _ _ => rfl)) pe_int) pe_int (nomark _)))) (pps_cons pe_str (pv 1) pps_nil))) rfl rfl (fun z => by cases z) (Nat.le_of_ble_eq_true rfl)))))), ?_⟩
    try dsimp only
    refine sqMidY (fun σ' H' => σ' = [some (.ref a), some (.int (k : Nat)), some (.int 0)] ∧ H' = H) ?_ ?_
    rotate_left
    · exact fun N hN => hN _ _ ⟨rfl, rfl⟩
    rintro σ' H ⟨rfl, rfl⟩
    try dsimp only
    refine sqMidY (fun σ' H' => ∃ r : Int, σ' = [some (.ref a), some (.int (k : Nat)), some (.int r)] ∧ H' = H) ?_ ?_
    rotate_left
    · intro N hN
      refine ⟨_, rfl, _, rfl, a, _, rfl, .inl hS, _, _, rfl, rfl, _, rfl, ?_⟩
      rw [List.length_map]
      by_cases hk2 : k < ns.length
      · rw [decide_eq_true (show ((k : Nat) : Int) < ((ns.length : Nat) : Int) by trivial)]
        refine iteT ?_
        obtain ⟨x, hx⟩ : ∃ x, ns[k]? = some x := ⟨_, List.getElem?_eq_getElem hk2⟩
        refine ⟨_, rfl, _, rfl, a, _, _, _, rfl, rfl, hS, at_ints hx, ?_⟩
        exact hN _ _ ⟨x, rfl, rfl⟩
      · rw [decide_eq_false (show ¬ ((k : Nat) : Int) < ((ns.length : Nat) : Int) by trivial)]
        refine iteF ?_
        exact hN _ _ ⟨0, rfl, rfl⟩
    rintro σ' H ⟨r, rfl, rfl⟩
    refine fun d hd => ?_
    have u0 := same_new hd (.dK [])
    have e0 : upd H d (.dK []) d = some (.dK []) := upd_same
    have hSx := u0.seq hS
    generalize upd H d (.dK []) = H1 at u0 e0 hSx ⊢
    have fin : ∀ (bb : Bool) (H2 : Hp), Same H1 H2 → tPairs [((tC (.str "count")), (tVar 1))] [some (.ref a), some (.int (k : Nat)), some (.int r)] H2 fun ps H3 => H3 d = some (.dK []) ∧ ∃ kvs : List (Key × V), ((V.str "rest", V.int r) :: (V.str "digits", V.bl bb) :: ps) = kvs.map (fun kv => (kV kv.1, kv.2)) ∧ kvs.length ≤ 15 ∧ Q (.ref d) (upd H3 d (.dK (mergeK [] kvs))) := fun bb H2 s2 => by
      refine ⟨_, rfl, s2 _ _ e0, stL r bb (k : Nat), rfl, by show 3 ≤ 15; decide, ?_⟩
      rw [put_all]
      exact hQ d _ hd (same_upd (u0.trans s2) _ hd) ⟨r, bb, (k : Nat), upd_same, by trivial, by trivial⟩
    refine ⟨_, rfl, ?_⟩
    refine ⟨_, rfl, 1, rfl, a, _, rfl, hSx, fun l1 hl1 => ?_⟩
    have ec : HO.lst (cutV (ns.map V.int) none (some 1)) = lsI (ns.take 1) := by rw [show (1 : Int) = ((1 : Nat) : Int) from rfl, cut_to (α := Int)]; rfl
    try dsimp -proj only
    rw [ec]
    have u1 := same_new hl1 (lsI (ns.take 1))
    have e1 : upd H1 l1 (lsI (ns.take 1)) l1 = some (lsI (ns.take 1)) := upd_same
    generalize upd H1 l1 (lsI (ns.take 1)) = H2 at u1 e1 ⊢
    refine ⟨(by show 0 ≤ sizeLine; decide), fun l2 hl2 => ?_⟩
    have u2 := same_new hl2 (.lst [])
    have e2 : upd H2 l2 (.lst []) l2 = some (lsI []) := upd_same
    generalize upd H2 l2 (.lst []) = H3 at u2 e2 ⊢
    have t3 := u1.trans u2
    refine ⟨l1, l2, _, [], rfl, rfl, SqL.of (u2 _ _ e1), SqL.of e2, _, rfl, ?_⟩
    cases ns with
    | nil =>
      refine iteT ?_
      exact fin true H3 t3
    | cons x r' =>
      refine iteF ?_
      refine ⟨_, rfl, a, _, ((0 : Nat) : Int), _, rfl, rfl, t3.seq hSx, at_ints (ns := x :: r') (i := 0) rfl, _, _, rfl, rfl, (by show (0 : Int) < 2; decide), rfl, ?_⟩
      exact fin _ H3 t3
theorem sc_draw : FnScope ["state", "many", "found", "x"] ["state", "many"] (defScope s_draw) := ⟨rfl, rfl, rfl, by decide +kernel, rfl, by decide +kernel, by decide +kernel⟩
theorem ok_draw {f : Addr} {fd : FuncData} (F : Fun K "_law_draw" "_law_draw" s_draw f fd) (B : Bls mg) : FnOk P w K mg base (CXW P w) 1 f fd ["state", "many"] (spDraw63) := by
  refine F.okN sc_draw (fun vs H Q E h => ?_) (fun cdv A outer s H vs Q E hr h => ?_)
  · obtain ⟨p, n, many, rfl, _⟩ := h
    rfl
  · obtain ⟨p, n, many, rfl, sd, hn, h0, h1, k⟩ := h
    refine ⟨_, (pss_cons (ps_if (pt_val (pe_dget (hu_of hr) (pv 0) pe_str (fun _ _ => rfl)))
        (pss_cons (ps_set (i := 2) sc_draw.nd rfl (Or.inl rfl) (pe_op op_mod (pe_dget (hu_of hr) (pv 0) pe_str (fun _ _ => rfl)) (pv 1)))
        (pss_cons (ps_dput (hu_of hr) (pv 0) pe_str (pe_op op_fdiv (pe_dget (hu_of hr) (pv 0) pe_str (fun _ _ => rfl)) (pv 1)) rfl)
        (pss_one (ps_ret (pv 2)))))
        pss_nil)
      (pss_cons (ps_dput (hu_of hr) (pv 0) pe_str (pe_op op_add (pe_dget (hu_of hr) (pv 0) pe_str (fun _ _ => rfl)) pe_int) rfl)
      (pss_cons (ps_set (i := 3) sc_draw.nd rfl (Or.inl rfl) (pe_op op_mod (pe_op op_add (pe_op op_mod (pe_dget (hu_of hr) (pv 0) pe_str (fun _ _ => rfl)) pe_int) (pe_op op_mul pe_int (pe_dget (hu_of hr) (pv 0) pe_str (fun _ _ => rfl)))) pe_int))
      (pss_cons (ps_set (i := 3) sc_draw.nd rfl (Or.inl rfl) (pe_op op_mod (pe_op op_mul (pv 3) (pv 3)) pe_int))
      (pss_cons (ps_set (i := 3) sc_draw.nd rfl (Or.inl rfl) (pe_op op_mod (pe_op op_mul (pe_op op_add (pv 3) pe_int) (pv 3)) pe_int))
      (pss_one (ps_ret (pe_op op_mod (pe_op op_fdiv (pv 3) pe_int) (pv 1))))))))), ?_⟩
    obtain ⟨r, b, c, hd, hc0, hc1⟩ := sd
    refine ⟨_, rfl, p, _, rfl, get_d hd, _, rfl, ?_⟩
    cases b with
    | true =>
      refine iteT ?_
      refine ⟨_, rfl, p, _, rfl, get_r hd, _, rfl, _, _, rfl, rfl, h0, ?_⟩
      refine ⟨_, rfl, p, _, rfl, get_r hd, _, rfl, _, _, rfl, rfl, ⟨h0, h1⟩, _, rfl, p, _, rfl, dput_r hd _, ?_⟩
      refine ⟨_, rfl, ?_⟩
      exact k _ _ (Int.emod_nonneg _ (by trivial)) (Int.emod_lt_of_pos _ h0) ⟨_, _, _, upd_same, hc0, by trivial⟩ (Kb.put _ _ _)
    | false =>
      refine iteF ?_
      refine ⟨_, rfl, p, _, rfl, get_c hd, _, _, rfl, rfl, _, rfl, p, _, rfl, dput_c hd (c + 1), ?_⟩
      have kb := Kb.put p H (stD r false (c + 1))
      have hd2 : upd H p (stD r false (c + 1)) p = some (stD r false (c + 1)) := upd_same
      generalize upd H p (stD r false (c + 1)) = H1 at hd2 kb ⊢
      refine ⟨_, rfl, p, _, rfl, get_r hd2, _, _, rfl, rfl, (by show (0 : Int) < 999999999989; decide), _, rfl, p, _, rfl, get_c hd2, _, _, rfl, rfl, .inl ⟨by decide, by decide⟩, _, _, rfl, rfl, _, _, rfl, rfl, (by show (0 : Int) < 999999999989; decide), ?_⟩
      obtain ⟨m1, e1, b10, b11⟩ : ∃ m : Int, m = (r % 999999999989 + 350377 * (c + 1)) % 999999999989 ∧ 0 ≤ m ∧ m < 999999999989 := ⟨_, rfl, Int.emod_nonneg _ (by decide), Int.emod_lt_of_pos _ (by decide)⟩
      refine gNx (v' := V.int m1) (by rw [e1]) ?_
      refine ⟨_, rfl, _, rfl, _, _, rfl, rfl, .inl ⟨?_, ?_⟩, _, _, rfl, rfl, (by show (0 : Int) < 1000000000039; decide), ?_⟩
      · show -(2 ^ 64) < m1
        trivial
      · show m1 < 2 ^ 64
        trivial
      obtain ⟨m2, e2, b20, b21⟩ : ∃ m : Int, m = m1 * m1 % 1000000000039 ∧ 0 ≤ m ∧ m < 1000000000039 := ⟨_, rfl, Int.emod_nonneg _ (by decide), Int.emod_lt_of_pos _ (by decide)⟩
      refine gNx (v' := V.int m2) (by rw [e2]) ?_
      refine ⟨_, rfl, _, _, rfl, rfl, _, rfl, _, _, rfl, rfl, .inr ⟨?_, ?_⟩, _, _, rfl, rfl, (by show (0 : Int) < 999999999961; decide), ?_⟩
      · show -(2 ^ 64) < m2
        trivial
      · show m2 < 2 ^ 64
        trivial
      refine ⟨_, rfl, _, _, rfl, rfl, ⟨by decide, by decide⟩, _, rfl, _, _, rfl, rfl, h0, ?_⟩
      exact k _ _ (Int.emod_nonneg _ (by trivial)) (Int.emod_lt_of_pos _ h0) ⟨_, _, _, hd2, by trivial, by trivial⟩ kb
end
end K63
set_option Elab.async false
set_option linter.all false
set_option maxRecDepth 100000
set_option maxHeartbeats 4000000
namespace K63
open PySem L2 PySem.W PH
section
variable {P : Program} {w : World} {K : PySem.W.Frag} {mg : Str → Option Value} {base : Heap}
theorem sc_lfirst : FnScope ["script"] ["script"] (defScope s_lfirst) := ⟨rfl, rfl, rfl, by decide +kernel, rfl, by decide +kernel, by decide +kernel⟩
theorem ok_lfirst {f : Addr} {fd : FuncData} (F : Fun K "_law_first" "_law_first" s_lfirst f fd) (B : Bls mg) : FnOk P w K mg base (CXW P w) 1 f fd ["script"] (spFirst63 K) := by
  refine F.okN sc_lfirst (fun vs H Q E h => ?_) (fun cdv A outer s H vs Q E hr h => ?_)
  · obtain ⟨a, ns, rfl, _⟩ := h
    rfl
  · obtain ⟨a, ns, rfl, hS, hQ⟩ := h
    refine ⟨_, (pss_cons (ps_if (pt_cmpR (op_eqL (units_of hr)) (pv 0) (pe_lst pa_nil) (nomark _))
        (pss_one (ps_ret pe_int))
        pss_nil)
      (pss_one (ps_ret (pe_op op_fdiv (pe_ix ix_list (pv 0) pe_int (fun _ _ => rfl)) pe_int)))), ?_⟩
    refine ⟨_, rfl, (by show 0 ≤ sizeLine; decide), fun e0 he0 => ?_⟩
    have ue := same_new he0 (.lst [])
    have ee : upd H e0 (.lst []) e0 = some (lsI []) := upd_same
    generalize upd H e0 (.lst []) = H1 at ue ee ⊢
    refine ⟨a, e0, ns, [], rfl, rfl, ue.seq hS, SqL.of ee, _, rfl, ?_⟩
    cases ns with
    | nil =>
      refine iteT ?_
      exact hQ 0 H1 ue
    | cons x r' =>
      refine iteF ?_
      refine ⟨_, rfl, a, _, ((0 : Nat) : Int), _, rfl, rfl, ue.seq hS, at_ints (ns := x :: r') (i := 0) rfl, _, _, rfl, rfl, ⟨by decide, by decide⟩, ?_⟩
      exact hQ _ H1 ue
end
end K63
set_option Elab.async false
set_option linter.all false
set_option maxRecDepth 100000
set_option maxHeartbeats 4000000
namespace K63
open PySem L2 PySem.W PH
section
variable {P : Program} {w : World} {K : PySem.W.Frag} {mg : Str → Option Value} {base : Heap}
theorem sc_lend : FnScope ["number", "bits"] ["number"] (defScope s_lend) := ⟨rfl, rfl, rfl, by decide +kernel, rfl, by decide +kernel, by decide +kernel⟩
theorem ok_lend {f : Addr} {fd : FuncData} (F : Fun K "_law_ending" "_law_ending" s_lend f fd) (B : Bls mg) : FnOk P w K mg base (CXW P w) 1 f fd ["number"] (spLEnd63) := by
  refine F.okN sc_lend (fun vs H Q E h => ?_) (fun cdv A outer s H vs Q E hr h => ?_)
  · obtain ⟨n, rfl, _⟩ := h
    rfl
  · obtain ⟨n, rfl, h1, h9, hQ⟩ := h
    refine ⟨_, (pss_cons (ps_set (i := 1) sc_lend.nd rfl (Or.inl rfl) (pe_lst pa_nil))
      (pss_cons (ps_while PassesOwn.never (pt_cmpR op_gt (pv 0) pe_int (nomark _))
        (pss_cons (ps_set (i := 1) sc_lend.nd rfl (Or.inl rfl) (pe_op op_cat (pe_lst (pa_cons (pe_op op_mod (pv 0) pe_int) pa_nil)) (pv 1)))
        (pss_one (ps_set (i := 0) sc_lend.nd rfl (Or.inl rfl) (pe_op op_fdiv (pv 0) pe_int)))))
      (pss_one (ps_ret (pe_op op_cat (pe_op op_rep (pe_lst (pa_cons pe_int pa_nil)) (pe_op op_sub (pe_callB call_len_seq rfl B.len PySem.boot_len (pa_cons (pv 1) pa_nil)) pe_int)) (pv 1)))))), ?_⟩
    have hb9 : blen (n : Nat) ≤ 900 := blen_le.mpr (by rw [Int.natAbs_natCast]; exact h9)
    have hb1 : 1 ≤ blen (n : Nat) := blen_pos (by trivial)
    refine ⟨(by show 0 ≤ sizeLine; decide), fun F0 hF0 => ?_⟩
    refine ⟨fun m σ H' => ∃ (F : Addr) (j : Nat), j ≤ blen (n : Nat) ∧ m = blen (n : Nat) - j ∧ σ = [some (.int (((n : Nat) : Int) / 2 ^ j)), some (.ref F)] ∧ H' F = some (lsI (lowb (n : Nat) j)) ∧ Same H H',
      ⟨_, F0, 0, Nat.zero_le _, rfl, by rw [Int.pow_zero, Int.ediv_one]; rfl, upd_same, same_new hF0 _⟩, ?_⟩
    rintro m σ H' ⟨F, j, hj, rfl, rfl, hF, sm⟩
    refine ⟨_, rfl, _, _, rfl, rfl, _, rfl, ?_⟩
    have hbi := blen_le (n := ((n : Nat) : Int)) (m := j)
    rw [Int.natAbs_natCast] at hbi
    have ep : ((2 ^ j : Nat) : Int) = (2 : Int) ^ j := by norm_cast
    have hpp : (0 : Int) < 2 ^ j := Int.pow_pos (by decide)
    refine ite2 (fun c => ?_) (fun c => ?_)
    · have c' : (0 : Int) < ((n : Nat) : Int) / 2 ^ j := of_decide_eq_true c
      have hlt : j < blen (n : Nat) := Nat.lt_of_not_le fun z => by
        have h1 := hbi.mp z
        have h2 : ((n : Nat) : Int) / 2 ^ j = 0 := Int.ediv_eq_zero_of_lt (by trivial) (by rw [← ep]; exact Int.ofNat_lt.mpr h1)
        trivial
      refine ⟨fun σ' H'' => ∃ m', m' < blen (n : Nat) - j ∧ ∃ (F : Addr) (j : Nat), j ≤ blen (n : Nat) ∧ m' = blen (n : Nat) - j ∧ σ' = [some (.int (((n : Nat) : Int) / 2 ^ j)), some (.ref F)] ∧ H'' F = some (lsI (lowb (n : Nat) j)) ∧ Same H H'', fun σ' H'' z => z, ?_⟩
      refine ⟨_, rfl, _, _, rfl, rfl, (by show (0 : Int) < 2; decide), (by show 1 ≤ sizeLine; decide), fun l1 hl1 => ?_⟩
      try dsimp -proj only
      have u1 := same_new hl1 (.lst [V.int (((n : Nat) : Int) / 2 ^ j % 2)])
      have e1 : upd H' l1 (.lst [V.int (((n : Nat) : Int) / 2 ^ j % 2)]) l1 = some (lsI [((n : Nat) : Int) / 2 ^ j % 2]) := upd_same
      generalize upd H' l1 (.lst [V.int (((n : Nat) : Int) / 2 ^ j % 2)]) = H1 at u1 e1 ⊢
      refine ⟨_, rfl, l1, F, _, _, rfl, rfl, e1, u1 _ _ hF, fits (by rw [List.length_map, List.length_map, lowb_length]; show 1 + _ ≤ _; trivial), fun X hX => ?_⟩
      rw [lsI_app, lowb_up]
      refine ⟨_, rfl, _, _, rfl, rfl, ⟨by decide, by decide⟩, ?_⟩
      refine ⟨_, ?_, X, j + 1, hlt, rfl, ?_, upd_same, (sm.trans u1).trans (same_new hX _)⟩
      · trivial
      · show [some (V.int (((n : Nat) : Int) / 2 ^ j / 2)), some (V.ref X)] = _
        rw [div_pow_succ]
    · have c' : ¬ (0 : Int) < ((n : Nat) : Int) / 2 ^ j := fun z => c (decide_eq_true z)
      have hle : blen (n : Nat) ≤ j := hbi.mpr (by
        refine Nat.lt_of_not_le fun z => ?_
        have h1 : (1 : Int) ≤ ((n : Nat) : Int) / 2 ^ j := (Int.le_ediv_iff_mul_le hpp).mpr (by rw [Int.one_mul, ← ep]; exact Int.ofNat_le.mpr z)
        trivial)
      have e : j = blen (n : Nat) := by trivial
      subst e
      refine ⟨(by show 1 ≤ sizeLine; decide), fun l1 hl1 => ?_⟩
      have u1 := same_new hl1 (.lst [V.int 0])
      have et : (((blen (n : Nat) : Nat) : Int) - 1).toNat = blen (n : Nat) - 1 := by trivial
      refine ⟨_, rfl, F, _, rfl, .inl (SqL.of (u1 _ _ hF)), _, _, rfl, rfl, l1, ((blen (n : Nat) : Nat) : Int) - 1, [.int 0], rfl, by rw [List.length_map, lowb_length], upd_same, by trivial, by trivial, fits (by rw [List.length_singleton, et]; trivial), fun l2 hl2 => ?_⟩
      rw [et, rep_ints]
      have u2 := u1.trans (same_new hl2 (.lst ((List.replicate (blen (n : Nat) - 1) 0).map V.int)))
      have e2 : upd (upd H' l1 (.lst [V.int 0])) l2 (.lst ((List.replicate (blen (n : Nat) - 1) 0).map V.int)) l2 = some (lsI (List.replicate (blen (n : Nat) - 1) 0)) := upd_same
      generalize upd (upd H' l1 (.lst [V.int 0])) l2 (.lst ((List.replicate (blen (n : Nat) - 1) 0).map V.int)) = H2 at u2 e2 ⊢
      refine ⟨_, rfl, l2, F, _, _, rfl, rfl, e2, u2 _ _ hF, fits (by rw [List.length_map, List.length_map, List.length_replicate, lowb_length]; trivial), fun R hR => ?_⟩
      rw [lsI_app]
      have t3 := sm.trans u2
      exact hQ R _ (t3.trans (same_new hR _)) (t3.free hR) upd_same
end
end K63
set_option Elab.async false
set_option linter.all false
set_option maxRecDepth 100000
set_option maxHeartbeats 4000000
namespace K63
open PySem L2 PySem.W PH
section
variable {P : Program} {w : World} {K : PySem.W.Frag} {mg : Str → Option Value} {base : Heap}
theorem sc_lroww : FnScope ["numbers", "bits", "number"] ["numbers"] (defScope s_lroww) := ⟨rfl, rfl, rfl, by decide +kernel, rfl, by decide +kernel, by decide +kernel⟩
theorem ok_lroww {f f_lend : Addr} {fd d_lend : FuncData} (F : Fun K "_law_row" "_law_row" s_lroww f fd) (B : Bls mg) 
    (G_lend : FnOk P w K mg base (CXW P w) 1 f_lend d_lend ["number"] (spLEnd63)) (b_lend : Binds K d_lend ["number"] []) (k_lend : keepIn K (.ref f_lend) = true) (m_lend : mg "_law_ending" = some (.ref f_lend)) : FnOk P w K mg base (CXW P w) 2 f fd ["numbers"] (spLRow63) := by
  refine F.okN sc_lroww (fun vs H Q E h => ?_) (fun cdv A outer s H vs Q E hr h => ?_)
  · obtain ⟨a, ns, rfl, _⟩ := h
    rfl
  · obtain ⟨a, ns, rfl, ha, hl, hn, hQ⟩ := h
    refine ⟨_, (pss_cons (ps_set (i := 1) sc_lroww.nd rfl (Or.inl rfl) (pe_call G_lend hr rfl m_lend k_lend b_lend .nil passN (pa_cons (pe_op op_add (pe_callB call_len_seq rfl B.len PySem.boot_len (pa_cons (pv 0) pa_nil)) pe_int) pa_nil)))
      (pss_cons (ps_for PassesOwn.never rfl (pi_list (pv 0)) (pg_name (i := 2) sc_lroww.nd rfl (Or.inl rfl))
        (pss_one (ps_set (i := 1) sc_lroww.nd rfl (Or.inl rfl) (pe_op op_cat (pv 1) (pe_call G_lend hr rfl m_lend k_lend b_lend .nil passN (pa_cons (pe_op op_add (pv 2) pe_int) pa_nil))))))
      (pss_one (ps_ret (pv 1))))), ?_⟩
    refine ⟨_, rfl, a, _, rfl, .inl (SqL.of ha), _, _, rfl, rfl, ns.length + 1, congrArg (fun y => [V.int y]) (by rw [List.length_map]; rfl), by trivial, lt900 (by trivial), fun F0 H1 s1 hFn hF => ?_⟩
    have el : ((ns.length + 1 : Nat) : Int) = (ns.length : Int) + 1 := rfl
    rw [el] at hF
    have hb1 := blen_mid (n := (ns.length : Int) + 1) (by trivial) (by trivial)
    have hl1 := endb_length ((ns.length : Int) + 1)
    have ha1 := s1 _ _ ha
    refine ⟨_, rfl, a, rfl, ⟨_, SqL.of ha1⟩, for_list (K := K) (a := a) (xs := ns.map V.int) (fun i σ H2 => ∃ (F : Addr) (v : Option V), σ = [some (.ref a), some (.ref F), v] ∧ H F = none ∧ H2 F = some (lsI (endb ((ns.length : Int) + 1) ++ flatb (ns.take i))) ∧ Same H H2)
      ⟨F0, none, rfl, hFn, by rw [hF, List.take_zero]; show _ = some (lsI (_ ++ [])); rw [List.append_nil], s1⟩ (fun i σ H2 _ ⟨_, _, _, _, _, e⟩ => SqL.of (e _ _ ha)) ?_ ?_⟩
    · rintro i y σ H2 hi ⟨F, v, rfl, hFN, hF2, sm⟩
      obtain ⟨z, rfl, hz⟩ := int_at hi
      have hil : i < ns.length := (List.getElem?_eq_some_iff.mp hz).1
      have hz0 := hn z (List.mem_of_getElem? hz)
      have hfl := flatb_mid (ns := ns.take i) fun x hx => hn x (List.mem_of_mem_take hx)
      rw [List.length_take] at hfl
      have hbz := blen_mid (n := z + 1) (by trivial) (by trivial)
      have hl2 := endb_length (z + 1)
      have ez : (((z + 1).toNat : Nat) : Int) = z + 1 := by trivial
      refine ⟨_, rfl, _, rfl, _, _, rfl, rfl, (z + 1).toNat, congrArg (fun y => [V.int y]) ez.symm, by trivial, lt900 (by trivial), fun G H4 s4 hGn hG => ?_⟩
      rw [ez] at hG
      refine ⟨F, G, _, _, rfl, rfl, s4 _ _ hF2, hG, fits (by rw [List.length_map, List.length_map, List.length_append]; trivial), fun X hX => ?_⟩
      rw [lsI_app]
      have t4 := sm.trans s4
      refine ⟨X, _, rfl, t4.free hX, ?_, t4.trans (same_new hX _)⟩
      rw [upd_same, flatb_take hz, List.append_assoc]
    rintro σ H2 ⟨F, v, rfl, hFN, hF2, sm⟩
    rw [List.length_map, List.take_length] at hF2
    refine ⟨_, rfl, ?_⟩
    exact hQ F H2 sm hFN hF2
end
end K63
set_option Elab.async false
set_option linter.all false
set_option maxRecDepth 100000
set_option maxHeartbeats 4000000
namespace K63
open PySem L2 PySem.W PH
section
variable {P : Program} {w : World} {K : PySem.W.Frag} {mg : Str → Option Value} {base : Heap}
theorem sc_lnum : FnScope ["bits", "at", "noughts", "behind", "number", "bit"] ["bits", "at"] (defScope s_lnum) := ⟨rfl, rfl, rfl, by decide +kernel, rfl, by decide +kernel, by decide +kernel⟩
theorem ok_lnum {f : Addr} {fd : FuncData} (F : Fun K "_law_read_ending" "_law_read_ending" s_lnum f fd) (B : Bls mg) : FnOk P w K mg base (CXW P w) 1 f fd ["bits", "at"] (spLNum54) := by
  refine F.okN sc_lnum (fun vs H Q E h => ?_) (fun cdv A outer s H vs Q E hr h => ?_)
  · obtain ⟨a, bs, i, rfl, _⟩ := h
    rfl
  · obtain ⟨a, bs, i, rfl, ha, hbits, hl, hi3, hN, hQ⟩ := h
    refine ⟨_, (pss_cons (ps_set (i := 2) sc_lnum.nd rfl (Or.inl rfl) pe_int)
      (pss_cons (ps_while PassesOwn.never (PW.pt (pw_and (pt_cmpR op_lt (pe_op op_add (pv 1) (pv 2)) (pe_callB call_len_seq rfl B.len PySem.boot_len (pa_cons (pv 0) pa_nil)) (nomark _)) (pw_and1 (pt_cmpR op_eq (pe_ix ix_list (pv 0) (pe_op op_add (pv 1) (pv 2)) (fun _ _ => rfl)) pe_int (nomark _)))))
        (pss_one (ps_set (i := 2) sc_lnum.nd rfl (Or.inl rfl) (pe_op op_add (pv 2) pe_int))))
      (pss_cons (ps_set (i := 3) sc_lnum.nd rfl (Or.inl rfl) (pe_op op_add (pe_op op_add (pv 1) (pe_op op_mul pe_int (pv 2))) pe_int))
      (pss_cons (ps_if (pt_cmpR op_gt (pv 3) (pe_callB call_len_seq rfl B.len PySem.boot_len (pa_cons (pv 0) pa_nil)) (nomark _))
        (pss_one (ps_ret pe_non))
        pss_nil)
      (pss_cons (ps_set (i := 4) sc_lnum.nd rfl (Or.inl rfl) pe_int)
      (pss_cons (ps_for PassesOwn.never rfl (pi_list (pe_slice sl_list (pv 0) (po_some (pe_op op_add (pv 1) (pv 2))) (po_some (pv 3)))) (pg_name (i := 5) sc_lnum.nd rfl (Or.inl rfl))
        (pss_one (ps_set (i := 4) sc_lnum.nd rfl (Or.inl rfl) (pe_op op_add (pe_op op_mul pe_int (pv 4)) (pv 5)))))
      (pss_one (ps_ret (pe_tup (pa_cons (pv 4) (pa_cons (pv 3) pa_nil))))))))))), ?_⟩
    refine sqMidY (fun σ' H' => σ' = [some (.ref a), some (.int (i : Nat)), some (.int 0), none, none, none] ∧ H' = H) ?_ ?_
    rotate_left
    · exact fun N hN => hN _ _ ⟨rfl, rfl⟩
    rintro σ' H0 ⟨rfl, rfl⟩
    try dsimp only
    refine sqMidY (fun σ' H' => ∃ (j : Nat), σ' = [some (.ref a), some (.int (i : Nat)), some (.int (j : Nat)), none, none, none] ∧ H' = H0 ∧ i + j ≤ 60000 ∧ ((firstOne (bs.drop i) = none ∧ bs.length ≤ i + j) ∨ firstOne (bs.drop i) = some j)) ?_ ?_
    rotate_left
    · intro N hN
      refine ⟨fun m σ H' => ∃ j : Nat, m = bs.length - (i + j) ∧ σ = [some (.ref a), some (.int (i : Nat)), some (.int (j : Nat)), none, none, none] ∧ H' = H0 ∧ (j = 0 ∨ i + j ≤ bs.length) ∧ firstOne (bs.drop i) = (firstOne (bs.drop (i + j))).map (· + j), ⟨_, 0, rfl, rfl, rfl, .inl rfl, ?_⟩, ?_⟩
      · rw [Nat.add_zero]
        cases firstOne (bs.drop i) with
        | none => rfl
        | some d => rfl
      rintro m σ H' ⟨j, rfl, rfl, rfl, hj, hfo⟩
      refine ⟨_, rfl, _, rfl, _, _, rfl, rfl, _, rfl, a, _, rfl, .inl (SqL.of ha), _, _, rfl, rfl, _, rfl, ?_⟩
      rw [List.length_map]
      by_cases hlt : i + j < bs.length
      rotate_left
      · rw [decide_eq_false (show ¬ ((i : Nat) : Int) + ((j : Nat) : Int) < ((bs.length : Nat) : Int) by trivial)]
        refine iteF ?_
        rw [firstOne_end (k := i + j) (by trivial)] at hfo
        exact iteF (hN _ _ ⟨j, rfl, rfl, by trivial, .inl ⟨hfo, by trivial⟩⟩)
      rw [decide_eq_true (show ((i : Nat) : Int) + ((j : Nat) : Int) < ((bs.length : Nat) : Int) by trivial)]
      refine iteT ?_
      obtain ⟨z, hz⟩ : ∃ z, bs[i + j]? = some z := ⟨_, List.getElem?_eq_getElem hlt⟩
      refine ⟨_, rfl, _, rfl, _, rfl, _, _, rfl, rfl, a, _, ((i + j : Nat) : Int), _, rfl, rfl, SqL.of ha, at_ints hz, rfl, _, rfl, ?_⟩
      rw [firstOne_step hz] at hfo
      rcases hbits z (List.mem_of_getElem? hz) with rfl | rfl
      · refine iteT ?_
        refine ⟨fun σ' H'' => ∃ m', m' < bs.length - (i + j) ∧ ∃ j : Nat, m' = bs.length - (i + j) ∧ σ' = [some (.ref a), some (.int (i : Nat)), some (.int (j : Nat)), none, none, none] ∧ H'' = H' ∧ (j = 0 ∨ i + j ≤ bs.length) ∧ firstOne (bs.drop i) = (firstOne (bs.drop (i + j))).map (· + j), fun σ' H'' z => z, ?_⟩
        refine ⟨_, rfl, _, _, rfl, rfl, ?_⟩
        refine ⟨_, ?_, j + 1, rfl, rfl, rfl, .inr (by trivial), ?_⟩
        · trivial
        · rw [hfo, if_neg (by decide), show i + (j + 1) = i + j + 1 by trivial]
          cases firstOne (bs.drop (i + j + 1)) with
          | none => rfl
          | some d => show some (d + 1 + j) = some (d + (j + 1)); congr 1; trivial
      · refine iteF ?_
        rw [if_pos rfl] at hfo
        refine hN _ _ ⟨j, rfl, rfl, by trivial, .inr ?_⟩
        rw [hfo]; show some (0 + j) = some j; rw [Nat.zero_add]
    rintro σ' H' ⟨j, rfl, rfl, hj6, hj⟩
    refine ⟨_, rfl, _, rfl, _, _, rfl, rfl, .inl ⟨by decide, by decide⟩, _, _, rfl, rfl, _, _, rfl, rfl, ?_⟩
    refine gNx (v' := V.int ((i + j + j + 1 : Nat) : Int)) (congrArg V.int (by trivial)) ?_
    refine ⟨_, rfl, _, rfl, a, _, rfl, .inl (SqL.of ha), _, _, rfl, rfl, _, rfl, ?_⟩
    rw [List.length_map]
    by_cases hlen : bs.length < i + j + j + 1
    · rw [decide_eq_true (show ((bs.length : Nat) : Int) < ((i + j + j + 1 : Nat) : Int) by trivial)]
      refine iteT ?_
      refine hN ?_
      unfold readE
      rw [if_neg (by trivial), Int.toNat_natCast]
      rcases hj with ⟨h, _⟩ | h
      · rw [h]
      · rw [h]
        show (if bs.length < i + j + j + 1 then none else _) = none
        rw [if_pos (by trivial)]
    rw [decide_eq_false (show ¬ ((bs.length : Nat) : Int) < ((i + j + j + 1 : Nat) : Int) by trivial)]
    refine iteF ?_
    have hf : firstOne (bs.drop i) = some j := by
      rcases hj with ⟨_, h⟩ | h
      · trivial
      · exact h
    have eR : readE bs (i : Nat) = some (worth ((bs.drop (i + j)).take (j + 1)), i + j + j + 1) := by
      unfold readE
      rw [if_neg (by trivial), Int.toNat_natCast, hf]
      show (if bs.length < i + j + j + 1 then none else _) = _
      rw [if_neg (by trivial)]
    refine ⟨_, rfl, _, rfl, _, rfl, _, _, rfl, rfl, _, rfl, _, rfl, _, rfl, a, _, rfl, SqL.of ha, fun W hW => ?_⟩
    have ec : HO.lst (cutV (bs.map V.int) (some (((i : Nat) : Int) + ((j : Nat) : Int))) (some ((i + j + j + 1 : Nat) : Int))) = lsI ((bs.drop (i + j)).take (j + 1)) := by
      rw [show ((i : Nat) : Int) + ((j : Nat) : Int) = ((i + j : Nat) : Int) by trivial, cut_two, show i + j + j + 1 - (i + j) = j + 1 by trivial]; rfl
    try dsimp -proj only
    rw [ec]
    generalize (bs.drop (i + j)).take (j + 1) = ws at eR ⊢
    have u1 := same_new hW (lsI ws)
    have e1 : upd H' W (lsI ws) W = some (lsI ws) := upd_same
    generalize upd H' W (lsI ws) = H1 at u1 e1 ⊢
    refine ⟨W, rfl, ⟨_, SqL.of e1⟩, for_list (K := K) (a := W) (xs := ws.map V.int) (fun k σ H2 => ∃ (v4 : Option V), σ = [some (.ref a), some (.int (i : Nat)), some (.int (j : Nat)), some (.int ((i + j + j + 1 : Nat) : Int)), some (.int (worth (ws.take k))), v4] ∧ H2 = H1)
      ⟨none, by rw [List.take_zero]; rfl, rfl⟩ (fun k σ H2 _ ⟨_, _, e⟩ => by rw [e]; exact SqL.of e1) ?_ ?_⟩
    · rintro k y σ H2 hk ⟨v4, rfl, rfl⟩
      obtain ⟨z, rfl, hz⟩ := int_at hk
      refine ⟨_, rfl, _, _, rfl, rfl, .inl ⟨by trivial, by trivial⟩, _, rfl, _, _, rfl, rfl, ?_⟩
      refine ⟨some (.int z), ?_, rfl⟩
      rw [take_at hz, worth_snoc, show worth (ws.take k) + worth (ws.take k) + z = 2 * worth (ws.take k) + z by trivial]
      rfl
    rintro σ H2 ⟨v4, rfl, rfl⟩
    rw [List.length_map, List.take_length]
    refine ⟨_, rfl, _, rfl, (by show 2 ≤ sizeLine; decide), fun t ht => ?_⟩
    exact hQ _ _ eR t _ (u1.trans (same_new ht _)) (u1.free ht) upd_same
end
end K63
set_option Elab.async false
set_option linter.all false
set_option maxRecDepth 100000
set_option maxHeartbeats 4000000
namespace K63
open PySem L2 PySem.W PH
section
variable {P : Program} {w : World} {K : PySem.W.Frag} {mg : Str → Option Value} {base : Heap}
theorem sc_lrow : FnScope ["bits", "at", "many", "numbers", "place", "told"] ["bits", "at"] (defScope s_lrow) := ⟨rfl, rfl, rfl, by decide +kernel, rfl, by decide +kernel, by decide +kernel⟩
theorem ok_lrow {f f_lnum : Addr} {fd d_lnum : FuncData} (F : Fun K "_law_read_row" "_law_read_row" s_lrow f fd) (B : Bls mg) 
    (G_lnum : FnOk P w K mg base (CXW P w) 1 f_lnum d_lnum ["bits", "at"] (spLNum54)) (b_lnum : Binds K d_lnum ["bits", "at"] []) (k_lnum : keepIn K (.ref f_lnum) = true) (m_lnum : mg "_law_read_ending" = some (.ref f_lnum)) : FnOk P w K mg base (CXW P w) 2 f fd ["bits", "at"] (spLRow54) := by
  refine F.okN sc_lrow (fun vs H Q E h => ?_) (fun cdv A outer s H vs Q E hr h => ?_)
  · obtain ⟨a, bs, i, rfl, _⟩ := h
    rfl
  · obtain ⟨a, bs, i, rfl, ha, hbits, hl, hi3, hN, hQ⟩ := h
    refine ⟨_, (pss_cons (ps_set (i := 2) sc_lrow.nd rfl (Or.inl rfl) (pe_call G_lnum hr rfl m_lnum k_lnum b_lnum .nil passN (pa_cons (pv 0) (pa_cons (pv 1) pa_nil))))
      (pss_cons (ps_if (pt_cmp (pc_isN (pv 2)))
        (pss_one (ps_ret pe_non))
        pss_nil)
      (pss_cons (ps_set (i := 3) sc_lrow.nd rfl (Or.inl rfl) (pe_lst pa_nil))
      (pss_cons (ps_set (i := 4) sc_lrow.nd rfl (Or.inl rfl) (pe_ix ix_tup (pv 2) pe_int (fun _ _ => rfl)))
      (pss_cons (ps_while PassesOwn.never (pt_cmpR op_lt (pe_callB call_len_seq rfl B.len PySem.boot_len (pa_cons (pv 3) pa_nil)) (pe_op op_sub (pe_ix ix_tup (pv 2) pe_int (fun _ _ => rfl)) pe_int) (nomark _))
        (pss_cons (ps_set (i := 5) sc_lrow.nd rfl (Or.inl rfl) (pe_call G_lnum hr rfl m_lnum k_lnum b_lnum .nil passN (pa_cons (pv 0) (pa_cons (pv 4) pa_nil))))
        (pss_cons (ps_if (pt_cmp (pc_isN (pv 5)))
          (pss_one (ps_ret pe_non))
          pss_nil)
        (pss_cons (ps_expr (pe_bm PySem.F.plainAttrs_list PySem.F.slot_list_append PySem.F.type_list_append mt_append (pv 3) (pa_cons (pe_op op_sub (pe_ix ix_tup (pv 5) pe_int (fun _ _ => rfl)) pe_int) pa_nil)))
        (pss_one (ps_set (i := 4) sc_lrow.nd rfl (Or.inl rfl) (pe_ix ix_tup (pv 5) pe_int (fun _ _ => rfl))))))))
      (pss_one (ps_ret (pe_tup (pa_cons (pv 3) (pa_cons (pv 4) pa_nil)))))))))), ?_⟩
    try dsimp only
    refine sqMidY (fun σ' H' => ∃ v : V, σ' = [some (.ref a), some (.int (i : Nat)), some v, none, none, none] ∧ Same H H' ∧ ((v = .non ∧ readE bs (i : Nat) = none) ∨ ∃ (t : Addr) (mm : Int) (b : Nat), v = .ref t ∧ readE bs (i : Nat) = some (mm, b) ∧ H' t = some (.tup [.int mm, .int (b : Nat)]))) ?_ ?_
    rotate_left
    · intro N hNx
      exact ⟨_, rfl, _, rfl, a, bs, i, rfl, ha, hbits, hl, hi3, (fun h => hNx _ _ ⟨_, rfl, Same.refl _, .inl ⟨rfl, h⟩⟩), fun mm b h t H' s htn ht => hNx _ _ ⟨_, rfl, s, .inr ⟨t, mm, b, rfl, h, ht⟩⟩⟩
    rintro σ' H1 ⟨v, rfl, s1, hv⟩
    rcases hv with ⟨rfl, hno⟩ | ⟨t, mm, b, rfl, e, ht1⟩
    · refine ⟨_, rfl, _, rfl, ?_⟩
      refine iteT ?_
      exact hN (readRow_none hno) H1 s1
    refine ⟨_, rfl, _, rfl, ?_⟩
    refine iteF ?_
    obtain ⟨i0, ib, bl⟩ := readE_le e
    refine ⟨(by show 0 ≤ sizeLine; decide), fun nl hnl => ?_⟩
    have hnt : t ≠ nl := ne_of_none ht1 hnl
    have ht2 : upd H1 nl (.lst []) t = some (.tup [.int mm, .int (b : Nat)]) := by rw [upd_ne hnt]; exact ht1
    refine ⟨_, rfl, t, _, 1, _, rfl, rfl, SqT.of ht2, rfl, ?_⟩
    have e0 : readRow bs (i : Nat) = readN (mm - 1).toNat bs b := by unfold readRow; rw [e]
    refine ⟨fun m σ H' => ∃ (xs : List Int) (bb : Nat) (fv : Option V), m = bs.length - bb ∧ σ = [some (.ref a), some (.int (i : Nat)), some (.ref t), some (.ref nl), some (.int bb), fv] ∧ H' nl = some (lsI xs) ∧ Same H1 H' ∧ bb ≤ bs.length ∧ xs.length ≤ bb ∧ xs.length ≤ (mm - 1).toNat ∧ readRow bs (i : Nat) = (readN ((mm - 1).toNat - xs.length) bs bb).map fun r => (xs ++ r.1, r.2),
      ⟨bs.length - b, [], b, none, rfl, rfl, upd_same, same_new hnl _, bl, Nat.zero_le _, Nat.zero_le _, ?_⟩, ?_⟩
    · rw [e0]
      show _ = (readN (mm - 1).toNat bs b).map _
      cases readN (mm - 1).toNat bs b with
      | none => rfl
      | some r => rfl
    rintro m σ H' ⟨xs, bb, fv, rfl, rfl, hnl', s2, hbb, hxb, hxm, hrr⟩
    refine ⟨_, rfl, nl, _, rfl, .inl (SqL.of hnl'), _, rfl, t, _, 0, _, rfl, rfl, SqT.of (s2 _ _ ht1), rfl, _, _, rfl, rfl, _, _, rfl, rfl, _, rfl, ?_⟩
    rw [len_lsI]
    have hH1 : Same H H' := s1.trans s2
    refine ite2 (fun c => ?_) (fun c => ?_)
    · have c' : (xs.length : Int) < mm - 1 := of_decide_eq_true c
      obtain ⟨k, hk⟩ : ∃ k, (mm - 1).toNat - xs.length = k + 1 := ⟨(mm - 1).toNat - xs.length - 1, by trivial⟩
      rw [hk] at hrr
      refine ⟨fun σ' H'' => ∃ m', m' < bs.length - bb ∧ ∃ (xs : List Int) (bb : Nat) (fv : Option V), m' = bs.length - bb ∧ σ' = [some (.ref a), some (.int (i : Nat)), some (.ref t), some (.ref nl), some (.int bb), fv] ∧ H'' nl = some (lsI xs) ∧ Same H1 H'' ∧ bb ≤ bs.length ∧ xs.length ≤ bb ∧ xs.length ≤ (mm - 1).toNat ∧ readRow bs (i : Nat) = (readN ((mm - 1).toNat - xs.length) bs bb).map fun r => (xs ++ r.1, r.2), fun σ' H'' z => z, ?_⟩
      try dsimp only
      refine sqMidY (fun σ' H'' => ∃ v : V, σ' = [some (.ref a), some (.int (i : Nat)), some (.ref t), some (.ref nl), some (.int bb), some v] ∧ Same H' H'' ∧ ((v = .non ∧ readE bs (bb : Nat) = none) ∨ ∃ (t2 : Addr) (n' : Int) (b' : Nat), v = .ref t2 ∧ readE bs (bb : Nat) = some (n', b') ∧ H'' t2 = some (.tup [.int n', .int (b' : Nat)]))) ?_ ?_
      rotate_left
      · intro N hNx
        exact ⟨_, rfl, _, rfl, a, bs, bb, rfl, hH1 _ _ ha, hbits, hl, by trivial, (fun h => hNx _ _ ⟨_, rfl, Same.refl _, .inl ⟨rfl, h⟩⟩), fun mm b h t H' s htn ht => hNx _ _ ⟨_, rfl, s, .inr ⟨t, mm, b, rfl, h, ht⟩⟩⟩
      rintro σ' H3 ⟨v, rfl, s3, hv⟩
      rcases hv with ⟨rfl, hno⟩ | ⟨t2, n', b', rfl, e2, ht3⟩
      · refine ⟨_, rfl, _, rfl, ?_⟩
        refine iteT ?_
        rw [readN_stop hno] at hrr
        exact hN hrr H3 (hH1.trans s3)
      refine ⟨_, rfl, _, rfl, ?_⟩
      refine iteF ?_
      obtain ⟨_, lt2, le2⟩ := readE_le e2
      have hn3 := s3 _ _ hnl'
      have hnt2 : nl ≠ t2 := fun z => by rw [← z, hn3] at ht3; cases ht3
      refine ⟨_, rfl, .inl ⟨rfl, _, SqL.of hn3⟩, _, rfl, t2, _, 0, _, rfl, rfl, SqT.of ht3, rfl, _, _, rfl, rfl, nl, _, _, rfl, rfl, hn3, fits_lt (by rw [len_lsI]; trivial), ?_⟩
      refine ⟨_, rfl, t2, _, 1, _, rfl, rfl, SqT.of (by rw [upd_ne hnt2.symm]; exact ht3), rfl, ?_⟩
      refine ⟨bs.length - b', by trivial, xs ++ [n' - 1], b', _, rfl, rfl, ?_, same_upd (s2.trans s3) _ hnl, le2, ?_, ?_, ?_⟩
      · rw [upd_same, lsI_app1]
      · rw [List.length_append, List.length_singleton]; trivial
      · rw [List.length_append, List.length_singleton]; trivial
      · rw [hrr, readN_step e2, List.length_append, List.length_singleton, show (mm - 1).toNat - (xs.length + 1) = k by trivial]
        cases readN k bs b' with
        | none => rfl
        | some r => simp
    · have c' : ¬ (xs.length : Int) < mm - 1 := fun z => c (decide_eq_true z)
      rw [show (mm - 1).toNat - xs.length = 0 by trivial] at hrr
      have hrr2 : readRow bs (i : Nat) = some (xs, bb) := by rw [hrr]; show some (xs ++ [], bb) = _; rw [List.append_nil]
      refine ⟨_, rfl, _, rfl, (by show 2 ≤ sizeLine; decide), fun tt htt => ?_⟩
      exact hQ _ _ hrr2 tt nl _ (hH1.trans (same_new htt _)) (s1.free hnl) (by rw [upd_ne (ne_of_none hnl' htt)]; exact hnl') upd_same
end
end K63
set_option Elab.async false
set_option linter.all false
set_option maxRecDepth 100000
set_option maxHeartbeats 4000000
namespace K63
open PySem L2 PySem.W PH
section
variable {P : Program} {w : World} {K : PySem.W.Frag} {mg : Str → Option Value} {base : Heap}
theorem sc_blk : FnScope ["state", "way"] ["state"] (defScope s_blk) := ⟨rfl, rfl, rfl, by decide +kernel, rfl, by decide +kernel, by decide +kernel⟩
theorem ok_blk {f f_draw : Addr} {fd d_draw : FuncData} (F : Fun K "_law_block" "_law_block" s_blk f fd) (B : Bls mg) 
    (G_draw : FnOk P w K mg base (CXW P w) 1 f_draw d_draw ["state", "many"] (spDraw63)) (b_draw : Binds K d_draw ["state", "many"] []) (k_draw : keepIn K (.ref f_draw) = true) (m_draw : mg "_law_draw" = some (.ref f_draw)) : FnOk P w K mg base (CXW P w) 2 f fd ["state"] (spBlk63) := by
  refine F.okN sc_blk (fun vs H Q E h => ?_) (fun cdv A outer s H vs Q E hr h => ?_)
  · obtain ⟨p, n, rfl, _⟩ := h
    rfl
  · obtain ⟨p, n, rfl, sd, hn, hQ⟩ := h
    refine ⟨_, (pss_cons (ps_set (i := 1) sc_blk.nd rfl (Or.inl rfl) (pe_ix ix_list (pe_lst (pa_cons (pe_call G_draw hr rfl m_draw k_draw b_draw .nil passN (pa_cons (pv 0) (pa_cons pe_int pa_nil))) (pa_cons (pe_call G_draw hr rfl m_draw k_draw b_draw .nil passN (pa_cons (pv 0) (pa_cons (pe_op op_pow pe_int pe_int) pa_nil))) pa_nil))) (pe_call G_draw hr rfl m_draw k_draw b_draw .nil passN (pa_cons (pv 0) (pa_cons pe_int pa_nil))) (fun _ _ => rfl)))
      (pss_one (ps_ret (pe_tup (pa_cons (pv 1) (pa_cons (pe_comp (N := ["k", "state"]) (js := [none, some 0]) (g := (gName 0)) (tc := tTrue) (te := (tCall (spDraw63) [] E0 (tCons (tVar 1) (tCons (tC (.int 2)) tNil)))) rfl (comp_scope (osc := defScope s_blk) (XN := ["state", "way"]) rfl rfl rfl (by decide +kernel)) (pi_range1 rfl B.range (pa_cons (pe_call G_draw hr rfl m_draw k_draw b_draw .nil passN (pa_cons (pv 0) (pa_cons pe_int pa_nil))) pa_nil)) (fun _ _ _ _ => pg_name (i := 0) (show (["k", "state"] : List Str).Nodup by decide +kernel) rfl (Or.inl rfl)) (fun _ _ _ _ => pif_nil) (fun _ _ _ _ => (pe_call G_draw hr rfl m_draw k_draw b_draw .nil passN (pa_cons (pv 1) (pa_cons pe_int pa_nil))))) pa_nil)))))), ?_⟩
    refine ⟨_, rfl, p, n, 6, rfl, sd, (by trivial), (by decide), (by decide), fun r H1 r0 r1 sd1 kb1 => ?_⟩
    refine ⟨_, rfl, _, _, rfl, rfl, ⟨by decide, by decide, by decide⟩, p, n + 1, _, rfl, sd1, by trivial, by decide, by decide, fun s H2 s0 s1 sd2 kb2 => ?_⟩
    have s1' : s < 1000000 := s1
    refine ⟨(by show 2 ≤ sizeLine; decide), fun l1 hl1 => ?_⟩
    have nl1 : l1 ≠ p := (sd2.ne hl1).symm
    have uc := same_new hl1 (.lst [V.int r, V.int s])
    have ec : upd H2 l1 (.lst [V.int r, V.int s]) l1 = some (.lst [V.int r, V.int s]) := upd_same
    have sd3 := sd2.same uc
    have kb3 := (kb1.trans kb2).trans (Kb.of uc)
    generalize upd H2 l1 (.lst [V.int r, V.int s]) = H3 at uc ec sd3 kb3 ⊢
    refine ⟨_, rfl, p, n + 1 + 1, 2, rfl, sd3, (by trivial), (by decide), (by decide), fun x H4 x0 x1 sd4 kb4 => ?_⟩
    obtain ⟨w, hw, hw0, hw1⟩ : ∃ m : Int, atI [V.int r, V.int s] x = some (.int m) ∧ 0 ≤ m ∧ m ≤ 1000000 := by
      have hx : x = 0 ∨ x = 1 := by trivial
      rcases hx with rfl | rfl
      · exact ⟨r, rfl, by trivial, by trivial⟩
      · exact ⟨s, rfl, by trivial, by trivial⟩
    refine ⟨l1, _, _, _, rfl, rfl, SqL.of (kb4 _ _ nl1 ec), hw, ?_⟩
    have kb4 := kb3.trans kb4
    refine ⟨_, rfl, _, rfl, p, n + 1 + 1 + 1, 31, rfl, sd4, by trivial, by decide, by decide, fun lg H5 lg0 lg1 sd5 kb5 => ?_⟩
    obtain ⟨lg, rfl⟩ : ∃ k : Nat, lg = (k : Int) := ⟨lg.toNat, by trivial⟩
    refine ⟨_, rfl, by trivial, by trivial, fun D hD => ?_⟩
    rw [Int.toNat_natCast]
    have nD : D ≠ p := (sd5.ne hD).symm
    refine comp_rngQ (fun i σ' H' => ∃ (v0 : Option V) (ks : List Int), σ' = [v0, some (.ref p)] ∧ H' D = some (lsI ks) ∧ ks.length = i ∧ isBits ks ∧ SD (n + 1 + 1 + 1 + 1 + (i : Int)) p H' ∧ Kb p H5 H')
      ⟨none, [], rfl, upd_same, rfl, (fun _ z => by cases z), (sd5.same (same_new hD _)).mono (by trivial), Kb.of (same_new hD _)⟩ ?_ ?_
    · rintro i σ' H' hi ⟨v0, ks, rfl, hD', hkl, hkb, sd', kb'⟩
      refine nameT ?_
      refine ⟨_, rfl, p, n + 1 + 1 + 1 + 1 + (i : Int), 2, rfl, sd', by trivial, by decide, by decide, fun z H9 z0 z1 sd9 kb9 => ?_⟩
      refine ⟨D, _, _, rfl, rfl, kb9 _ _ nD hD', fits_lt (by rw [List.length_map]; trivial), ?_⟩
      refine CW.next hi ⟨_, ks ++ [z], rfl, by rw [upd_same, lsI_app1], by rw [List.length_append, List.length_singleton]; trivial, isBits_app hkb fun x hx => ?_, (sd9.up nD.symm).mono (by trivial), (kb'.trans kb9).new _ hD⟩
      rw [List.mem_singleton.mp hx]; trivial
    rintro σ' H6 ⟨v0, bh, rfl, hD6, hbl2, hbb, sd6, kb6⟩
    have kb5 := kb4.trans kb5
    have hDn : H D = none := sd5.free kb5 hD
    refine ⟨(by show 2 ≤ sizeLine; decide), fun t ht => ?_⟩
    have u7 := same_new ht (.tup [.int w, .ref D])
    exact hQ t D w bh _ ((kb5.trans kb6).trans (Kb.of u7)) hDn upd_same (u7 _ _ hD6) hw0 hw1 (by trivial) hbb
end
end K63
set_option Elab.async false
set_option linter.all false
set_option maxRecDepth 100000
set_option maxHeartbeats 4000000
namespace K63
open PySem L2 PySem.W PH
section
variable {P : Program} {w : World} {K : PySem.W.Frag} {mg : Str → Option Value} {base : Heap}
theorem sc_cont : FnScope ["script", "first", "size", "total", "blocks"] ["script"] (defScope s_cont) := ⟨rfl, rfl, rfl, by decide +kernel, rfl, by decide +kernel, by decide +kernel⟩
theorem ok_cont {f f_state f_lfirst f_blk : Addr} {fd d_state d_lfirst d_blk : FuncData} (F : Fun K "_law_container" "_law_container" s_cont f fd) (B : Bls mg) 
    (G_state : FnOk P w K mg base (CXW P w) 1 f_state d_state ["script", "k"] (spState K)) (b_state : Binds K d_state ["script", "k"] []) (k_state : keepIn K (.ref f_state) = true) (m_state : mg "_law_state" = some (.ref f_state)) 
    (G_lfirst : FnOk P w K mg base (CXW P w) 1 f_lfirst d_lfirst ["script"] (spFirst63 K)) (b_lfirst : Binds K d_lfirst ["script"] []) (k_lfirst : keepIn K (.ref f_lfirst) = true) (m_lfirst : mg "_law_first" = some (.ref f_lfirst)) 
    (G_blk : FnOk P w K mg base (CXW P w) 2 f_blk d_blk ["state"] (spBlk63)) (b_blk : Binds K d_blk ["state"] []) (k_blk : keepIn K (.ref f_blk) = true) (m_blk : mg "_law_block" = some (.ref f_blk)) : FnOk P w K mg base (CXW P w) 3 f fd ["script"] (spCont63 K) := by
  refine F.okN sc_cont (fun vs H Q E h => ?_) (fun cdv A outer s H vs Q E hr h => ?_)
  · obtain ⟨a, ns, rfl, _⟩ := h
    rfl
  · obtain ⟨a, ns, rfl, hS, hQ⟩ := h
    refine ⟨_, (pss_cons (ps_set (i := 1) sc_cont.nd rfl (Or.inl rfl) (pe_call G_lfirst (hr.mono (show 1 ≤ 2 by decide)) rfl m_lfirst k_lfirst b_lfirst .nil passN (pa_cons (pv 0) pa_nil)))
      (pss_cons (ps_set (i := 2) sc_cont.nd rfl (Or.inl rfl) (pe_op op_add pe_int (pe_op op_mod (pv 1) pe_int)))
      (pss_cons (ps_set (i := 3) sc_cont.nd rfl (Or.inl rfl) (pe_op op_mod (pe_op op_fdiv (pv 1) pe_int) pe_int))
      (pss_cons (ps_set (i := 3) sc_cont.nd rfl (Or.inl rfl) (pe_callB (call_min2 rfl) rfl B.min boot_min' (pa_cons (pv 3) (pa_cons (pe_op op_mul pe_int (pv 2)) pa_nil))))
      (pss_cons (ps_set (i := 4) sc_cont.nd rfl (Or.inr rfl) (pe_comp (N := ["k", "script"]) (js := [none, some 0]) (g := (gName 0)) (tc := tTrue) (te := (tCall (spBlk63) [] E0 (tCons (tCall (spState K) [] E0 (tCons (tVar 1) (tCons (tOp (rI0 fun i j => .int (i + j)) (tC (.int 2)) (tVar 0)) tNil))) tNil))) rfl (comp_scope (osc := defScope s_cont) (XN := ["script", "first", "size", "total", "blocks"]) rfl rfl rfl (by decide +kernel)) (pi_range1 rfl B.range (pa_cons (pe_op op_fdiv (pe_op op_sub (pe_op op_add (pv 3) (pv 2)) pe_int) (pv 2)) pa_nil)) (fun _ _ _ _ => pg_name (i := 0) (show (["k", "script"] : List Str).Nodup by decide +kernel) rfl (Or.inl rfl)) (fun _ _ _ _ => pif_nil) (fun _ _ _ _ => (pe_call G_blk hr rfl m_blk k_blk b_blk .nil passN (pa_cons (pe_call G_state (hr.mono (show 1 ≤ 2 by decide)) rfl m_state k_state b_state .nil passN (pa_cons (pv 1) (pa_cons (pe_op op_add pe_int (pv 0)) pa_nil))) pa_nil)))))
      (pss_cons (ps_if (pt_cmpR op_eq (pe_op op_mod (pe_op op_fdiv (pv 1) pe_int) pe_int) pe_int (nomark _))
        (pss_one (ps_set (i := 4) sc_cont.nd rfl (Or.inr rfl) (pe_comp (N := ["way", "bits", "blocks"]) (js := [none, none, some 4]) (g := (gTup K 2 (gCons (gName 0) (gCons (gName 1) gNil)))) (tc := tTrue) (te := (tTup (tCons (tVar 0) (tCons (tCB (rListOf K) (tCons (tOp (rIxT K) (tOp (rIxL K) (tVar 2) (tC (.int 0))) (tC (.int 1))) tNil)) tNil)))) rfl (comp_scope (osc := defScope s_cont) (XN := ["script", "first", "size", "total", "blocks"]) rfl rfl rfl (by decide +kernel)) (pi_list (pv 4)) (fun _ _ _ _ => (pg_tup rfl (pgs_cons (pg_name (i := 0) (show (["way", "bits", "blocks"] : List Str).Nodup by decide +kernel) rfl (Or.inl rfl)) (pgs_cons (pg_name (i := 1) (show (["way", "bits", "blocks"] : List Str).Nodup by decide +kernel) rfl (Or.inl rfl)) pgs_nil)))) (fun _ _ _ _ => pif_nil) (fun _ _ _ _ => (pe_tup (pa_cons (pv 0) (pa_cons (pe_callTy call_list_of rfl B.list boot_list' (pa_cons (pe_ix ix_tup (pe_ix ix_list (pv 2) pe_int (fun _ _ => rfl)) pe_int (fun _ _ => rfl)) pa_nil)) pa_nil)))))))
        pss_nil)
      (pss_one (ps_ret (pe_tup (pa_cons (pv 2) (pa_cons (pv 3) (pa_cons (pv 4) pa_nil)))))))))))), ?_⟩
    refine ⟨_, rfl, a, ns, rfl, hS, fun f H1 s1 => ?_⟩
    obtain ⟨sz, esz, hs1, hs2⟩ : ∃ x : Int, x = 1 + f % 64 ∧ 1 ≤ x ∧ x ≤ 64 := ⟨_, rfl, by trivial, by trivial⟩
    refine ⟨_, rfl, _, _, rfl, rfl, (by show (0 : Int) < 64; decide), _, _, rfl, rfl, ?_⟩
    refine gNx (v' := V.int sz) (congrArg V.int esz) ?_
    obtain ⟨t0, et0, ht0, ht1⟩ : ∃ x : Int, x = f / 64 % 401 ∧ 0 ≤ x ∧ x ≤ 400 := ⟨_, rfl, by trivial, by trivial⟩
    refine ⟨_, rfl, _, _, rfl, rfl, ⟨by decide, by decide⟩, _, _, rfl, rfl, (by show (0 : Int) < 401; decide), ?_⟩
    refine gNx (v' := V.int t0) (congrArg V.int et0) ?_
    refine ⟨_, rfl, _, rfl, _, _, rfl, rfl, .inl ⟨by decide, by decide⟩, _, _, rfl, ?_⟩
    obtain ⟨tot, etot, htt0, htt1, htt2⟩ : ∃ x : Int, x = (if 40 * sz < t0 then 40 * sz else t0) ∧ 0 ≤ x ∧ x ≤ 400 ∧ x ≤ 40 * sz := by
      refine ⟨_, rfl, ?_, ?_, ?_⟩
      all_goals (split <;> trivial)
    refine gNx (v' := V.int tot) (congrArg V.int etot) ?_
    clear etot et0 esz
    obtain ⟨nb, enb, hnb⟩ : ∃ m : Nat, (tot + sz - 1) / sz = (m : Int) ∧ m ≤ 40 := by
      have h0 : 0 ≤ (tot + sz - 1) / sz := Int.ediv_nonneg (by trivial) (by trivial)
      have h1 : (tot + sz - 1) / sz < 41 := (Int.ediv_lt_iff_lt_mul (by trivial)).mpr (by trivial)
      exact ⟨((tot + sz - 1) / sz).toNat, by trivial, by trivial⟩
    have hok : ∀ n : Nat, n = nb → isCn sz tot n = true := fun n e => by
      unfold isCn
      rw [decide_eq_true hs1, decide_eq_true hs2, decide_eq_true htt0, decide_eq_true htt1, decide_eq_true (show ((n : Nat) : Int) = (tot + sz - 1) / sz by rw [enb, e])]; rfl
    have hS1 := s1.seq hS
    refine ⟨_, rfl, _, rfl, _, _, rfl, rfl, _, _, rfl, rfl, _, rfl, _, _, rfl, rfl, ⟨by trivial, by trivial⟩, (nb : Int), congrArg (fun y => [V.int y]) enb, by trivial, by trivial, fun D hD => ?_⟩
    rw [Int.toNat_natCast]
    refine comp_rngQ (fun i σ' H' => ∃ (v0 : Option V) (bs : List BL), σ' = [v0, some (.ref a)] ∧ Wrs H' D bs ∧ bs.length = i ∧ (∀ b ∈ bs, b.2.2.1 ≠ D ∧ 0 ≤ b.2.1 ∧ b.2.1 ≤ 1000000 ∧ b.2.2.2.length ≤ 40 ∧ isBits b.2.2.2) ∧ Same H1 H')
      ⟨none, [], rfl, ⟨upd_same, (fun _ z => by cases z)⟩, rfl, (fun _ z => by cases z), same_new hD _⟩ ?_ ?_
    · rintro i σ' H' hi ⟨v0, bs, rfl, wr, hbl, hg, sm⟩
      rw [Int.zero_add]
      refine nameT ?_
      refine ⟨_, rfl, _, rfl, _, _, rfl, rfl, a, ns, 2 + i, rfl, sm.seq hS1, by trivial, fun p H2 hp s2 sd => ?_⟩
      refine ⟨p, 100, rfl, sd, by trivial, fun t l w bits H3 kb3 hln ht hl hw0 hw1 hbs hbb => ?_⟩
      have s3 : Same H' H3 := fun b u e => kb3 b u (fun z => by rw [z, hp] at e; cases e) (s2 b u e)
      have wr3 := wr.same s3
      have nl : l ≠ D := fun z => by rw [z] at hl hln; have := s2 _ _ wr.at_; rw [hln] at this; cases this
      refine ⟨D, _, _, rfl, rfl, wr3.at_, fits_lt (by rw [List.length_map]; trivial), ?_⟩
      refine CW.next hi ⟨_, bs ++ [(t, w, l, bits)], rfl, wr3.app (fun b hb => (hg b hb).1) ht hl nl, by rw [List.length_append, List.length_singleton]; trivial, fun b hb => ?_, same_upd (sm.trans s3) _ hD⟩
      rcases List.mem_append.mp hb with hb | hb
      · exact hg b hb
      · rw [List.mem_singleton.mp hb]
        exact ⟨nl, hw0, hw1, hbs, hbb⟩
    rintro σ' H2 ⟨v0, bs, rfl, wr, hbl, hg, s2⟩
    have t2 := s1.trans s2
    try dsimp only
    refine sqMidY (fun σ' H' => ∃ (P : Addr) (ws : List BL), σ' = [some (.ref a), some (.int f), some (.int sz), some (.int tot), some (.ref P)] ∧ Wrs H' P ws ∧ ws.length = nb ∧ (∀ b ∈ ws, 0 ≤ b.2.1 ∧ b.2.1 ≤ 1000000 ∧ b.2.2.2.length ≤ 40 ∧ isBits b.2.2.2) ∧ Same H2 H') ?_ ?_
    rotate_left
    · intro N hN
      refine ⟨_, rfl, _, _, rfl, rfl, ⟨by decide, by decide⟩, _, _, rfl, rfl, (by show (0 : Int) < 4; decide), rfl, _, rfl, ?_⟩
      refine ite2 (fun c => ?_) (fun c => ?_)
      rotate_left
      · exact hN _ _ ⟨D, bs, rfl, wr, hbl, (fun b hb => (hg b hb).2), Same.refl _⟩
      refine ⟨_, rfl, D, rfl, ⟨_, SqL.of wr.at_⟩, fun P hP => ?_⟩
      refine comp_lstQ (K := K) (a := D) (xs := bs.map fun w => V.ref w.1) (fun i σ' H' => ∃ (x y : Option V) (ws : List BL), σ' = [x, y, some (.ref D)] ∧ Wrs H' P ws ∧ ws.length = i ∧ (∀ b ∈ ws, b.2.2.1 ≠ P ∧ 0 ≤ b.2.1 ∧ b.2.1 ≤ 1000000 ∧ b.2.2.2.length ≤ 40 ∧ isBits b.2.2.2) ∧ Same H2 H')
        ⟨none, none, [], rfl, ⟨upd_same, (fun _ z => by cases z)⟩, rfl, (fun _ z => by cases z), same_new hP _⟩ (fun i σ' H' _ ⟨_, _, _, _, _, _, _, e⟩ => SqL.of (e _ _ wr.at_)) ?_ ?_
      · rintro i y σ' H' hi ⟨x0, y0, ws, rfl, wr', hwl, hg', sm⟩
        have hlt : i < (bs.map fun w => V.ref w.1).length := (List.getElem?_eq_some_iff.mp hi).1
        have hil : i < bs.length := by rw [List.length_map] at hlt; exact hlt
        obtain ⟨z, hz⟩ : ∃ x, bs[i]? = some x := ⟨_, List.getElem?_eq_getElem hil⟩
        rw [List.getElem?_map, hz] at hi
        have ey : V.ref z.1 = y := Option.some.inj hi
        subst ey
        have hm := List.mem_of_getElem? hz
        obtain ⟨z0, hz0⟩ : ∃ x, bs[0]? = some x := ⟨_, List.getElem?_eq_getElem (by trivial)⟩
        have hm0 := List.mem_of_getElem? hz0
        have he := wr.each z hm
        have he0 := wr.each z0 hm0
        have g0 := hg z0 hm0
        have gz := hg z hm
        refine ⟨z.1, _, rfl, SqT.of (sm _ _ he.1), rfl, _, _, rfl, _, _, rfl, rfl, ?_⟩
        refine trueT ?_
        refine ⟨_, rfl, _, rfl, D, _, ((0 : Nat) : Int), V.ref z0.1, rfl, rfl, SqL.of (sm _ _ wr.at_), atI_nat (by rw [List.getElem?_map, hz0]; rfl), z0.1, _, 1, _, rfl, rfl, SqT.of (sm _ _ he0.1), rfl, z0.2.2.1, _, rfl, .inl (SqL.of (sm _ _ he0.2)), fun q hq => ?_⟩
        have u3 := same_new hq (.lst (z0.2.2.2.map V.int))
        have e3 : upd H' q (.lst (z0.2.2.2.map V.int)) q = some (lsI z0.2.2.2) := upd_same
        have nq : q ≠ P := (ne_of_none wr'.at_ hq).symm
        generalize upd H' q (.lst (z0.2.2.2.map V.int)) = H3 at u3 e3 ⊢
        refine ⟨(by show 2 ≤ sizeLine; decide), fun t htf => ?_⟩
        have u4 := same_new htf (.tup [.int z.2.1, .ref q])
        have e4 : upd H3 t (.tup [.int z.2.1, .ref q]) t = some (.tup [.int z.2.1, .ref q]) := upd_same
        have e3' := u4 _ _ e3
        generalize upd H3 t (.tup [.int z.2.1, .ref q]) = H4 at u4 e4 e3' ⊢
        have wr4 := wr'.same (u3.trans u4)
        refine ⟨P, _, _, rfl, rfl, wr4.at_, fits_lt (by rw [List.length_map]; trivial), ?_⟩
        refine CW.next hlt ⟨_, _, ws ++ [(t, z.2.1, q, z0.2.2.2)], rfl, wr4.app (fun b hb => (hg' b hb).1) e4 e3' nq, by rw [List.length_append, List.length_singleton]; trivial, fun b hb => ?_, same_upd (sm.trans (u3.trans u4)) _ hP⟩
        rcases List.mem_append.mp hb with hb | hb
        · exact hg' b hb
        · rw [List.mem_singleton.mp hb]
          exact ⟨nq, gz.2.1, gz.2.2.1, g0.2.2.2.1, g0.2.2.2.2⟩
      rintro σ' H3 ⟨x0, y0, ws, rfl, wr', hwl, hg', sm⟩
      rw [List.length_map] at hwl
      exact hN _ _ ⟨P, ws, rfl, wr', by trivial, (fun b hb => (hg' b hb).2), sm⟩
    rintro σ' H3 ⟨P, ws, rfl, wr3, hwl, hg3, s3⟩
    refine ⟨_, rfl, _, rfl, _, rfl, (by show 3 ≤ sizeLine; decide), fun c hc => ?_⟩
    have u4 := same_new hc (.tup [.int sz, .int tot, .ref P])
    exact hQ c P sz tot ws _ (t2.trans (s3.trans u4)) ⟨upd_same, wr3.same u4, hok _ hwl, by trivial, hg3⟩
end
end K63
set_option Elab.async false
set_option linter.all false
set_option maxRecDepth 100000
set_option maxHeartbeats 4000000
namespace K63
open PySem L2 PySem.W PH
section
variable {P : Program} {w : World} {K : PySem.W.Frag} {mg : Str → Option Value} {base : Heap}
theorem sc_wrt : FnScope ["container", "numbers", "behind", "way", "bits"] ["container"] (defScope s_wrt) := ⟨rfl, rfl, rfl, by decide +kernel, rfl, by decide +kernel, by decide +kernel⟩
theorem ok_wrt {f f_lroww : Addr} {fd d_lroww : FuncData} (F : Fun K "_law_written" "_law_written" s_wrt f fd) (B : Bls mg) 
    (G_lroww : FnOk P w K mg base (CXW P w) 2 f_lroww d_lroww ["numbers"] (spLRow63)) (b_lroww : Binds K d_lroww ["numbers"] []) (k_lroww : keepIn K (.ref f_lroww) = true) (m_lroww : mg "_law_row" = some (.ref f_lroww)) : FnOk P w K mg base (CXW P w) 3 f fd ["container"] (spWrt63) := by
  refine F.okN sc_wrt (fun vs H Q E h => ?_) (fun cdv A outer s H vs Q E hr h => ?_)
  · obtain ⟨c, p, sz, tot, bs, rfl, _⟩ := h
    rfl
  · obtain ⟨c, p, sz, tot, bs, rfl, cn, hQ⟩ := h
    refine ⟨_, (pss_cons (ps_set (i := 1) sc_wrt.nd rfl (Or.inl rfl) (pe_lst (pa_cons (pe_ix ix_tup (pv 0) pe_int (fun _ _ => rfl)) (pa_cons (pe_ix ix_tup (pv 0) pe_int (fun _ _ => rfl)) pa_nil))))
      (pss_cons (ps_set (i := 2) sc_wrt.nd rfl (Or.inl rfl) (pe_lst pa_nil))
      (pss_cons (ps_for PassesOwn.never rfl (pi_list (pe_ix ix_tup (pv 0) pe_int (fun _ _ => rfl))) (pg_tup rfl (pgs_cons (pg_name (i := 3) sc_wrt.nd rfl (Or.inl rfl)) (pgs_cons (pg_name (i := 4) sc_wrt.nd rfl (Or.inl rfl)) pgs_nil)))
        (pss_cons (ps_set (i := 1) sc_wrt.nd rfl (Or.inl rfl) (pe_op op_cat (pv 1) (pe_lst (pa_cons (pv 3) (pa_cons (pe_callB call_len_seq rfl B.len PySem.boot_len (pa_cons (pv 4) pa_nil)) pa_nil)))))
        (pss_one (ps_set (i := 2) sc_wrt.nd rfl (Or.inl rfl) (pe_op op_cat (pv 2) (pv 4))))))
      (pss_one (ps_ret (pe_op op_cat (pe_call G_lroww hr rfl m_lroww k_lroww b_lroww .nil passN (pa_cons (pv 1) pa_nil)) (pv 2))))))), ?_⟩
    have hfew := cn.few
    have hc := cn.at_
    have hsm := cn.small
    have hul : (unp (hds (bkv bs))).length = 2 * bs.length := by rw [unp_len, hds_len]; unfold bkv; rw [List.length_map]
    refine ⟨_, rfl, c, _, _, _, rfl, rfl, SqT.of hc, rfl, _, rfl, c, _, _, _, rfl, rfl, SqT.of hc, rfl, (by show 2 ≤ sizeLine; decide), fun l1 hl1 => ?_⟩
    have u1 := same_new hl1 (.lst [V.int sz, V.int tot])
    have e1 : upd H l1 (.lst [V.int sz, V.int tot]) l1 = some (lsI [sz, tot]) := upd_same
    generalize upd H l1 (.lst [V.int sz, V.int tot]) = H1 at u1 e1 ⊢
    refine ⟨(by show 0 ≤ sizeLine; decide), fun l2 hl2 => ?_⟩
    have u2 := same_new hl2 (.lst [])
    have e2 : upd H1 l2 (.lst []) l2 = some (lsI []) := upd_same
    have e1' := u2 _ _ e1
    generalize upd H1 l2 (.lst []) = H2 at u2 e2 e1' ⊢
    have t2 := u1.trans u2
    have hc2 := t2 _ _ hc
    refine ⟨_, rfl, c, _, _, _, rfl, rfl, SqT.of hc2, rfl, p, rfl, ⟨_, SqL.of (t2 _ _ cn.bk.at_)⟩, for_list (K := K) (a := p) (xs := bs.map fun w => V.ref w.1) (fun i σ H' => ∃ (X Y : Addr) (v3 v4 : Option V), σ = [some (.ref c), some (.ref X), some (.ref Y), v3, v4] ∧ H' X = some (lsI ([sz, tot] ++ unp (hds (bkv (bs.take i))))) ∧ H' Y = some (lsI (flt (bkv (bs.take i)))) ∧ (flt (bkv (bs.take i))).length ≤ 40 * i ∧ Same H H')
      ⟨l1, l2, none, none, rfl, by rw [List.take_zero]; exact e1', by rw [List.take_zero]; exact e2, by rw [List.take_zero]; exact Nat.le_refl 0, t2⟩ (fun i σ H' _ ⟨_, _, _, _, _, _, _, _, e⟩ => SqL.of (e _ _ cn.bk.at_)) ?_ ?_⟩
    · rintro i y σ H' hi ⟨X, Y, v3, v4, rfl, hX, hY, hfl, sm⟩
      have hlt : i < (bs.map fun w => V.ref w.1).length := (List.getElem?_eq_some_iff.mp hi).1
      have hil : i < bs.length := by rw [List.length_map] at hlt; exact hlt
      obtain ⟨z, hz⟩ : ∃ x, bs[i]? = some x := ⟨_, List.getElem?_eq_getElem hil⟩
      rw [List.getElem?_map, hz] at hi
      have ey : V.ref z.1 = y := Option.some.inj hi
      subst ey
      have hm := List.mem_of_getElem? hz
      have he := cn.bk.each z hm
      have hg := cn.good z hm
      have ebk : bkv (bs.take (i + 1)) = bkv (bs.take i) ++ [(z.2.1, z.2.2.2)] := by unfold bkv; rw [take_at hz, List.map_append]; rfl
      have ehd : unp (hds (bkv (bs.take (i + 1)))) = unp (hds (bkv (bs.take i))) ++ [z.2.1, ((z.2.2.2.length : Nat) : Int)] := by
        rw [ebk]
        unfold hds
        rw [List.map_append]
        exact unp_snoc _ _
      have hxl : (unp (hds (bkv (bs.take i)))).length ≤ 2 * i := by rw [unp_len, hds_len]; unfold bkv; rw [List.length_map, List.length_take]; trivial
      refine ⟨z.1, _, rfl, SqT.of (sm _ _ he.1), rfl, _, _, rfl, _, _, rfl, rfl, ?_⟩
      refine ⟨_, rfl, _, rfl, _, rfl, z.2.2.1, _, rfl, .inl (SqL.of (sm _ _ he.2)), (by show 2 ≤ sizeLine; decide), fun l3 hl3 => ?_⟩
      rw [show (z.2.2.2.map V.int).length = z.2.2.2.length from List.length_map _]
      have u3 := same_new hl3 (.lst [V.int z.2.1, V.int ((z.2.2.2.length : Nat) : Int)])
      have e3 : upd H' l3 (.lst [V.int z.2.1, V.int ((z.2.2.2.length : Nat) : Int)]) l3 = some (lsI [z.2.1, ((z.2.2.2.length : Nat) : Int)]) := upd_same
      generalize upd H' l3 (.lst [V.int z.2.1, V.int ((z.2.2.2.length : Nat) : Int)]) = H3 at u3 e3 ⊢
      refine ⟨X, l3, _, _, rfl, rfl, u3 _ _ hX, e3, fits (by rw [List.length_map, List.length_append]; show (2 + _) + 2 ≤ _; trivial), fun X2 hX2 => ?_⟩
      rw [lsI_app, List.append_assoc, ← ehd]
      have u4 := same_new hX2 (lsI ([sz, tot] ++ unp (hds (bkv (bs.take (i + 1))))))
      have e4 : upd H3 X2 (lsI ([sz, tot] ++ unp (hds (bkv (bs.take (i + 1)))))) X2 = some (lsI ([sz, tot] ++ unp (hds (bkv (bs.take (i + 1)))))) := upd_same
      generalize upd H3 X2 (lsI ([sz, tot] ++ unp (hds (bkv (bs.take (i + 1)))))) = H4 at u4 e4 ⊢
      have t4 := sm.trans (u3.trans u4)
      refine ⟨_, rfl, _, rfl, Y, z.2.2.1, _, _, rfl, rfl, (u3.trans u4) _ _ hY, t4 _ _ he.2, fits (by rw [List.length_map, List.length_map]; trivial), fun Y2 hY2 => ?_⟩
      rw [lsI_app]
      have u5 := same_new hY2 (lsI (flt (bkv (bs.take i)) ++ z.2.2.2))
      refine ⟨X2, Y2, _, _, rfl, u5 _ _ e4, ?_, ?_, t4.trans u5⟩
      · rw [upd_same, ebk, flt_snoc]
      · rw [ebk, flt_snoc, List.length_append]; show _ + z.2.2.2.length ≤ _; trivial
    rintro σ H3 ⟨X, Y, v3, v4, rfl, hX, hY, hfl, sm⟩
    rw [List.length_map, List.take_length] at hX hY hfl
    have hl9 : ([sz, tot] ++ unp (hds (bkv bs))).length = 2 + 2 * bs.length := by rw [List.length_append, hul]; rfl
    refine ⟨_, rfl, X, _, rfl, hX, by trivial, hsm, fun R H4 s4 hRn hR => ?_⟩
    have hrl : (rowb ([sz, tot] ++ unp (hds (bkv bs)))).length ≤ 10000 := by
      have h1 := flatb_mid hsm
      have h2 := blen_mid (n := (([sz, tot] ++ unp (hds (bkv bs))).length : Int) + 1) (by trivial) (by trivial)
      unfold rowb
      rw [List.length_append, endb_length]
      trivial
    refine ⟨_, rfl, R, Y, _, _, rfl, rfl, hR, s4 _ _ hY, fits (by rw [List.length_map, List.length_map]; trivial), fun L hL => ?_⟩
    rw [lsI_app]
    exact hQ L _ ((sm.trans s4).trans (same_new hL _)) upd_same
end
end K63
set_option Elab.async false
set_option linter.all false
set_option maxRecDepth 100000
set_option maxHeartbeats 4000000
namespace K63
open PySem L2 PySem.W PH
section
variable {P : Program} {w : World} {K : PySem.W.Frag} {mg : Str → Option Value} {base : Heap}
theorem sc_due : FnScope ["bits", "told", "size", "total", "place", "blocks", "k"] ["bits"] (defScope s_due) := ⟨rfl, rfl, rfl, by decide +kernel, rfl, by decide +kernel, by decide +kernel⟩
theorem ok_due {f f_lrow : Addr} {fd d_lrow : FuncData} (F : Fun K "_law_due" "_law_due" s_due f fd) (B : Bls mg) 
    (G_lrow : FnOk P w K mg base (CXW P w) 2 f_lrow d_lrow ["bits", "at"] (spLRow54)) (b_lrow : Binds K d_lrow ["bits", "at"] []) (k_lrow : keepIn K (.ref f_lrow) = true) (m_lrow : mg "_law_read_row" = some (.ref f_lrow)) : FnOk P w K mg base (CXW P w) 3 f fd ["bits"] (spDue63) := by
  refine F.okN sc_due (fun vs H Q E h => ?_) (fun cdv A outer s H vs Q E hr h => ?_)
  · obtain ⟨a, bs, rfl, _⟩ := h
    rfl
  · obtain ⟨a, bs, rfl, ha, hbits, hl, hN, hQ⟩ := h
    refine ⟨_, (pss_cons (ps_set (i := 1) sc_due.nd rfl (Or.inl rfl) (pe_call G_lrow hr rfl m_lrow k_lrow b_lrow .nil passN (pa_cons (pv 0) (pa_cons pe_int pa_nil))))
      (pss_cons (ps_if (PW.pt (pw_or (pt_cmp (pc_isN (pv 1))) (pw_or (pt_cmpR op_lt (pe_callB call_len_seq rfl B.len PySem.boot_len (pa_cons (pe_ix ix_tup (pv 1) pe_int (fun _ _ => rfl)) pa_nil)) pe_int (nomark _)) (pw_or1 (pt_cmpR op_eq (pe_op op_mod (pe_callB call_len_seq rfl B.len PySem.boot_len (pa_cons (pe_ix ix_tup (pv 1) pe_int (fun _ _ => rfl)) pa_nil)) pe_int) pe_int (nomark _))))))
        (pss_one (ps_ret pe_non))
        pss_nil)
      (pss_cons (ps_asg (pe_slice sl_list (pe_ix ix_tup (pv 1) pe_int (fun _ _ => rfl)) po_none (po_some pe_int)) (pg_lst rfl (pgs_cons (pg_name (i := 2) sc_due.nd rfl (Or.inl rfl)) (pgs_cons (pg_name (i := 3) sc_due.nd rfl (Or.inl rfl)) pgs_nil))))
      (pss_cons (ps_set (i := 4) sc_due.nd rfl (Or.inl rfl) (pe_ix ix_tup (pv 1) pe_int (fun _ _ => rfl)))
      (pss_cons (ps_set (i := 5) sc_due.nd rfl (Or.inl rfl) (pe_lst pa_nil))
      (pss_cons (ps_for PassesOwn.never rfl (pi_range3 rfl B.range (pa_cons pe_int (pa_cons (pe_callB call_len_seq rfl B.len PySem.boot_len (pa_cons (pe_ix ix_tup (pv 1) pe_int (fun _ _ => rfl)) pa_nil)) (pa_cons pe_int pa_nil)))) (pg_name (i := 6) sc_due.nd rfl (Or.inl rfl))
        (pss_cons (ps_expr (pe_bm PySem.F.plainAttrs_list PySem.F.slot_list_append PySem.F.type_list_append mt_append (pv 5) (pa_cons (pe_tup (pa_cons (pe_ix ix_list (pe_ix ix_tup (pv 1) pe_int (fun _ _ => rfl)) (pv 6) (fun _ _ => rfl)) (pa_cons (pe_slice sl_list (pv 0) (po_some (pv 4)) (po_some (pe_op op_add (pv 4) (pe_ix ix_list (pe_ix ix_tup (pv 1) pe_int (fun _ _ => rfl)) (pe_op op_add (pv 6) pe_int) (fun _ _ => rfl))))) pa_nil))) pa_nil)))
        (pss_one (ps_set (i := 4) sc_due.nd rfl (Or.inl rfl) (pe_op op_add (pv 4) (pe_ix ix_list (pe_ix ix_tup (pv 1) pe_int (fun _ _ => rfl)) (pe_op op_add (pv 6) pe_int) (fun _ _ => rfl)))))))
      (pss_cons (ps_if (PW.pt (pw_or (pt_cmpR op_ne (pv 4) (pe_callB call_len_seq rfl B.len PySem.boot_len (pa_cons (pv 0) pa_nil)) (nomark _)) (pw_or (pt_cmpR op_lt (pv 2) pe_int (nomark _)) (pw_or (pt_cmpR op_gt (pv 2) pe_int (nomark _)) (pw_or (pt_cmpR op_gt (pv 3) pe_int (nomark _)) (pw_or1 (pt_cmpR op_ne (pe_callB call_len_seq rfl B.len PySem.boot_len (pa_cons (pv 5) pa_nil)) (pe_op op_fdiv (pe_op op_sub (pe_op op_add (pv 3) (pv 2)) pe_int) (pv 2)) (nomark _))))))))
        (pss_one (ps_ret pe_non))
        pss_nil)
      (pss_one (ps_ret (pe_tup (pa_cons (pv 2) (pa_cons (pv 3) (pa_cons (pv 5) pa_nil))))))))))))), ?_⟩
    try dsimp only
    refine sqMidY (fun σ' H' => ∃ v : V, σ' = [some (.ref a), some v, none, none, none, none, none] ∧ Same H H' ∧ ((v = .non ∧ readRow bs 0 = none) ∨ ∃ (t l : Addr) (ns : List Int) (b : Nat), v = .ref t ∧ readRow bs 0 = some (ns, b) ∧ H' l = some (lsI ns) ∧ H' t = some (.tup [.ref l, .int (b : Nat)]))) ?_ ?_
    rotate_left
    · intro N hNx
      exact ⟨_, rfl, a, bs, 0, rfl, ha, hbits, hl, by trivial, (fun h H' s => hNx _ _ ⟨_, rfl, s, .inl ⟨rfl, h⟩⟩), fun ns b h t l H' s _ hl' ht => hNx _ _ ⟨_, rfl, s, .inr ⟨t, l, ns, b, rfl, h, hl', ht⟩⟩⟩
    rintro σ' H1 ⟨v, rfl, s1, hv⟩
    rcases hv with ⟨rfl, hno⟩ | ⟨t, l, ns, b, rfl, hr, hl1, ht1⟩
    · refine ⟨_, rfl, _, rfl, ?_⟩
      refine iteT (iteT ?_)
      exact hN (by unfold rdC; rw [hno]) H1 s1
    obtain ⟨i0, ib, hbl, hn0, hrow⟩ := readRow_back hbits hr
    have hnl : ns.length ≤ 20000 := by
      have h1 := (flatb_ge hn0).1
      have h2 := congrArg List.length hrow
      unfold rowb at h2
      rw [List.length_append, List.length_take, List.length_drop] at h2
      trivial
    have eS : rdC bs = (if ns.length < 2 then none else if ns.length % 2 = 1 then none else if endH b (prd (ns.drop 2)) ≠ bs.length then none else
    if isCn (ns.getD 0 0) (ns.getD 1 0) (prd (ns.drop 2)).length = false then none else some (ns.getD 0 0, ns.getD 1 0, cutH bs b (prd (ns.drop 2)))) := by unfold rdC; rw [hr]
    rw [eS] at hN hQ
    refine ⟨_, rfl, _, rfl, ?_⟩
    refine iteF ?_
    refine ⟨_, rfl, t, _, _, _, rfl, rfl, SqT.of ht1, rfl, l, _, rfl, .inl (SqL.of hl1), _, _, rfl, rfl, _, rfl, ?_⟩
    rw [List.length_map]
    by_cases h2 : ns.length < 2
    · rw [decide_eq_true (show ((ns.length : Nat) : Int) < 2 by trivial)]
      refine iteT (iteT ?_)
      exact hN (by rw [if_pos h2]) H1 s1
    rw [decide_eq_false (show ¬ ((ns.length : Nat) : Int) < 2 by trivial)]
    rw [if_neg h2] at hN hQ
    refine iteF ?_
    refine ⟨_, rfl, t, _, _, _, rfl, rfl, SqT.of ht1, rfl, l, _, rfl, .inl (SqL.of hl1), _, _, rfl, rfl, (by show (0 : Int) < 2; decide), rfl, _, rfl, ?_⟩
    rw [List.length_map]
    rcases Nat.mod_two_eq_zero_or_one ns.length with h3 | h3
    rotate_left
    · rw [decide_eq_true (show V.int (((ns.length : Nat) : Int) % 2) = V.int 1 from congrArg V.int (by trivial))]
      refine iteT ?_
      exact hN (by rw [if_pos h3]) H1 s1
    rw [decide_eq_false (show ¬ V.int (((ns.length : Nat) : Int) % 2) = V.int 1 from fun z => by have := V.int.inj z; trivial)]
    refine iteF ?_
    rw [if_neg (show ¬ ns.length % 2 = 1 by trivial)] at hN hQ
    obtain ⟨x, hx⟩ : ∃ x, ns[0]? = some x := ⟨_, List.getElem?_eq_getElem (by trivial)⟩
    obtain ⟨y, hy⟩ : ∃ x, ns[1]? = some x := ⟨_, List.getElem?_eq_getElem (by trivial)⟩
    rw [getD_at hx, getD_at hy] at hN hQ
    have etk : ns.take 2 = [x, y] := by
      rw [take_at hy, take_at hx, List.take_zero]; rfl
    have ha1 := s1 _ _ ha
    refine ⟨_, rfl, t, _, _, _, rfl, rfl, SqT.of ht1, rfl, 2, rfl, l, _, rfl, SqL.of hl1, fun W hW => ?_⟩
    have ec : HO.lst (cutV (ns.map V.int) none (some 2)) = lsI [x, y] := by rw [show (2 : Int) = ((2 : Nat) : Int) from rfl, cut_to (α := Int), etk]; rfl
    try dsimp -proj only
    rw [ec]
    have u2 := same_new hW (lsI [x, y])
    have e2 : upd H1 W (lsI [x, y]) W = some (lsI [x, y]) := upd_same
    have hl2 := u2 _ _ hl1
    have ht2 := u2 _ _ ht1
    generalize upd H1 W (lsI [x, y]) = H2 at u2 e2 hl2 ht2 ⊢
    have t2 := s1.trans u2
    refine ⟨W, _, rfl, SqL.of e2, rfl, _, _, rfl, _, _, rfl, rfl, ?_⟩
    refine ⟨_, rfl, t, _, _, _, rfl, rfl, SqT.of ht2, rfl, ?_⟩
    refine ⟨(by show 0 ≤ sizeLine; decide), fun P hP => ?_⟩
    have u3 := same_new hP (.lst [])
    have e3 : upd H2 P (.lst []) P = some (.lst []) := upd_same
    have hl3 := u3 _ _ hl2
    have ht3 := u3 _ _ ht2
    have hPl : l ≠ P := ne_of_none hl2 hP
    generalize upd H2 P (.lst []) = H3 at u3 e3 hl3 ht3 ⊢
    have hPH : H P = none := t2.free hP
    have dl : (ns.drop 2).length = ns.length - 2 := List.length_drop
    have dg : ∀ i z, ns[i + 2]? = some z → (ns.drop 2)[i]? = some z := fun i z h => by rw [List.getElem?_drop, Nat.add_comm 2 i]; exact h
    generalize hds_ : ns.drop 2 = ds at dl dg hN hQ
    have hpl := prd_len ds
    refine ⟨_, rfl, t, _, _, _, rfl, rfl, SqT.of ht3, rfl, l, _, rfl, .inl (SqL.of hl3), 2, ((ns.length : Nat) : Int), 2, by rw [List.length_map], ⟨by decide, by decide⟩, small_step (by decide) (by decide) (by trivial) (by trivial) (by decide) (by decide), ?_⟩
    rw [rsz_from2 h3 (by trivial)]
    refine for_rangeS (fun i σ H' => ∃ (v6 : Option V) (ws : List BL), σ = [some (.ref a), some (.ref t), some (.int x), some (.int y), some (.int ((endH b ((prd ds).take i) : Nat) : Int)), some (.ref P), v6] ∧ Wrs H' P ws ∧ (∀ w ∈ ws, w.2.2.1 ≠ P ∧ 0 ≤ w.2.1) ∧ bkv ws = cutH bs b ((prd ds).take i) ∧ (∀ q o, q ≠ P → H3 q = some o → H' q = some o) ∧ Same H H')
      ⟨none, [], by rw [List.take_zero]; rfl, ⟨e3, (fun _ z => by cases z)⟩, (fun _ z => by cases z), by rw [List.take_zero]; rfl, (fun q o _ h => h), t2.trans u3⟩ ?_ ?_
    · rintro i σ H' hi ⟨v6, ws, rfl, wr, hfr, hbk, hk3, sm⟩
      obtain ⟨u, hu⟩ : ∃ x, ns[2 * i + 2]? = some x := ⟨_, List.getElem?_eq_getElem (by trivial)⟩
      obtain ⟨w, hw⟩ : ∃ x, ns[2 * i + 3]? = some x := ⟨_, List.getElem?_eq_getElem (by trivial)⟩
      rw [show (2 : Int) + (i : Int) * 2 = ((2 * i + 2 : Nat) : Int) by trivial]
      have hu0 := hn0 u (List.mem_of_getElem? hu)
      have hw0 := hn0 w (List.mem_of_getElem? hw)
      obtain ⟨m, rfl⟩ : ∃ m : Nat, w = (m : Int) := ⟨w.toNat, by trivial⟩
      have hck : (prd ds)[i]? = some (u, (m : Int)) := by rw [prd_get (by trivial), getD_at (dg _ _ hu), getD_at (dg (2 * i + 1) _ hw)]
      have hwl : ws.length = i := by
        have := congrArg List.length hbk
        unfold bkv at this
        rw [List.length_map, cutH_len, List.length_take, hpl] at this
        trivial
      have nt : t ≠ P := ne_of_none ht2 hP
      have ht' := hk3 _ _ nt ht3
      have hl' := hk3 _ _ hPl hl3
      have ha' := sm _ _ ha
      generalize he : endH b ((prd ds).take i) = e
      refine ⟨_, rfl, .inl ⟨rfl, _, SqL.of wr.at_⟩, _, rfl, t, _, _, _, rfl, rfl, SqT.of ht', rfl, _, rfl, l, _, _, _, rfl, rfl, SqL.of hl', at_ints hu, _, rfl, _, rfl, _, rfl, _, rfl, _, rfl, t, _, _, _, rfl, rfl, SqT.of ht', rfl, _, rfl, _, _, rfl, rfl, l, _, ((2 * i + 3 : Nat) : Int), _, rfl, rfl, SqL.of hl', at_ints hw, _, _, rfl, rfl, _, rfl, a, _, rfl, SqL.of ha', fun q hq => ?_⟩
      have ec : HO.lst (cutV (bs.map V.int) (some (e : Int)) (some ((e : Int) + (m : Int)))) = lsI ((bs.drop e).take m) := by rw [show (e : Int) + (m : Int) = ((e + m : Nat) : Int) by trivial, cut_two, show e + m - e = m by trivial]; rfl
      try dsimp -proj only
      rw [ec]
      have u1 := same_new hq (lsI ((bs.drop e).take m))
      have e1 : upd H' q (lsI ((bs.drop e).take m)) q = some (lsI ((bs.drop e).take m)) := upd_same
      generalize upd H' q (lsI ((bs.drop e).take m)) = H4 at u1 e1 ⊢
      refine ⟨(by show 2 ≤ sizeLine; decide), fun tt htf => ?_⟩
      have u5 := same_new htf (.tup [.int u, .ref q])
      have e5 : upd H4 tt (.tup [.int u, .ref q]) tt = some (.tup [.int u, .ref q]) := upd_same
      have e1' := u5 _ _ e1
      generalize upd H4 tt (.tup [.int u, .ref q]) = H5 at u5 e5 e1' ⊢
      have u15 := u1.trans u5
      have wr2 := wr.same u15
      have nq : q ≠ P := (ne_of_none wr.at_ hq).symm
      refine ⟨P, _, _, rfl, rfl, wr2.at_, fits_lt (by rw [List.length_map]; trivial), ?_⟩
      have ht5 : upd H5 P (.lst ((ws.map fun w => V.ref w.1) ++ [V.ref tt])) t = some (.tup [.ref l, .int (b : Nat)]) := by rw [upd_ne nt]; exact u15 _ _ ht'
      have hl5 : upd H5 P (.lst ((ws.map fun w => V.ref w.1) ++ [V.ref tt])) l = some (lsI ns) := by rw [upd_ne hPl]; exact u15 _ _ hl'
      refine ⟨_, rfl, _, rfl, t, _, _, _, rfl, rfl, SqT.of ht5, rfl, _, rfl, _, _, rfl, rfl, l, _, ((2 * i + 3 : Nat) : Int), _, rfl, rfl, SqL.of hl5, at_ints hw, _, _, rfl, rfl, ?_⟩
      have eN : endH b ((prd ds).take (i + 1)) = e + m := by rw [take_at hck, endH_snoc, he]; rfl
      refine ⟨some (.int ((2 * i + 2 : Nat) : Int)), ws ++ [(tt, u, q, (bs.drop e).take m)], ?_, wr2.app (fun w hw => (hfr w hw).1) e5 e1' nq, ?_, ?_, ?_, same_upd (sm.trans u15) _ hPH⟩
      · rw [eN]; rfl
      · intro w' hw'
        rcases List.mem_append.mp hw' with hw' | hw'
        · exact hfr w' hw'
        · rw [List.mem_singleton.mp hw']
          exact ⟨nq, hu0⟩
      · unfold bkv at hbk ⊢
        rw [List.map_append, hbk, take_at hck, cutH_snoc, he]; rfl
      · intro q' o hq' h
        rw [upd_ne hq']
        exact u15 _ _ (hk3 q' o hq' h)
    rintro σ H6 ⟨v6, ws, rfl, wr, hfr, hbk, hk3, sm⟩
    rw [List.take_of_length_le (by rw [hpl]; trivial)] at hbk ⊢
    have hlw : (prd ds).length = ws.length := by
      have := congrArg List.length hbk
      unfold bkv at this
      rw [List.length_map, cutH_len] at this
      exact this.symm
    rw [hlw] at hN hQ
    refine ⟨_, rfl, _, rfl, a, _, rfl, .inl (SqL.of (sm _ _ ha)), rfl, _, rfl, ?_⟩
    rw [List.length_map]
    by_cases hh : endH b (prd ds) = bs.length
    rotate_left
    · refine iteNTY (fun z => hh (by have := V.int.inj z; trivial)) (iteT ?_)
      exact hN (by rw [if_pos hh]) H6 sm
    refine iteNS (congrArg (fun y : Nat => V.int (y : Int)) hh) ?_
    rw [if_neg (fun z => z hh)] at hN hQ
    have hx0 := hn0 x (List.mem_of_getElem? hx)
    have hy0 := hn0 y (List.mem_of_getElem? hy)
    refine ⟨_, rfl, _, _, rfl, rfl, _, rfl, ?_⟩
    by_cases c1 : x < 1
    · rw [decide_eq_true c1]
      refine iteT (iteT ?_)
      exact hN (by rw [if_pos (isCn_no (.inl c1))]) H6 sm
    rw [decide_eq_false c1]
    refine iteF ?_
    refine ⟨_, rfl, _, _, rfl, rfl, _, rfl, ?_⟩
    by_cases c2 : 64 < x
    · rw [decide_eq_true c2]
      refine iteT (iteT ?_)
      exact hN (by rw [if_pos (isCn_no (.inr (.inl c2)))]) H6 sm
    rw [decide_eq_false c2]
    refine iteF ?_
    refine ⟨_, rfl, _, _, rfl, rfl, _, rfl, ?_⟩
    by_cases c3 : 400 < y
    · rw [decide_eq_true c3]
      refine iteT (iteT ?_)
      exact hN (by rw [if_pos (isCn_no (.inr (.inr (.inl c3))))]) H6 sm
    rw [decide_eq_false c3]
    refine iteF ?_
    refine ⟨_, rfl, P, _, rfl, .inl (SqL.of wr.at_), _, rfl, _, rfl, _, _, rfl, rfl, _, _, rfl, rfl, _, rfl, _, _, rfl, rfl, ⟨by trivial, by trivial⟩, rfl, _, rfl, ?_⟩
    rw [List.length_map]
    by_cases c4 : ((ws.length : Nat) : Int) = (y + x - 1) / x
    rotate_left
    · refine iteNTY (fun z => c4 (V.int.inj z)) ?_
      exact hN (by rw [if_pos (isCn_no (.inr (.inr (.inr c4))))]) H6 sm
    refine iteNS (congrArg V.int c4) ?_
    have hok : isCn x y ws.length = true := by
      unfold isCn
      rw [decide_eq_true (show 1 ≤ x by trivial), decide_eq_true (show x ≤ 64 by trivial), decide_eq_true (show 0 ≤ y by trivial), decide_eq_true (show y ≤ 400 by trivial), decide_eq_true c4]; rfl
    rw [if_neg (by rw [hok]; decide)] at hQ
    refine ⟨_, rfl, _, rfl, _, rfl, (by show 3 ≤ sizeLine; decide), fun c hc => ?_⟩
    have u7 := same_new hc (.tup [.int x, .int y, .ref P])
    exact hQ x y _ rfl c P ws _ (sm.trans u7) upd_same (wr.same u7) hbk
end
end K63
set_option Elab.async false
set_option linter.all false
set_option maxRecDepth 100000
set_option maxHeartbeats 4000000
namespace K63
open PySem L2 PySem.W PH
section
variable {P : Program} {w : World} {K : PySem.W.Frag} {mg : Str → Option Value} {base : Heap}
theorem sc_spo : FnScope ["bits", "state", "at", "kind"] ["bits", "state"] (defScope s_spo) := ⟨rfl, rfl, rfl, by decide +kernel, rfl, by decide +kernel, by decide +kernel⟩
theorem ok_spo {f f_draw : Addr} {fd d_draw : FuncData} (F : Fun K "_law_spoilt" "_law_spoilt" s_spo f fd) (B : Bls mg) 
    (G_draw : FnOk P w K mg base (CXW P w) 1 f_draw d_draw ["state", "many"] (spDraw63)) (b_draw : Binds K d_draw ["state", "many"] []) (k_draw : keepIn K (.ref f_draw) = true) (m_draw : mg "_law_draw" = some (.ref f_draw)) : FnOk P w K mg base (CXW P w) 2 f fd ["bits", "state"] (spSpo63) := by
  refine F.okN sc_spo (fun vs H Q E h => ?_) (fun cdv A outer s H vs Q E hr h => ?_)
  · obtain ⟨a, p, n, bs, rfl, _⟩ := h
    rfl
  · obtain ⟨a, p, n, bs, rfl, ha, hbits, hbl, sd, hn, hQ⟩ := h
    refine ⟨_, (pss_cons (ps_set (i := 2) sc_spo.nd rfl (Or.inl rfl) (pe_call G_draw hr rfl m_draw k_draw b_draw .nil passN (pa_cons (pv 1) (pa_cons (pe_op op_add (pe_callB call_len_seq rfl B.len PySem.boot_len (pa_cons (pv 0) pa_nil)) pe_int) pa_nil))))
      (pss_cons (ps_set (i := 3) sc_spo.nd rfl (Or.inl rfl) (pe_call G_draw hr rfl m_draw k_draw b_draw .nil passN (pa_cons (pv 1) (pa_cons pe_int pa_nil))))
      (pss_cons (ps_if (pt_cmpR op_eq (pv 3) pe_int (nomark _))
        (pss_one (ps_ret (pe_op op_cat (pe_op op_cat (pe_slice sl_list (pv 0) po_none (po_some (pv 2))) (pe_comp (N := ["bit"]) (js := [none]) (g := (gName 0)) (tc := tTrue) (te := (tOp (rI0 fun i j => .int (i - j)) (tC (.int 1)) (tVar 0))) rfl (comp_scope (osc := defScope s_spo) (XN := ["bits", "state", "at", "kind"]) rfl rfl rfl (by decide +kernel)) (pi_list (pe_slice sl_list (pv 0) (po_some (pv 2)) (po_some (pe_op op_add (pv 2) pe_int)))) (fun _ _ _ _ => pg_name (i := 0) (show (["bit"] : List Str).Nodup by decide +kernel) rfl (Or.inl rfl)) (fun _ _ _ _ => pif_nil) (fun _ _ _ _ => (pe_op op_sub pe_int (pv 0))))) (pe_slice sl_list (pv 0) (po_some (pe_op op_add (pv 2) pe_int)) po_none))))
        pss_nil)
      (pss_cons (ps_if (pt_cmpR op_eq (pv 3) pe_int (nomark _))
        (pss_one (ps_ret (pe_op op_cat (pe_slice sl_list (pv 0) po_none (po_some (pv 2))) (pe_slice sl_list (pv 0) (po_some (pe_op op_add (pe_op op_add (pv 2) pe_int) (pe_call G_draw hr rfl m_draw k_draw b_draw .nil passN (pa_cons (pv 1) (pa_cons pe_int pa_nil))))) po_none))))
        pss_nil)
      (pss_cons (ps_if (pt_cmpR op_eq (pv 3) pe_int (nomark _))
        (pss_one (ps_ret (pe_op op_cat (pv 0) (pe_comp (N := ["k", "state"]) (js := [none, some 1]) (g := (gName 0)) (tc := tTrue) (te := (tCall (spDraw63) [] E0 (tCons (tVar 1) (tCons (tC (.int 2)) tNil)))) rfl (comp_scope (osc := defScope s_spo) (XN := ["bits", "state", "at", "kind"]) rfl rfl rfl (by decide +kernel)) (pi_range1 rfl B.range (pa_cons (pe_op op_add pe_int (pe_call G_draw hr rfl m_draw k_draw b_draw .nil passN (pa_cons (pv 1) (pa_cons pe_int pa_nil)))) pa_nil)) (fun _ _ _ _ => pg_name (i := 0) (show (["k", "state"] : List Str).Nodup by decide +kernel) rfl (Or.inl rfl)) (fun _ _ _ _ => pif_nil) (fun _ _ _ _ => (pe_call G_draw hr rfl m_draw k_draw b_draw .nil passN (pa_cons (pv 1) (pa_cons pe_int pa_nil))))))))
        pss_nil)
      (pss_cons (ps_if (pt_cmpR op_eq (pv 3) pe_int (nomark _))
        (pss_one (ps_ret (pe_op op_cat (pe_op op_cat (pe_slice sl_list (pv 0) po_none (po_some (pv 2))) (pe_lst (pa_cons (pe_call G_draw hr rfl m_draw k_draw b_draw .nil passN (pa_cons (pv 1) (pa_cons pe_int pa_nil))) pa_nil))) (pe_slice sl_list (pv 0) (po_some (pv 2)) po_none))))
        pss_nil)
      (pss_cons (ps_if (pt_cmpR op_eq (pv 3) pe_int (nomark _))
        (pss_one (ps_ret (pe_comp (N := ["k", "state"]) (js := [none, some 1]) (g := (gName 0)) (tc := tTrue) (te := (tCall (spDraw63) [] E0 (tCons (tVar 1) (tCons (tC (.int 2)) tNil)))) rfl (comp_scope (osc := defScope s_spo) (XN := ["bits", "state", "at", "kind"]) rfl rfl rfl (by decide +kernel)) (pi_range1 rfl B.range (pa_cons (pe_call G_draw hr rfl m_draw k_draw b_draw .nil passN (pa_cons (pv 1) (pa_cons pe_int pa_nil))) pa_nil)) (fun _ _ _ _ => pg_name (i := 0) (show (["k", "state"] : List Str).Nodup by decide +kernel) rfl (Or.inl rfl)) (fun _ _ _ _ => pif_nil) (fun _ _ _ _ => (pe_call G_draw hr rfl m_draw k_draw b_draw .nil passN (pa_cons (pv 1) (pa_cons pe_int pa_nil)))))))
        pss_nil)
      (pss_cons (ps_if (pt_cmpR op_eq (pv 3) pe_int (nomark _))
        (pss_one (ps_ret (pe_slice sl_list (pv 0) po_none (po_some (pe_op op_sub (pe_callB call_len_seq rfl B.len PySem.boot_len (pa_cons (pv 0) pa_nil)) (pe_callB (call_min2 rfl) rfl B.min boot_min' (pa_cons (pe_callB call_len_seq rfl B.len PySem.boot_len (pa_cons (pv 0) pa_nil)) (pa_cons (pe_call G_draw hr rfl m_draw k_draw b_draw .nil passN (pa_cons (pv 1) (pa_cons pe_int pa_nil))) pa_nil))))))))
        pss_nil)
      (pss_one (ps_ret (pv 0))))))))))), ?_⟩
    have nap : a ≠ p := sd.neL ha
    refine ⟨_, rfl, _, rfl, a, _, rfl, .inl (SqL.of ha), _, _, rfl, rfl, p, n, ((bs.length : Nat) : Int) + 1, by rw [List.length_map]; rfl, sd, by trivial, by trivial, by trivial, fun k0 H1 k00 k01 sd1 kb1 => ?_⟩
    obtain ⟨k, rfl⟩ : ∃ k : Nat, k0 = (k : Int) := ⟨k0.toNat, by trivial⟩
    have hkl : k ≤ bs.length := by trivial
    refine ⟨_, rfl, p, n + 1, 8, rfl, sd1, (by trivial), (by decide), (by decide), fun w H3 w0 w1 sd3 kb3 => ?_⟩
    have kb3 := kb1.trans kb3
    have ha3 := kb3 _ _ nap ha
    have fin : ∀ (L : Addr) (rs : List Int) (H' : Hp), Kb p H3 H' → SD (n + 1 + 1 + 90) p H' → L ≠ p → H' L = some (lsI rs) → isBits rs → rs.length ≤ 15100 → Q (.ref L) H' := fun L rs H' k' sd' nL hL hb hl' =>
      hQ L rs H' (kb3.trans k') (sd'.mono (by trivial)) hL nL hb hl'
    have btk := isBits_take hbits k
    have bdr := isBits_drop hbits
    have ltk : (bs.take k).length = k := by rw [List.length_take]; trivial
    have ldr : ∀ j, (bs.drop j).length = bs.length - j := fun j => List.length_drop
    refine ⟨_, rfl, rfl, _, rfl, ?_⟩
    refine ite2 (fun c => ?_) (fun c => ?_)
    · clear c
      refine ⟨_, rfl, _, rfl, _, rfl, a, _, rfl, SqL.of ha3, fun q1 hq1 => ?_⟩
      have ecq1 : HO.lst (cutV (bs.map V.int) none (some ((k : Nat) : Int))) = lsI (bs.take k) := by rw [cut_to (α := Int)]; rfl
      try dsimp -proj only
      rw [ecq1]
      have uq1 := same_new hq1 (lsI (bs.take k))
      have eq1 : upd H3 q1 (lsI (bs.take k)) q1 = some (lsI (bs.take k)) := upd_same
      generalize upd H3 q1 (lsI (bs.take k)) = H4 at uq1 eq1 ⊢
      refine ⟨_, rfl, _, rfl, _, rfl, _, rfl, _, _, rfl, rfl, _, rfl, a, _, rfl, SqL.of (uq1 _ _ ha3), fun q2 hq2 => ?_⟩
      have ecq2 : HO.lst (cutV (bs.map V.int) (some ((k : Nat) : Int)) (some (((k : Nat) : Int) + 1))) = lsI ((bs.drop k).take 1) := by rw [show ((k : Nat) : Int) + 1 = ((k + 1 : Nat) : Int) by trivial, cut_two, show k + 1 - k = 1 by trivial]; rfl
      try dsimp -proj only
      rw [ecq2]
      have uq2 := same_new hq2 (lsI ((bs.drop k).take 1))
      have eq2 : upd H4 q2 (lsI ((bs.drop k).take 1)) q2 = some (lsI ((bs.drop k).take 1)) := upd_same
      generalize upd H4 q2 (lsI ((bs.drop k).take 1)) = H5 at uq2 eq2 ⊢
      have b1 := isBits_take (bdr k) 1
      have l1 : ((bs.drop k).take 1).length ≤ 1 := by rw [List.length_take]; trivial
      generalize (bs.drop k).take 1 = ws at uq2 eq2 b1 l1
      refine ⟨q2, rfl, ⟨_, SqL.of eq2⟩, fun D hD => ?_⟩
      refine comp_lstQ (K := K) (a := q2) (xs := ws.map V.int) (fun i σ' H' => ∃ (v0 : Option V) (ks : List Int), σ' = [v0] ∧ H' D = some (lsI ks) ∧ ks.length = i ∧ isBits ks ∧ Same H5 H')
        ⟨none, [], rfl, upd_same, rfl, (fun _ z => by cases z), same_new hD _⟩ (fun i σ' H' _ ⟨_, _, _, _, _, _, e⟩ => SqL.of (e _ _ eq2)) ?_ ?_
      · rintro i v σ' H' hi ⟨v0, ks, rfl, hD', hks, hkb, sm⟩
        have hlt := (List.getElem?_eq_some_iff.mp hi).1
        have hlt2 := hlt
        rw [List.length_map] at hlt2
        obtain ⟨z, rfl, hz⟩ := int_at hi
        refine nameT ?_
        refine ⟨_, rfl, _, _, rfl, rfl, D, _, _, rfl, rfl, hD', fits_lt (by rw [List.length_map]; trivial), ?_⟩
        refine CW.next hlt ⟨_, ks ++ [1 - z], rfl, by rw [upd_same, lsI_app1], by rw [List.length_append, List.length_singleton]; trivial, isBits_app hkb fun x hx => ?_, same_upd sm _ hD⟩
        rw [List.mem_singleton.mp hx]
        rcases b1 z (List.mem_of_getElem? hz) with rfl | rfl
        · exact .inr rfl
        · exact .inl rfl
      rintro σ' H6 ⟨v0, ks, rfl, hD6, hks, hkb, s6⟩
      rw [List.length_map] at hks
      have t6 := uq2.trans s6
      refine ⟨q1, D, _, _, rfl, rfl, t6 _ _ eq1, hD6, fits (by rw [List.length_map, List.length_map]; trivial), fun q3 hq3 => ?_⟩
      rw [lsI_app]
      have uq3 := same_new hq3 (lsI (bs.take k ++ ks))
      have eq3 : upd H6 q3 (lsI (bs.take k ++ ks)) q3 = some (lsI (bs.take k ++ ks)) := upd_same
      generalize upd H6 q3 (lsI (bs.take k ++ ks)) = H7 at uq3 eq3 ⊢
      have t7 := uq1.trans (t6.trans uq3)
      refine ⟨_, rfl, _, rfl, _, _, rfl, rfl, _, rfl, a, _, rfl, SqL.of (t7 _ _ ha3), fun q4 hq4 => ?_⟩
      have ecq4 : HO.lst (cutV (bs.map V.int) (some (((k : Nat) : Int) + 1)) none) = lsI (bs.drop (k + 1)) := by rw [show ((k : Nat) : Int) + 1 = ((k + 1 : Nat) : Int) by trivial, cut_from]; rfl
      try dsimp -proj only
      rw [ecq4]
      have uq4 := same_new hq4 (lsI (bs.drop (k + 1)))
      have eq4 : upd H7 q4 (lsI (bs.drop (k + 1))) q4 = some (lsI (bs.drop (k + 1))) := upd_same
      generalize upd H7 q4 (lsI (bs.drop (k + 1))) = H8 at uq4 eq4 ⊢
      have l4 := ldr (k + 1)
      refine ⟨q3, q4, _, _, rfl, rfl, uq4 _ _ eq3, eq4, fits (by rw [List.length_map, List.length_map, List.length_append]; trivial), fun q5 hq5 => ?_⟩
      rw [lsI_app]
      have t8 := t7.trans uq4
      have t9 := t8.trans (same_new hq5 (lsI (bs.take k ++ ks ++ bs.drop (k + 1))))
      exact fin q5 _ _ (Kb.of t9) ((sd3.same t9).mono (by trivial)) ((sd3.same t8).ne hq5).symm upd_same (isBits_app (isBits_app btk hkb) (bdr _)) (by rw [List.length_append, List.length_append]; trivial)
    refine ⟨_, rfl, rfl, _, rfl, ?_⟩
    refine ite2 (fun c => ?_) (fun c => ?_)
    · clear c
      refine ⟨_, rfl, _, rfl, _, rfl, a, _, rfl, SqL.of ha3, fun q1 hq1 => ?_⟩
      have ecq1 : HO.lst (cutV (bs.map V.int) none (some ((k : Nat) : Int))) = lsI (bs.take k) := by rw [cut_to (α := Int)]; rfl
      try dsimp -proj only
      rw [ecq1]
      have uq1 := same_new hq1 (lsI (bs.take k))
      have eq1 : upd H3 q1 (lsI (bs.take k)) q1 = some (lsI (bs.take k)) := upd_same
      generalize upd H3 q1 (lsI (bs.take k)) = H4 at uq1 eq1 ⊢
      have nq1 : q1 ≠ p := (sd3.ne hq1).symm
      have sd4 := sd3.same uq1
      refine ⟨_, rfl, _, rfl, _, _, rfl, rfl, _, rfl, p, n + 1 + 1, 2, rfl, sd4, by trivial, by decide, by decide, fun x H5 x0 x1 sd5 kb5 => ?_⟩
      obtain ⟨x, rfl⟩ : ∃ j : Nat, x = (j : Int) := ⟨x.toNat, by trivial⟩
      have eq1' := kb5 _ _ nq1 eq1
      have ha5 := kb5 _ _ nap (uq1 _ _ ha3)
      have k35 := (Kb.of (d := p) uq1).trans kb5
      refine ⟨_, _, rfl, rfl, _, rfl, a, _, rfl, SqL.of ha5, fun q4 hq4 => ?_⟩
      have ecq4 : HO.lst (cutV (bs.map V.int) (some (((k : Nat) : Int) + 1 + ((x : Nat) : Int))) none) = lsI (bs.drop (k + 1 + x)) := by rw [show ((k : Nat) : Int) + 1 + ((x : Nat) : Int) = ((k + 1 + x : Nat) : Int) by trivial, cut_from]; rfl
      try dsimp -proj only
      rw [ecq4]
      have uq4 := same_new hq4 (lsI (bs.drop (k + 1 + x)))
      have eq4 : upd H5 q4 (lsI (bs.drop (k + 1 + x))) q4 = some (lsI (bs.drop (k + 1 + x))) := upd_same
      generalize upd H5 q4 (lsI (bs.drop (k + 1 + x))) = H7 at uq4 eq4 ⊢
      have l4 := ldr (k + 1 + x)
      refine ⟨q1, q4, _, _, rfl, rfl, uq4 _ _ eq1', eq4, fits (by rw [List.length_map, List.length_map]; trivial), fun q5 hq5 => ?_⟩
      rw [lsI_app]
      have t7 := uq4.trans (same_new hq5 (lsI (bs.take k ++ bs.drop (k + 1 + x))))
      exact fin q5 _ _ (k35.trans (Kb.of t7)) ((sd5.same t7).mono (by trivial)) ((sd5.same uq4).ne hq5).symm upd_same (isBits_app btk (bdr _)) (by rw [List.length_append]; trivial)
    refine ⟨_, rfl, rfl, _, rfl, ?_⟩
    refine ite2 (fun c => ?_) (fun c => ?_)
    · clear c
      refine ⟨_, rfl, _, rfl, p, n + 1 + 1, 9, rfl, sd3, by trivial, by decide, by decide, fun x H5 x0 x1 sd5 kb5 => ?_⟩
      obtain ⟨lg, elg, hlg⟩ : ∃ j : Nat, 1 + x = (j : Int) ∧ j ≤ 9 := ⟨(1 + x).toNat, by trivial, by trivial⟩
      refine ⟨_, _, rfl, rfl, (lg : Int), congrArg (fun y => [V.int y]) elg, by trivial, by trivial, fun D hD => ?_⟩
      rw [Int.toNat_natCast]
      have nD : D ≠ p := (sd5.ne hD).symm
      refine comp_rngQ (fun i σ' H' => ∃ (v0 : Option V) (ks : List Int), σ' = [v0, some (.ref p)] ∧ H' D = some (lsI ks) ∧ ks.length = i ∧ isBits ks ∧ SD (n + 1 + 1 + 1 + (i : Int)) p H' ∧ Kb p H5 H')
        ⟨none, [], rfl, upd_same, rfl, (fun _ z => by cases z), (sd5.same (same_new hD _)).mono (by trivial), Kb.of (same_new hD _)⟩ ?_ ?_
      · rintro i σ' H' hi ⟨v0, ks, rfl, hD', hkl, hkb, sd', kb'⟩
        refine nameT ?_
        refine ⟨_, rfl, p, n + 1 + 1 + 1 + (i : Int), 2, rfl, sd', by trivial, by decide, by decide, fun z H9 z0 z1 sd9 kb9 => ?_⟩
        refine ⟨D, _, _, rfl, rfl, kb9 _ _ nD hD', fits_lt (by rw [List.length_map]; trivial), ?_⟩
        refine CW.next hi ⟨_, ks ++ [z], rfl, by rw [upd_same, lsI_app1], by rw [List.length_append, List.length_singleton]; trivial, isBits_app hkb fun x hx => ?_, (sd9.up nD.symm).mono (by trivial), (kb'.trans kb9).new _ hD⟩
        rw [List.mem_singleton.mp hx]; trivial
      rintro σ' H6 ⟨v0, bh, rfl, hD6, hbl2, hbb, sd6, kb6⟩
      have k36 := kb5.trans kb6
      refine ⟨a, D, _, _, rfl, rfl, k36 _ _ nap ha3, hD6, fits (by rw [List.length_map, List.length_map]; trivial), fun q5 hq5 => ?_⟩
      rw [lsI_app]
      have t7 := same_new hq5 (lsI (bs ++ bh))
      exact fin q5 _ _ (k36.trans (Kb.of t7)) ((sd6.same t7).mono (by trivial)) (sd6.ne hq5).symm upd_same (isBits_app hbits hbb) (by rw [List.length_append]; trivial)
    refine ⟨_, rfl, rfl, _, rfl, ?_⟩
    refine ite2 (fun c => ?_) (fun c => ?_)
    · clear c
      refine ⟨_, rfl, _, rfl, _, rfl, a, _, rfl, SqL.of ha3, fun q1 hq1 => ?_⟩
      have ecq1 : HO.lst (cutV (bs.map V.int) none (some ((k : Nat) : Int))) = lsI (bs.take k) := by rw [cut_to (α := Int)]; rfl
      try dsimp -proj only
      rw [ecq1]
      have uq1 := same_new hq1 (lsI (bs.take k))
      have eq1 : upd H3 q1 (lsI (bs.take k)) q1 = some (lsI (bs.take k)) := upd_same
      generalize upd H3 q1 (lsI (bs.take k)) = H4 at uq1 eq1 ⊢
      have nq1 : q1 ≠ p := (sd3.ne hq1).symm
      have sd4 := sd3.same uq1
      refine ⟨_, rfl, p, n + 1 + 1, 2, rfl, sd4, by trivial, by decide, by decide, fun x H5 x0 x1 sd5 kb5 => ?_⟩
      have eq1' := kb5 _ _ nq1 eq1
      have ha5 := kb5 _ _ nap (uq1 _ _ ha3)
      have k35 := (Kb.of (d := p) uq1).trans kb5
      refine ⟨(by show 1 ≤ sizeLine; decide), fun q2 hq2 => ?_⟩
      have uq2 := same_new hq2 (.lst [V.int x])
      have eq2 : upd H5 q2 (.lst [V.int x]) q2 = some (lsI [x]) := upd_same
      generalize upd H5 q2 (.lst [V.int x]) = H6 at uq2 eq2 ⊢
      refine ⟨q1, q2, _, _, rfl, rfl, uq2 _ _ eq1', eq2, fits (by rw [List.length_map]; show _ + 1 ≤ _; trivial), fun q3 hq3 => ?_⟩
      rw [lsI_app]
      have uq3 := same_new hq3 (lsI (bs.take k ++ [x]))
      have eq3 : upd H6 q3 (lsI (bs.take k ++ [x])) q3 = some (lsI (bs.take k ++ [x])) := upd_same
      generalize upd H6 q3 (lsI (bs.take k ++ [x])) = H7 at uq3 eq3 ⊢
      have t7 := uq2.trans uq3
      refine ⟨_, rfl, _, rfl, _, rfl, a, _, rfl, SqL.of (t7 _ _ ha5), fun q4 hq4 => ?_⟩
      have ecq4 : HO.lst (cutV (bs.map V.int) (some ((k : Nat) : Int)) none) = lsI (bs.drop k) := by rw [cut_from]; rfl
      try dsimp -proj only
      rw [ecq4]
      have uq4 := same_new hq4 (lsI (bs.drop k))
      have eq4 : upd H7 q4 (lsI (bs.drop k)) q4 = some (lsI (bs.drop k)) := upd_same
      generalize upd H7 q4 (lsI (bs.drop k)) = H8 at uq4 eq4 ⊢
      have l4 := ldr k
      refine ⟨q3, q4, _, _, rfl, rfl, uq4 _ _ eq3, eq4, fits (by rw [List.length_map, List.length_map, List.length_append, List.length_singleton]; trivial), fun q5 hq5 => ?_⟩
      rw [lsI_app]
      have t8 := t7.trans uq4
      have t9 := t8.trans (same_new hq5 (lsI (bs.take k ++ [x] ++ bs.drop k)))
      refine fin q5 _ _ (k35.trans (Kb.of t9)) ((sd5.same t9).mono (by trivial)) ((sd5.same t8).ne hq5).symm upd_same (isBits_app (isBits_app btk fun y hy => ?_) (bdr k)) (by rw [List.length_append, List.length_append, List.length_singleton]; trivial)
      rw [List.mem_singleton.mp hy]; trivial
    refine ⟨_, rfl, rfl, _, rfl, ?_⟩
    refine ite2 (fun c => ?_) (fun c => ?_)
    · clear c
      refine ⟨_, rfl, p, n + 1 + 1, 61, rfl, sd3, by trivial, by decide, by decide, fun lg H5 x0 x1 sd5 kb5 => ?_⟩
      obtain ⟨lg, rfl⟩ : ∃ j : Nat, lg = (j : Int) := ⟨lg.toNat, by trivial⟩
      refine ⟨_, rfl, by trivial, by trivial, fun D hD => ?_⟩
      rw [Int.toNat_natCast]
      have nD : D ≠ p := (sd5.ne hD).symm
      refine comp_rngQ (fun i σ' H' => ∃ (v0 : Option V) (ks : List Int), σ' = [v0, some (.ref p)] ∧ H' D = some (lsI ks) ∧ ks.length = i ∧ isBits ks ∧ SD (n + 1 + 1 + 1 + (i : Int)) p H' ∧ Kb p H5 H')
        ⟨none, [], rfl, upd_same, rfl, (fun _ z => by cases z), (sd5.same (same_new hD _)).mono (by trivial), Kb.of (same_new hD _)⟩ ?_ ?_
      · rintro i σ' H' hi ⟨v0, ks, rfl, hD', hkl, hkb, sd', kb'⟩
        refine nameT ?_
        refine ⟨_, rfl, p, n + 1 + 1 + 1 + (i : Int), 2, rfl, sd', by trivial, by decide, by decide, fun z H9 z0 z1 sd9 kb9 => ?_⟩
        refine ⟨D, _, _, rfl, rfl, kb9 _ _ nD hD', fits_lt (by rw [List.length_map]; trivial), ?_⟩
        refine CW.next hi ⟨_, ks ++ [z], rfl, by rw [upd_same, lsI_app1], by rw [List.length_append, List.length_singleton]; trivial, isBits_app hkb fun x hx => ?_, (sd9.up nD.symm).mono (by trivial), (kb'.trans kb9).new _ hD⟩
        rw [List.mem_singleton.mp hx]; trivial
      rintro σ' H6 ⟨v0, bh, rfl, hD6, hbl2, hbb, sd6, kb6⟩
      exact fin D _ _ (kb5.trans kb6) (sd6.mono (by trivial)) nD hD6 hbb (by trivial)
    refine ⟨_, rfl, rfl, _, rfl, ?_⟩
    refine ite2 (fun c => ?_) (fun c => ?_)
    · clear c
      refine ⟨_, rfl, _, rfl, a, _, rfl, .inl (SqL.of ha3), _, rfl, a, _, rfl, .inl (SqL.of ha3), _, rfl, p, n + 1 + 1, 9, rfl, sd3, by trivial, by decide, by decide, fun x H5 x0 x1 sd5 kb5 => ?_⟩
      have ha5 := kb5 _ _ nap ha3
      obtain ⟨j, ej, hj⟩ : ∃ j : Nat, (((bs.map V.int).length : Nat) : Int) - (if x < (((bs.map V.int).length : Nat) : Int) then x else (((bs.map V.int).length : Nat) : Int)) = (j : Int) ∧ j ≤ bs.length := by
        rw [List.length_map]
        refine ⟨(((bs.length : Nat) : Int) - (if x < ((bs.length : Nat) : Int) then x else ((bs.length : Nat) : Int))).toNat, ?_, ?_⟩
        all_goals (split <;> trivial)
      refine ⟨_, _, rfl, _, _, rfl, rfl, (j : Int), congrArg V.int ej, a, _, rfl, SqL.of ha5, fun q1 hq1 => ?_⟩
      have ecq : HO.lst (cutV (bs.map V.int) none (some ((j : Nat) : Int))) = lsI (bs.take j) := by rw [cut_to (α := Int)]; rfl
      try dsimp -proj only
      rw [ecq]
      have uq1 := same_new hq1 (lsI (bs.take j))
      exact fin q1 _ _ (kb5.trans (Kb.of uq1)) ((sd5.same uq1).mono (by trivial)) (sd5.ne hq1).symm upd_same (isBits_take hbits j) (by rw [List.length_take]; trivial)
    refine ⟨_, rfl, ?_⟩
    exact fin a bs H3 (Kb.refl _ _) (sd3.mono (by trivial)) nap ha3 hbits (by trivial)
end
end K63
set_option Elab.async false
set_option linter.all false
set_option maxRecDepth 100000
set_option maxHeartbeats 4000000
namespace K63
open PySem L2 PySem.W PH
section
variable {P : Program} {w : World} {K : PySem.W.Frag} {mg : Str → Option Value} {base : Heap}
theorem sc_lrd : FnScope ["bits", "caught", "found", "handed", "e", "due", "others"] ["bits"] (defScope s_lrd) := ⟨rfl, rfl, rfl, by decide +kernel, rfl, by decide +kernel, by decide +kernel⟩
theorem ok_lrd {f c_Broken c_NoCode c_NoName c_NoNumber c_NoPlace c_NoRow c_NoText c_PackError f_rdc f_due : Addr} {fd d_rdc d_due : FuncData} (F : Fun K "_law_read" "_law_read" s_lrd f fd) (B : Bls mg) (X_Broken : Ex K mg "Broken" c_Broken) (X_PackError : Ex K mg "PackError" c_PackError) (m_Broken : mg "Broken" = some (.ref c_Broken)) (m_NoCode : mg "NoCode" = some (.ref c_NoCode)) (m_NoName : mg "NoName" = some (.ref c_NoName)) (m_NoNumber : mg "NoNumber" = some (.ref c_NoNumber)) (m_NoPlace : mg "NoPlace" = some (.ref c_NoPlace)) (m_NoRow : mg "NoRow" = some (.ref c_NoRow)) (m_NoText : mg "NoText" = some (.ref c_NoText)) (m_PackError : mg "PackError" = some (.ref c_PackError)) (r_Broken : ExR K c_PackError c_Broken c_NoCode c_NoName c_NoNumber c_NoPlace c_NoRow c_NoText) (k_Broken : ExK K c_Broken c_NoNumber c_NoPlace c_NoCode c_NoName c_NoRow c_NoText) 
    (G_rdc : FnOk P w K mg base (CXW P w) 6 f_rdc d_rdc ["bits"] (spRdC c_Broken)) (b_rdc : Binds K d_rdc ["bits"] []) (k_rdc : keepIn K (.ref f_rdc) = true) (m_rdc : mg "read_container" = some (.ref f_rdc)) 
    (G_due : FnOk P w K mg base (CXW P w) 3 f_due d_due ["bits"] (spDue63)) (b_due : Binds K d_due ["bits"] []) (k_due : keepIn K (.ref f_due) = true) (m_due : mg "_law_due" = some (.ref f_due)) : FnOk P w K mg base (CXW P w) 7 f fd ["bits"] (spLRd63) := by
  refine F.okN sc_lrd (fun vs H Q E h => ?_) (fun cdv A outer s H vs Q E hr h => ?_)
  · obtain ⟨a, bs, rfl, _⟩ := h
    rfl
  · obtain ⟨a, bs, rfl, ha, hbits, hl, hQ⟩ := h
    refine ⟨_, (pss_cons (ps_set (i := 1) sc_lrd.nd rfl (Or.inl rfl) pe_non)
      (pss_cons (ps_set (i := 2) sc_lrd.nd rfl (Or.inl rfl) pe_non)
      (pss_cons (ps_set (i := 3) sc_lrd.nd rfl (Or.inl rfl) (pe_callTy call_list_of rfl B.list boot_list' (pa_cons (pv 0) pa_nil)))
      (pss_cons (ps_try (i := 4) (tb := fun E' => tAsg (tCall (spRdC c_Broken) [] E' (tCons (tVar 3) tNil)) (gName 2)) rfl rfl sc_lrd.nd rfl rfl rfl X_PackError.mg X_PackError.cl
        (fun pins σ xe' E' hp => psa_set (i := 2) sc_lrd.nd rfl (Or.inl rfl) (pea_call G_rdc hr rfl m_rdc k_rdc b_rdc .nil hp (pa_cons (pv 3) pa_nil)))
        (fun a => (pss_one (ps_set (i := 1) sc_lrd.nd rfl (Or.inl rfl) (pv 4)))))
      (pss_cons (ps_set (i := 5) sc_lrd.nd rfl (Or.inl rfl) (pe_call G_due (hr.mono (show 3 ≤ 6 by decide)) rfl m_due k_due b_due .nil passN (pa_cons (pv 0) pa_nil)))
      (pss_cons (ps_if (pt_cmpR (op_neL (units_of hr)) (pv 3) (pv 0) (nomark _))
        (pss_one (ps_ret pe_bl))
        pss_nil)
      (pss_cons (ps_if (pt_cmp (pc_notN (pv 5)))
        (pss_one (ps_ret (pe_and (pe_cmp (pc_isN (pv 1))) (pe_and (pe_callB (r := rIsi K) call_isi rfl B.isi boot_isi (pa_cons (pv 2) (pa_cons (pe_bltn (v := .ty "tuple") rfl B.tuple boot_tuple' rfl) pa_nil))) (pe_and (pe_cmpR (op_eqD (units_of hr)) (pv 2) (pv 5) (nomark _)) (pe_one (pe_callB (r := rIsi K) call_isi rfl B.isi boot_isi (pa_cons (pe_ix ix_tup (pv 2) pe_int (fun _ _ => rfl)) (pa_cons (pe_bltn (v := .ty "list") rfl B.list boot_list' rfl) pa_nil)))))))))
        pss_nil)
      (pss_cons (ps_set (i := 6) sc_lrd.nd rfl (Or.inl rfl) (pe_lst (pa_cons (pe_callB (r := rIsi K) call_isi rfl B.isi boot_isi (pa_cons (pv 1) (pa_cons (pe_glob (v := .ref c_NoCode) rfl m_NoCode rfl) pa_nil))) (pa_cons (pe_callB (r := rIsi K) call_isi rfl B.isi boot_isi (pa_cons (pv 1) (pa_cons (pe_glob (v := .ref c_NoName) rfl m_NoName rfl) pa_nil))) (pa_cons (pe_callB (r := rIsi K) call_isi rfl B.isi boot_isi (pa_cons (pv 1) (pa_cons (pe_glob (v := .ref c_NoNumber) rfl m_NoNumber rfl) pa_nil))) pa_nil)))))
      (pss_cons (ps_set (i := 6) sc_lrd.nd rfl (Or.inl rfl) (pe_op op_cat (pv 6) (pe_lst (pa_cons (pe_callB (r := rIsi K) call_isi rfl B.isi boot_isi (pa_cons (pv 1) (pa_cons (pe_glob (v := .ref c_NoPlace) rfl m_NoPlace rfl) pa_nil))) (pa_cons (pe_callB (r := rIsi K) call_isi rfl B.isi boot_isi (pa_cons (pv 1) (pa_cons (pe_glob (v := .ref c_NoRow) rfl m_NoRow rfl) pa_nil))) (pa_cons (pe_callB (r := rIsi K) call_isi rfl B.isi boot_isi (pa_cons (pv 1) (pa_cons (pe_glob (v := .ref c_NoText) rfl m_NoText rfl) pa_nil))) pa_nil))))))
      (pss_one (ps_ret (pe_and (pe_callB (r := rIsi K) call_isi rfl B.isi boot_isi (pa_cons (pv 1) (pa_cons (pe_glob (v := .ref c_Broken) rfl m_Broken rfl) pa_nil))) (pe_and (pe_callB (r := rIsi K) call_isi rfl B.isi boot_isi (pa_cons (pv 1) (pa_cons (pe_bltn (v := .ty "ValueError") rfl B.ve boot_VE rfl) pa_nil))) (pe_one (pe_cmpR op_notIn_seq pe_bl (pv 6) (by with_unfolding_all rfl)))))))))))))))), ?_⟩
    refine ⟨_, rfl, a, _, rfl, .inl (SqL.of ha), fun hd hhd => ?_⟩
    have u0 := same_new hhd (.lst (bs.map V.int))
    have e0 : upd H hd (.lst (bs.map V.int)) hd = some (lsI bs) := upd_same
    generalize upd H hd (.lst (bs.map V.int)) = H0 at u0 e0 ⊢
    refine ⟨_, rfl, hd, bs, rfl, e0, hbits, hl, (fun hno H1 s1 => ?_), fun sz tot vs hr c P ws H1 s1 hc nw hbk => ?_⟩
    · refine ⟨c_Broken, rfl, X_Broken.cl, r_Broken.m, fun x hx => ?_⟩
      have s3 := (u0.trans s1).trans (same_new hx (excO x c_Broken))
      have s03 := s1.trans (same_new hx (excO x c_Broken))
      have hxx : upd H1 x (excO x c_Broken) x = some (excO x c_Broken) := upd_same
      generalize upd H1 x (excO x c_Broken) = H3 at s3 s03 hxx ⊢
      refine ⟨_, rfl, ?_⟩
      refine ⟨_, rfl, a, bs, rfl, s3 _ _ ha, hbits, hl, (fun _ H4 s4 => ?_), (fun sz tot vs hr => by rw [hno] at hr; cases hr)⟩
      have hx4 := s4 _ _ hxx
      refine ⟨_, rfl, _, rfl, hd, a, _, _, rfl, rfl, SqL.of (s4 _ _ (s03 _ _ e0)), SqL.of (s4 _ _ (s3 _ _ ha)), _, rfl, ?_⟩
      refine iteNS rfl ?_
      refine ⟨_, rfl, _, rfl, ?_⟩
      refine iteF ?_
      refine ⟨_, rfl, _, _, _, _, false, rfl, .exc X_Broken.cl hx4, rfl, k_Broken.k3, _, rfl, _, _, _, _, false, rfl, .exc X_Broken.cl hx4, rfl, k_Broken.k4, _, rfl, _, _, _, _, false, rfl, .exc X_Broken.cl hx4, rfl, k_Broken.k1, (by show 3 ≤ sizeLine; decide), fun l1 hl1 => ?_⟩
      have s5 := same_new hl1 (.lst [V.bl false, .bl false, .bl false])
      have e1 : upd H4 l1 (.lst [V.bl false, .bl false, .bl false]) l1 = some (.lst [V.bl false, .bl false, .bl false]) := upd_same
      have hx5 := s5 _ _ hx4
      generalize upd H4 l1 (.lst [V.bl false, .bl false, .bl false]) = H5 at s5 e1 hx5 ⊢
      refine ⟨_, rfl, _, rfl, _, _, _, _, false, rfl, .exc X_Broken.cl hx5, rfl, k_Broken.k2, _, rfl, _, _, _, _, false, rfl, .exc X_Broken.cl hx5, rfl, k_Broken.k5, _, rfl, _, _, _, _, false, rfl, .exc X_Broken.cl hx5, rfl, k_Broken.k6, (by show 3 ≤ sizeLine; decide), fun l2 hl2 => ?_⟩
      have s6 := same_new hl2 (.lst [V.bl false, .bl false, .bl false])
      have e2 : upd H5 l2 (.lst [V.bl false, .bl false, .bl false]) l2 = some (.lst [V.bl false, .bl false, .bl false]) := upd_same
      have hx6 := s6 _ _ hx5
      generalize upd H5 l2 (.lst [V.bl false, .bl false, .bl false]) = H6 at s6 e2 hx6 ⊢
      refine ⟨l1, l2, _, _, rfl, rfl, s6 _ _ e1, e2, (by show 6 ≤ sizeLine; decide), fun D hD => ?_⟩
      have s7 := same_new hD (.lst ([V.bl false, .bl false, .bl false] ++ [V.bl false, .bl false, .bl false]))
      have e3 : upd H6 D (.lst ([V.bl false, .bl false, .bl false] ++ [V.bl false, .bl false, .bl false])) D = some (.lst [V.bl false, .bl false, .bl false, .bl false, .bl false, .bl false]) := upd_same
      have hx7 := s7 _ _ hx6
      generalize upd H6 D (.lst ([V.bl false, .bl false, .bl false] ++ [V.bl false, .bl false, .bl false])) = H7 at s7 e3 hx7 ⊢
      refine ⟨_, rfl, _, _, _, _, true, rfl, .exc X_Broken.cl hx7, rfl, kit_refl _ _, _, rfl, ?_⟩
      refine iteT ?_
      refine ⟨_, rfl, _, _, _, _, true, rfl, .exc X_Broken.cl hx7, rfl, r_Broken.v, _, rfl, ?_⟩
      refine iteT ?_
      refine ⟨_, rfl, D, _, rfl, .inl (SqL.of e3), rfl, rfl, ?_⟩
      exact hQ _ (s3.trans (s4.trans (s5.trans (s6.trans s7))))
    · have t1 := u0.trans s1
      refine ⟨_, rfl, a, bs, rfl, t1 _ _ ha, hbits, hl, (fun hno => by rw [hr] at hno; cases hno), fun sz' tot' vs' hr' c2 P2 ws2 H2 s2 hc2 wr2 hbk2 => ?_⟩
      obtain ⟨e1, e2⟩ := Prod.mk.inj (Option.some.inj (hr.symm.trans hr'))
      obtain ⟨e2, e3⟩ := Prod.mk.inj e2
      subst e1 e2 e3
      refine ⟨_, rfl, _, rfl, hd, a, _, _, rfl, rfl, SqL.of ((s1.trans s2) _ _ e0), SqL.of ((t1.trans s2) _ _ ha), _, rfl, ?_⟩
      refine iteNS rfl ?_
      refine ⟨_, rfl, _, rfl, ?_⟩
      refine iteT ?_
      refine ⟨_, rfl, _, rfl, ?_⟩
      refine iteT ?_
      have hcB := s2 _ _ hc
      refine ⟨_, rfl, _, _, _, _, true, rfl, .of (.tup hcB), rfl, kit_refl _ _, _, rfl, ?_⟩
      refine iteT ?_
      have d1 := deep_con (K := K) hcB (nw.bk.same s2)
      have d2 := deep_con (K := K) hc2 wr2
      rw [hbk] at d1
      rw [hbk2] at d2
      refine ⟨_, rfl, _, rfl, _, _, d1, d2, ht_con _ _ _, _, rfl, ?_⟩
      rw [eqD_refl]
      refine iteT ?_
      refine ⟨_, rfl, c, _, _, _, rfl, rfl, SqT.of hcB, rfl, _, _, _, _, true, rfl, .of (.lst (nw.bk.same s2).at_), rfl, kit_refl _ _, ?_⟩
      exact hQ _ (t1.trans s2)
end
end K63
set_option Elab.async false
set_option linter.all false
set_option maxRecDepth 100000
set_option maxHeartbeats 4000000
namespace K63
open PySem L2 PySem.W PH
section
variable {P : Program} {w : World} {K : PySem.W.Frag} {mg : Str → Option Value} {base : Heap}
theorem sc_law : FnScope ["script", "container", "handed", "bits", "kept", "found", "way", "some", "state", "k"] ["script"] (defScope s_law) := ⟨rfl, rfl, rfl, by decide +kernel, rfl, by decide +kernel, by decide +kernel⟩
theorem ok_law {f c_Broken f_cbits f_rdc f_state f_cont f_wrt f_spo f_lrd : Addr} {fd d_cbits d_rdc d_state d_cont d_wrt d_spo d_lrd : FuncData} (F : Fun K "law" "law" s_law f fd) (B : Bls mg) 
    (G_cbits : FnOk P w K mg base (CXW P w) 6 f_cbits d_cbits ["container"] (spCBits)) (b_cbits : Binds K d_cbits ["container"] []) (k_cbits : keepIn K (.ref f_cbits) = true) (m_cbits : mg "container_bits" = some (.ref f_cbits)) 
    (G_rdc : FnOk P w K mg base (CXW P w) 6 f_rdc d_rdc ["bits"] (spRdC c_Broken)) (b_rdc : Binds K d_rdc ["bits"] []) (k_rdc : keepIn K (.ref f_rdc) = true) (m_rdc : mg "read_container" = some (.ref f_rdc)) 
    (G_state : FnOk P w K mg base (CXW P w) 1 f_state d_state ["script", "k"] (spState K)) (b_state : Binds K d_state ["script", "k"] []) (k_state : keepIn K (.ref f_state) = true) (m_state : mg "_law_state" = some (.ref f_state)) 
    (G_cont : FnOk P w K mg base (CXW P w) 3 f_cont d_cont ["script"] (spCont63 K)) (b_cont : Binds K d_cont ["script"] []) (k_cont : keepIn K (.ref f_cont) = true) (m_cont : mg "_law_container" = some (.ref f_cont)) 
    (G_wrt : FnOk P w K mg base (CXW P w) 3 f_wrt d_wrt ["container"] (spWrt63)) (b_wrt : Binds K d_wrt ["container"] []) (k_wrt : keepIn K (.ref f_wrt) = true) (m_wrt : mg "_law_written" = some (.ref f_wrt)) 
    (G_spo : FnOk P w K mg base (CXW P w) 2 f_spo d_spo ["bits", "state"] (spSpo63)) (b_spo : Binds K d_spo ["bits", "state"] []) (k_spo : keepIn K (.ref f_spo) = true) (m_spo : mg "_law_spoilt" = some (.ref f_spo)) 
    (G_lrd : FnOk P w K mg base (CXW P w) 7 f_lrd d_lrd ["bits"] (spLRd63)) (b_lrd : Binds K d_lrd ["bits"] []) (k_lrd : keepIn K (.ref f_lrd) = true) (m_lrd : mg "_law_read" = some (.ref f_lrd)) : FnOk P w K mg base (CXW P w) 8 f fd ["script"] (spLaw K) := by
  refine F.okN sc_law (fun vs H Q E h => ?_) (fun cdv A outer s H vs Q E hr h => ?_)
  · obtain ⟨a, ns, rfl, _⟩ := h
    rfl
  · obtain ⟨a, ns, rfl, hS, h63, qEnd⟩ := h
    refine ⟨_, (pss_cons (ps_set (i := 1) sc_law.nd rfl (Or.inl rfl) (pe_call G_cont (hr.mono (show 3 ≤ 7 by decide)) rfl m_cont k_cont b_cont .nil passN (pa_cons (pv 0) pa_nil)))
      (pss_cons (ps_set (i := 2) sc_law.nd rfl (Or.inl rfl) (pe_tup (pa_cons (pe_ix ix_tup (pv 1) pe_int (fun _ _ => rfl)) (pa_cons (pe_ix ix_tup (pv 1) pe_int (fun _ _ => rfl)) (pa_cons (pe_comp (N := ["way", "bits"]) (js := [none, none]) (g := (gTup K 2 (gCons (gName 0) (gCons (gName 1) gNil)))) (tc := tTrue) (te := (tTup (tCons (tVar 0) (tCons (tCB (rListOf K) (tCons (tVar 1) tNil)) tNil)))) rfl (comp_scope (osc := defScope s_law) (XN := ["script", "container", "handed", "bits", "kept", "found", "way", "some", "state", "k"]) rfl rfl rfl (by decide +kernel)) (pi_list (pe_ix ix_tup (pv 1) pe_int (fun _ _ => rfl))) (fun _ _ _ _ => (pg_tup rfl (pgs_cons (pg_name (i := 0) (show (["way", "bits"] : List Str).Nodup by decide +kernel) rfl (Or.inl rfl)) (pgs_cons (pg_name (i := 1) (show (["way", "bits"] : List Str).Nodup by decide +kernel) rfl (Or.inl rfl)) pgs_nil)))) (fun _ _ _ _ => pif_nil) (fun _ _ _ _ => (pe_tup (pa_cons (pv 0) (pa_cons (pe_callTy call_list_of rfl B.list boot_list' (pa_cons (pv 1) pa_nil)) pa_nil))))) pa_nil)))))
      (pss_cons (ps_set (i := 3) sc_law.nd rfl (Or.inl rfl) (pe_call G_cbits (hr.mono (show 6 ≤ 7 by decide)) rfl m_cbits k_cbits b_cbits .nil passN (pa_cons (pv 2) pa_nil)))
      (pss_cons (ps_if (PW.pt (pw_or (pt_not (pt_val (pe_callB (r := rIsi K) call_isi rfl B.isi boot_isi (pa_cons (pv 3) (pa_cons (pe_bltn (v := .ty "list") rfl B.list boot_list' rfl) pa_nil))))) (pw_or (pt_cmpR (op_neL (units_of hr)) (pv 3) (pe_call G_wrt (hr.mono (show 3 ≤ 7 by decide)) rfl m_wrt k_wrt b_wrt .nil passN (pa_cons (pv 1) pa_nil)) (nomark _)) (pw_or1 (pt_cmpR (op_neD (units_of hr)) (pv 2) (pv 1) (nomark _))))))
        (pss_one (ps_ret pe_bl))
        pss_nil)
      (pss_cons (ps_set (i := 4) sc_law.nd rfl (Or.inl rfl) (pe_callTy call_list_of rfl B.list boot_list' (pa_cons (pv 3) pa_nil)))
      (pss_cons (ps_set (i := 5) sc_law.nd rfl (Or.inl rfl) (pe_call G_rdc (hr.mono (show 6 ≤ 7 by decide)) rfl m_rdc k_rdc b_rdc .nil passN (pa_cons (pv 3) pa_nil)))
      (pss_cons (ps_if (PW.pt (pw_or (pt_cmpR (op_neD (units_of hr)) (pv 5) (pv 1) (nomark _)) (pw_or (pt_cmpR (op_neL (units_of hr)) (pv 3) (pv 4) (nomark _)) (pw_or1 (pt_cmpR (op_neL (units_of hr)) (pe_comp (N := ["bit"]) (js := [none]) (g := (gName 0)) (tc := (tB (tCB (rIsi K) (tCons (tVar 0) (tCons (tC (.ty "bool")) tNil))))) (te := (tVar 0)) rfl (comp_scope (osc := defScope s_law) (XN := ["script", "container", "handed", "bits", "kept", "found", "way", "some", "state", "k"]) rfl rfl rfl (by decide +kernel)) (pi_list (pv 3)) (fun _ _ _ _ => pg_name (i := 0) (show (["bit"] : List Str).Nodup by decide +kernel) rfl (Or.inl rfl)) (fun _ _ _ _ => (pif_one (pt_val (pe_callB (r := rIsi K) call_isi rfl B.isi boot_isi (pa_cons (pv 0) (pa_cons (pe_bltn (v := .ty "bool") rfl B.bool boot_bool' rfl) pa_nil)))))) (fun _ _ _ _ => (pv 0))) (pe_lst pa_nil) (nomark _))))))
        (pss_one (ps_ret pe_bl))
        pss_nil)
      (pss_cons (ps_if (pt_cmpR (op_neL (units_of hr)) (pe_comp (N := ["x"]) (js := [none]) (g := (gName 0)) (tc := (tB (tCB (rIsi K) (tCons (tVar 0) (tCons (tC (.ty "bool")) tNil))))) (te := (tVar 0)) rfl (comp_scope (osc := defScope s_law) (XN := ["script", "container", "handed", "bits", "kept", "found", "way", "some", "state", "k"]) rfl rfl rfl (by decide +kernel)) (pi_list (pe_op op_cat (pe_callTy call_list_of rfl B.list boot_list' (pa_cons (pe_slice sl_tup (pv 5) po_none (po_some pe_int)) pa_nil)) (pe_comp (N := ["way", "some"]) (js := [none, none]) (g := (gTup K 2 (gCons (gName 0) (gCons (gName 1) gNil)))) (tc := tTrue) (te := (tVar 0)) rfl (comp_scope (osc := defScope s_law) (XN := ["script", "container", "handed", "bits", "kept", "found", "way", "some", "state", "k"]) rfl rfl rfl (by decide +kernel)) (pi_list (pe_ix ix_tup (pv 5) pe_int (fun _ _ => rfl))) (fun _ _ _ _ => (pg_tup rfl (pgs_cons (pg_name (i := 0) (show (["way", "some"] : List Str).Nodup by decide +kernel) rfl (Or.inl rfl)) (pgs_cons (pg_name (i := 1) (show (["way", "some"] : List Str).Nodup by decide +kernel) rfl (Or.inl rfl)) pgs_nil)))) (fun _ _ _ _ => pif_nil) (fun _ _ _ _ => (pv 0))))) (fun _ _ _ _ => pg_name (i := 0) (show (["x"] : List Str).Nodup by decide +kernel) rfl (Or.inl rfl)) (fun _ _ _ _ => (pif_one (pt_val (pe_callB (r := rIsi K) call_isi rfl B.isi boot_isi (pa_cons (pv 0) (pa_cons (pe_bltn (v := .ty "bool") rfl B.bool boot_bool' rfl) pa_nil)))))) (fun _ _ _ _ => (pv 0))) (pe_lst pa_nil) (nomark _))
        (pss_one (ps_ret pe_bl))
        pss_nil)
      (pss_cons (ps_for PassesOwn.never rfl (pi_list (pe_ix ix_tup (pv 5) pe_int (fun _ _ => rfl))) (pg_tup rfl (pgs_cons (pg_name (i := 6) sc_law.nd rfl (Or.inl rfl)) (pgs_cons (pg_name (i := 7) sc_law.nd rfl (Or.inl rfl)) pgs_nil)))
        (pss_one (ps_expr (pe_bm PySem.F.plainAttrs_list PySem.F.slot_list_append PySem.F.type_list_append mt_append (pv 7) (pa_cons pe_int pa_nil)))))
      (pss_cons (ps_if (pt_cmpR (op_neD (units_of hr)) (pe_ix ix_tup (pv 5) pe_int (fun _ _ => rfl)) (pe_comp (N := ["way", "some"]) (js := [none, none]) (g := (gTup K 2 (gCons (gName 0) (gCons (gName 1) gNil)))) (tc := tTrue) (te := (tTup (tCons (tVar 0) (tCons (tOp rCat (tVar 1) (tLst (tCons (tC (.int 1)) tNil))) tNil)))) rfl (comp_scope (osc := defScope s_law) (XN := ["script", "container", "handed", "bits", "kept", "found", "way", "some", "state", "k"]) rfl rfl rfl (by decide +kernel)) (pi_list (pe_ix ix_tup (pv 1) pe_int (fun _ _ => rfl))) (fun _ _ _ _ => (pg_tup rfl (pgs_cons (pg_name (i := 0) (show (["way", "some"] : List Str).Nodup by decide +kernel) rfl (Or.inl rfl)) (pgs_cons (pg_name (i := 1) (show (["way", "some"] : List Str).Nodup by decide +kernel) rfl (Or.inl rfl)) pgs_nil)))) (fun _ _ _ _ => pif_nil) (fun _ _ _ _ => (pe_tup (pa_cons (pv 0) (pa_cons (pe_op op_cat (pv 1) (pe_lst (pa_cons pe_int pa_nil))) pa_nil))))) (nomark _))
        (pss_one (ps_ret pe_bl))
        pss_nil)
      (pss_cons (ps_expr (pe_bm PySem.F.plainAttrs_list PySem.F.slot_list_append PySem.F.type_list_append mt_append (pe_ix ix_tup (pv 5) pe_int (fun _ _ => rfl)) (pa_cons (pe_tup (pa_cons pe_int (pa_cons (pe_lst pa_nil) pa_nil))) pa_nil)))
      (pss_cons (ps_if (PW.pt (pw_or (pt_cmpR (op_neL (units_of hr)) (pv 3) (pv 4) (nomark _)) (pw_or1 (pt_cmpR (op_neD (units_of hr)) (pe_call G_rdc (hr.mono (show 6 ≤ 7 by decide)) rfl m_rdc k_rdc b_rdc .nil passN (pa_cons (pv 3) pa_nil)) (pv 1) (nomark _)))))
        (pss_one (ps_ret pe_bl))
        pss_nil)
      (pss_cons (ps_expr (pe_bm PySem.F.plainAttrs_list PySem.F.slot_list_append PySem.F.type_list_append mt_append (pv 3) (pa_cons pe_int pa_nil)))
      (pss_cons (ps_if (PW.pt (pw_or (pt_cmpR (op_neD (units_of hr)) (pv 2) (pv 1) (nomark _)) (pw_or1 (pt_cmpR (op_neL (units_of hr)) (pe_call G_cbits (hr.mono (show 6 ≤ 7 by decide)) rfl m_cbits k_cbits b_cbits .nil passN (pa_cons (pv 2) pa_nil)) (pv 4) (nomark _)))))
        (pss_one (ps_ret pe_bl))
        pss_nil)
      (pss_cons (ps_set (i := 8) sc_law.nd rfl (Or.inl rfl) (pe_call G_state (hr.mono (show 1 ≤ 7 by decide)) rfl m_state k_state b_state .nil passN (pa_cons (pv 0) (pa_cons pe_int pa_nil))))
      (pss_cons (ps_for PassesOwn.never rfl (pi_range1 rfl B.range (pa_cons pe_int pa_nil)) (pg_name (i := 9) sc_law.nd rfl (Or.inl rfl))
        (pss_one (ps_if (pt_not (pt_val (pe_call G_lrd hr rfl m_lrd k_lrd b_lrd .nil passN (pa_cons (pe_call G_spo (hr.mono (show 2 ≤ 7 by decide)) rfl m_spo k_spo b_spo .nil passN (pa_cons (pv 4) (pa_cons (pv 8) pa_nil))) pa_nil))))
          (pss_one (ps_ret pe_bl))
          pss_nil)))
      (pss_one (ps_ret pe_bl)))))))))))))))))), ?_⟩
    refine ⟨_, rfl, a, ns, rfl, hS, fun c p sz tot bs H1 s1 cn => ?_⟩
    have hc1 := cn.at_
    refine ⟨_, rfl, c, _, _, _, rfl, rfl, SqT.of hc1, rfl, _, rfl, c, _, _, _, rfl, rfl, SqT.of hc1, rfl, _, rfl, c, _, _, _, rfl, rfl, SqT.of hc1, rfl, p, rfl, ⟨_, SqL.of cn.bk.at_⟩, fun P0 hP0 => ?_⟩
    refine comp_lstQ (K := K) (a := p) (xs := bs.map fun w => V.ref w.1) (fun i σ' H' => ∃ (x y : Option V) (ws : List BL), σ' = [x, y] ∧ Wrs H' P0 ws ∧ bkv ws = bkv (bs.take i) ∧ (∀ b ∈ ws, b.2.2.1 ≠ P0) ∧ Same H1 H')
      ⟨none, none, [], rfl, ⟨upd_same, (fun _ z => by cases z)⟩, by rw [List.take_zero], (fun _ z => by cases z), same_new hP0 _⟩ (fun i σ' H' _ ⟨_, _, _, _, _, _, _, e⟩ => SqL.of (e _ _ cn.bk.at_)) ?_ ?_
    · rintro i y σ' H' hi ⟨x0, y0, ws, rfl, wr', hbk, hg', sm⟩
      have hlt : i < (bs.map fun w => V.ref w.1).length := (List.getElem?_eq_some_iff.mp hi).1
      have hil : i < bs.length := by rw [List.length_map] at hlt; exact hlt
      obtain ⟨z, hz⟩ : ∃ x, bs[i]? = some x := ⟨_, List.getElem?_eq_getElem hil⟩
      rw [List.getElem?_map, hz] at hi
      have ey : V.ref z.1 = y := Option.some.inj hi
      subst ey
      have hm := List.mem_of_getElem? hz
      have he := cn.bk.each z hm
      have hfew := cn.few
      have hwl : ws.length = i := by
        have := congrArg List.length hbk
        unfold bkv at this
        rw [List.length_map, List.length_map, List.length_take] at this
        trivial
      refine ⟨z.1, _, rfl, SqT.of (sm _ _ he.1), rfl, _, _, rfl, _, _, rfl, rfl, ?_⟩
      refine trueT ?_
      refine ⟨_, rfl, _, rfl, z.2.2.1, _, rfl, .inl (SqL.of (sm _ _ he.2)), fun q hq => ?_⟩
      have u3 := same_new hq (.lst (z.2.2.2.map V.int))
      have e3 : upd H' q (.lst (z.2.2.2.map V.int)) q = some (lsI z.2.2.2) := upd_same
      have nq : q ≠ P0 := (ne_of_none wr'.at_ hq).symm
      generalize upd H' q (.lst (z.2.2.2.map V.int)) = H3 at u3 e3 ⊢
      refine ⟨(by show 2 ≤ sizeLine; decide), fun t htf => ?_⟩
      have u4 := same_new htf (.tup [.int z.2.1, .ref q])
      have e4 : upd H3 t (.tup [.int z.2.1, .ref q]) t = some (.tup [.int z.2.1, .ref q]) := upd_same
      have e3' := u4 _ _ e3
      generalize upd H3 t (.tup [.int z.2.1, .ref q]) = H4 at u4 e4 e3' ⊢
      have wr4 := wr'.same (u3.trans u4)
      refine ⟨P0, _, _, rfl, rfl, wr4.at_, fits_lt (by rw [List.length_map]; trivial), ?_⟩
      refine CW.next hlt ⟨_, _, ws ++ [(t, z.2.1, q, z.2.2.2)], rfl, wr4.app (fun b hb => hg' b hb) e4 e3' nq, ?_, fun b hb => ?_, same_upd (sm.trans (u3.trans u4)) _ hP0⟩
      · unfold bkv at hbk ⊢
        rw [List.map_append, hbk, take_at hz, List.map_append]; rfl
      · rcases List.mem_append.mp hb with hb | hb
        · exact hg' b hb
        · rw [List.mem_singleton.mp hb]
          exact nq
    rintro σ' H2 ⟨x0, y0, hs, rfl, wrh, hbkh, hgh, s2⟩
    rw [List.length_map, List.take_length] at hbkh
    refine ⟨(by show 3 ≤ sizeLine; decide), fun hA hhA => ?_⟩
    have u3 := same_new hhA (.tup [.int sz, .int tot, .ref P0])
    have e3 : upd H2 hA (.tup [.int sz, .int tot, .ref P0]) hA = some (.tup [.int sz, .int tot, .ref P0]) := upd_same
    generalize upd H2 hA (.tup [.int sz, .int tot, .ref P0]) = H3 at u3 e3 ⊢
    have t3 := s1.trans (s2.trans u3)
    have cn3 := cn.same (s2.trans u3)
    have ch3 : CoA H3 hA sz tot P0 hs := cn.copy e3 (wrh.same u3) hbkh
    have hbits := cn.bits
    have hlen := cn.len
    have hrd := cn.rd
    have dC : ∀ H', Same H3 H' → Deep K H' (.ref c) (conD sz tot (bkv bs)) := fun H' s => deep_con (cn3.same s).at_ (cn3.same s).bk
    have dH : ∀ H', Same H3 H' → Deep K H' (.ref hA) (conD sz tot (bkv bs)) := fun H' s => by
      have := deep_con (K := K) (ch3.same s).at_ (ch3.same s).bk
      rwa [hbkh] at this
    refine ⟨_, rfl, hA, P0, sz, tot, hs, rfl, ch3, fun B H4 s4 hBn hB => ?_⟩
    rw [hbkh] at hB
    refine ⟨_, rfl, _, _, _, _, true, rfl, .of (.lst hB), rfl, kit_refl _ _, _, rfl, ?_⟩
    refine iteF ?_
    refine ⟨_, rfl, _, rfl, c, p, sz, tot, bs, rfl, cn3.same s4, fun W H5 s5 hW => ?_⟩
    generalize hcb : conB sz tot (bkv bs) = cb at hbits hlen hrd hB hW
    refine ⟨B, W, _, _, rfl, rfl, SqL.of (s5 _ _ hB), SqL.of hW, _, rfl, ?_⟩
    refine iteNS rfl ?_
    have t35 := s4.trans s5
    refine ⟨_, rfl, _, rfl, _, _, dH _ t35, dC _ t35, ht_con _ _ _, _, rfl, ?_⟩
    rw [eqD_refl]
    refine iteF ?_
    have hB5 := s5 _ _ hB
    refine ⟨_, rfl, B, _, rfl, .inl (SqL.of hB5), fun Kp hKp => ?_⟩
    have u6 := same_new hKp (.lst (cb.map V.int))
    have e6 : upd H5 Kp (.lst (cb.map V.int)) Kp = some (lsI cb) := upd_same
    have nKB : Kp ≠ B := (ne_of_none hB5 hKp).symm
    generalize upd H5 Kp (.lst (cb.map V.int)) = H6 at u6 e6 ⊢
    have hB6 := u6 _ _ hB5
    have t36 := t35.trans u6
    refine ⟨_, rfl, B, cb, rfl, hB6, hbits, by trivial, (fun hno => by rw [hrd] at hno; cases hno), fun sz' tot' vs' hr f P ws H7 s7 hf nw hbk => ?_⟩
    obtain ⟨q1, q2⟩ := Prod.mk.inj (Option.some.inj (hrd.symm.trans hr))
    obtain ⟨q2, q3⟩ := Prod.mk.inj q2
    subst q1 q2 q3
    have t37 := t36.trans s7
    have dF := deep_con (K := K) hf nw.bk
    rw [hbk] at dF
    refine ⟨_, rfl, _, rfl, _, _, dF, dC _ t37, ht_con _ _ _, _, rfl, ?_⟩
    rw [eqD_refl]
    refine iteF ?_
    have hB7 := s7 _ _ hB6
    refine ⟨_, rfl, _, rfl, B, Kp, _, _, rfl, rfl, SqL.of hB7, SqL.of (s7 _ _ e6), _, rfl, ?_⟩
    refine iteNS rfl ?_
    refine ⟨_, rfl, B, rfl, ⟨_, SqL.of hB7⟩, fun D1 hD1 => ?_⟩
    refine comp_lstQ (K := K) (a := B) (xs := (cb).map V.int) (fun i σ' H' => ∃ (v0 : Option V), σ' = [v0] ∧ H' D1 = some (lsI []) ∧ Same H7 H')
      ⟨none, rfl, upd_same, same_new hD1 _⟩ (fun i σ' H' _ ⟨_, _, _, e⟩ => SqL.of (e _ _ hB7)) ?_ ?_
    · rintro i v σ' H' hi ⟨v0, rfl, hD', sm⟩
      have hlt := (List.getElem?_eq_some_iff.mp hi).1
      obtain ⟨z, rfl, hz⟩ := int_at hi
      refine ⟨_, rfl, _, _, _, _, false, rfl, .of (.int _), rfl, kit_ib _, _, rfl, ?_⟩
      refine iteF ?_
      exact CW.next hlt ⟨_, rfl, hD', sm⟩
    rintro σ' H8 ⟨v0, rfl, hD8, s8⟩
    refine ⟨(by show 0 ≤ sizeLine; decide), fun ea hea => ?_⟩
    have uea := same_new hea (.lst [])
    have eea : upd H8 ea (.lst []) ea = some (lsI []) := upd_same
    generalize upd H8 ea (.lst []) = H9 at uea eea ⊢
    refine ⟨D1, ea, [], [], rfl, rfl, SqL.of (uea _ _ hD8), SqL.of eea, _, rfl, ?_⟩
    refine iteNS rfl ?_
    have t79 := s8.trans uea
    have hf9 := t79 _ _ hf
    have wr9 := nw.bk.same t79
    have hwl : ws.length ≤ 60 := by
      have := congrArg List.length hbk
      unfold bkv at this
      rw [List.length_map, List.length_map] at this
      have := cn.few
      trivial
    refine ⟨_, rfl, 2, rfl, f, _, rfl, SqT.of hf9, (fun z => absurd z.2 (by show ¬ HT.sIx 3 3 (some 2) = 3; decide)), fun q hq => ?_⟩
    try dsimp -proj only
    have eq1 : HO.tup (cutV [V.int sz, V.int tot, V.ref P] none (some 2)) = .tup [V.int sz, V.int tot] := rfl
    rw [eq1]
    have ub := same_new hq (.tup [V.int sz, V.int tot])
    have eb : upd H9 q (.tup [V.int sz, V.int tot]) q = some (.tup [V.int sz, V.int tot]) := upd_same
    generalize upd H9 q (.tup [V.int sz, V.int tot]) = Ha at ub eb ⊢
    refine ⟨q, _, rfl, .inr (SqT.of eb), fun l hl => ?_⟩
    have uc := same_new hl (.lst [V.int sz, V.int tot])
    have ec : upd Ha l (.lst [V.int sz, V.int tot]) l = some (lsI [sz, tot]) := upd_same
    generalize upd Ha l (.lst [V.int sz, V.int tot]) = Hb at uc ec ⊢
    have t9b := ub.trans uc
    have hfb := t9b _ _ hf9
    have wrb := wr9.same t9b
    refine ⟨_, rfl, f, _, _, _, rfl, rfl, SqT.of hfb, rfl, P, rfl, ⟨_, SqL.of wrb.at_⟩, fun D2 hD2 => ?_⟩
    refine comp_lstQ (K := K) (a := P) (xs := ws.map fun w => V.ref w.1) (fun i σ' H' => ∃ (x y : Option V) (ks : List Int), σ' = [x, y] ∧ H' D2 = some (lsI ks) ∧ ks.length = i ∧ Same Hb H')
      ⟨none, none, [], rfl, upd_same, rfl, same_new hD2 _⟩ (fun i σ' H' _ ⟨_, _, _, _, _, _, e⟩ => SqL.of (e _ _ wrb.at_)) ?_ ?_
    · rintro i y σ' H' hi ⟨x0, y0, ks, rfl, hD', hkl, sm⟩
      have hlt : i < (ws.map fun w => V.ref w.1).length := (List.getElem?_eq_some_iff.mp hi).1
      have hil : i < ws.length := by rw [List.length_map] at hlt; exact hlt
      obtain ⟨z, hz⟩ : ∃ x, ws[i]? = some x := ⟨_, List.getElem?_eq_getElem hil⟩
      rw [List.getElem?_map, hz] at hi
      have ey : V.ref z.1 = y := Option.some.inj hi
      subst ey
      have hm := List.mem_of_getElem? hz
      have he := wrb.each z hm
      refine ⟨z.1, _, rfl, SqT.of (sm _ _ he.1), rfl, _, _, rfl, _, _, rfl, rfl, ?_⟩
      refine trueT ?_
      refine ⟨_, rfl, D2, _, _, rfl, rfl, hD', fits_lt (by rw [List.length_map]; trivial), ?_⟩
      exact CW.next hlt ⟨_, _, ks ++ [z.2.1], rfl, by rw [upd_same, lsI_app1], by rw [List.length_append, List.length_singleton]; trivial, same_upd sm _ hD2⟩
    rintro σ' Hc ⟨x0, y0, ks, rfl, hDc, hkl, sc_⟩
    rw [List.length_map] at hkl
    refine ⟨l, D2, _, _, rfl, rfl, sc_ _ _ ec, hDc, fits (by rw [List.length_map, List.length_map]; show 2 + _ ≤ _; trivial), fun X hX => ?_⟩
    rw [lsI_app]
    have ud := same_new hX (lsI ([sz, tot] ++ ks))
    have ed : upd Hc X (lsI ([sz, tot] ++ ks)) X = some (lsI ([sz, tot] ++ ks)) := upd_same
    generalize upd Hc X (lsI ([sz, tot] ++ ks)) = Hd at ud ed ⊢
    refine ⟨X, rfl, ⟨_, SqL.of ed⟩, fun D3 hD3 => ?_⟩
    refine comp_lstQ (K := K) (a := X) (xs := ([sz, tot] ++ ks).map V.int) (fun i σ' H' => ∃ (v0 : Option V), σ' = [v0] ∧ H' D3 = some (lsI []) ∧ Same Hd H')
      ⟨none, rfl, upd_same, same_new hD3 _⟩ (fun i σ' H' _ ⟨_, _, _, e⟩ => SqL.of (e _ _ ed)) ?_ ?_
    · rintro i v σ' H' hi ⟨v0, rfl, hD', sm⟩
      have hlt := (List.getElem?_eq_some_iff.mp hi).1
      obtain ⟨z, rfl, hz⟩ := int_at hi
      refine ⟨_, rfl, _, _, _, _, false, rfl, .of (.int _), rfl, kit_ib _, _, rfl, ?_⟩
      refine iteF ?_
      exact CW.next hlt ⟨_, rfl, hD', sm⟩
    rintro σ' He ⟨v0, rfl, hDe, se⟩
    refine ⟨(by show 0 ≤ sizeLine; decide), fun eb heb => ?_⟩
    have ueb := same_new heb (.lst [])
    have eeb : upd He eb (.lst []) eb = some (lsI []) := upd_same
    generalize upd He eb (.lst []) = Hf at ueb eeb ⊢
    refine ⟨D3, eb, [], [], rfl, rfl, SqL.of (ueb _ _ hDe), SqL.of eeb, _, rfl, ?_⟩
    refine iteNS rfl ?_
    have t9f := t9b.trans (sc_.trans (ud.trans (se.trans ueb)))
    have t7f := t79.trans t9f
    have hff := t7f _ _ hf
    have wrf := nw.bk.same t7f
    have s6f := s7.trans t7f
    refine ⟨_, rfl, f, _, _, _, rfl, rfl, SqT.of hff, rfl, P, rfl, ⟨_, SqL.of wrf.at_⟩, for_list (K := K) (a := P) (xs := ws.map fun w => V.ref w.1) (fun i σ H' => ∃ (v6 v7 : Option V), σ = [some (.ref a), some (.ref c), some (.ref hA), some (.ref B), some (.ref Kp), some (.ref f), v6, v7, none, none] ∧ H' P = some (.lst (ws.map fun w => V.ref w.1)) ∧ (∀ j w, ws[j]? = some w → H' w.1 = some (.tup [.int w.2.1, .ref w.2.2.1]) ∧ H' w.2.2.1 = some (lsI (if j < i then w.2.2.2 ++ [1] else w.2.2.2))) ∧ H' f = some (.tup [.int sz, .int tot, .ref P]) ∧ Same H6 H')
      ⟨none, none, rfl, wrf.at_, (fun j w hj => by
        have := wrf.each w (List.mem_of_getElem? hj)
        rw [if_neg (Nat.not_lt_zero j)]
        exact this), hff, s6f⟩ (fun i σ H' _ ⟨_, _, _, e, _⟩ => SqL.of e) ?_ ?_⟩
    · rintro i y σ H' hi ⟨v6, v7, rfl, hP', hw', hf', sm⟩
      have hlt : i < (ws.map fun w => V.ref w.1).length := (List.getElem?_eq_some_iff.mp hi).1
      have hil : i < ws.length := by rw [List.length_map] at hlt; exact hlt
      obtain ⟨z, hz⟩ : ∃ x, ws[i]? = some x := ⟨_, List.getElem?_eq_getElem hil⟩
      rw [List.getElem?_map, hz] at hi
      have ey : V.ref z.1 = y := Option.some.inj hi
      subst ey
      have hm := List.mem_of_getElem? hz
      have he := hw' i z hz
      rw [if_neg (Nat.lt_irrefl i)] at he
      have hzn := nw.fr z hm
      have hzl : z.2.2.2.length ≤ 40 := by
        have h1 : (z.2.1, z.2.2.2) ∈ bkv bs := by rw [← hbk]; exact List.mem_map.mpr ⟨z, hm, rfl⟩
        obtain ⟨x, hx, ex⟩ := List.mem_map.mp h1
        have := (cn.good x hx).2.2.1
        rw [(Prod.mk.inj ex).2] at this
        exact this
      refine ⟨z.1, _, rfl, SqT.of he.1, rfl, _, _, rfl, _, _, rfl, rfl, ?_⟩
      refine ⟨_, rfl, .inl ⟨rfl, _, SqL.of he.2⟩, z.2.2.1, _, _, rfl, rfl, he.2, fits_lt (by rw [List.length_map]; trivial), ?_⟩
      rw [lsI_app1]
      refine ⟨_, _, rfl, by rw [upd_ne hzn.2.symm]; exact hP', fun j w hj => ?_, ?_, same_upd sm _ hzn.1⟩
      · have hj' := hw' j w hj
        refine ⟨by rw [upd_ne (fun z' => by rw [z', he.2] at hj'; cases hj'.1)]; exact hj'.1, ?_⟩
        by_cases e : j = i
        · subst e
          have ew : z = w := Option.some.inj (hz.symm.trans hj)
          subst ew
          rw [upd_same, if_pos (Nat.lt_succ_self j)]
        · have hne : w.2.2.1 ≠ z.2.2.1 := fun z' => e (by
            have hi1 : (ws.map (·.2.2.1))[i]? = some z.2.2.1 := by rw [List.getElem?_map, hz]; rfl
            have hj1 : (ws.map (·.2.2.1))[j]? = some z.2.2.1 := by rw [List.getElem?_map, hj]; exact congrArg some z'
            obtain ⟨a1, b1⟩ := List.getElem?_eq_some_iff.mp hi1
            obtain ⟨a2, b2⟩ := List.getElem?_eq_some_iff.mp hj1
            exact (List.getElem_inj nw.nd).mp (b2.trans b1.symm))
          rw [upd_ne hne, hj'.2]
          by_cases h1 : j < i
          · rw [if_pos h1, if_pos (by trivial)]
          · rw [if_neg h1, if_neg (by trivial)]
      · rw [upd_ne (fun z' => by rw [z', he.2] at hf'; cases hf')]
        exact hf'
    rintro σ Hg ⟨v6, v7, rfl, hPg, hwg, hfg, s6g⟩
    rw [List.length_map] at hwg
    obtain ⟨ws2, hws2⟩ : ∃ ws2 : List BL, ws2 = ws.map fun w => (w.1, w.2.1, w.2.2.1, w.2.2.2 ++ [1]) := ⟨_, rfl⟩
    have wrg : Wrs Hg P ws2 := by
      refine ⟨by rw [hPg, hws2, List.map_map]; rfl, fun w hw => ?_⟩
      rw [hws2] at hw
      obtain ⟨w0, hw0, rfl⟩ := List.mem_map.mp hw
      obtain ⟨j, hj⟩ := List.getElem?_of_mem hw0
      have h1 := hwg j w0 hj
      rw [if_pos (List.getElem?_eq_some_iff.mp hj).1] at h1
      exact h1
    have hbk2 : bkv ws2 = (bkv bs).map fun v => (v.1, v.2 ++ [1]) := by
      rw [← hbk, hws2]
      unfold bkv
      rw [List.map_map, List.map_map]; rfl
    have t3g := t36.trans s6g
    have cng := cn3.same t3g
    have hcg := cng.at_
    try dsimp -proj only
    refine ⟨_, rfl, f, _, _, _, rfl, rfl, SqT.of hfg, rfl, _, rfl, c, _, _, _, rfl, rfl, SqT.of hcg, rfl, p, rfl, ⟨_, SqL.of cng.bk.at_⟩, fun D4 hD4 => ?_⟩
    refine comp_lstQ (K := K) (a := p) (xs := bs.map fun w => V.ref w.1) (fun i σ' H' => ∃ (x y : Option V) (us : List BL), σ' = [x, y] ∧ Wrs H' D4 us ∧ bkv us = (bkv (bs.take i)).map (fun v => (v.1, v.2 ++ [1])) ∧ (∀ b ∈ us, b.2.2.1 ≠ D4) ∧ Same Hg H')
      ⟨none, none, [], rfl, ⟨upd_same, (fun _ z => by cases z)⟩, by rw [List.take_zero]; rfl, (fun _ z => by cases z), same_new hD4 _⟩ (fun i σ' H' _ ⟨_, _, _, _, _, _, _, e⟩ => SqL.of (e _ _ cng.bk.at_)) ?_ ?_
    · rintro i y σ' H' hi ⟨x0, y0, us, rfl, wr', hbu, hg', sm⟩
      have hlt : i < (bs.map fun w => V.ref w.1).length := (List.getElem?_eq_some_iff.mp hi).1
      have hil : i < bs.length := by rw [List.length_map] at hlt; exact hlt
      obtain ⟨z, hz⟩ : ∃ x, bs[i]? = some x := ⟨_, List.getElem?_eq_getElem hil⟩
      rw [List.getElem?_map, hz] at hi
      have ey : V.ref z.1 = y := Option.some.inj hi
      subst ey
      have hm := List.mem_of_getElem? hz
      have he := cng.bk.each z hm
      have hfew := cn.few
      have hgz := cn.good z hm
      have hul : us.length = i := by
        have := congrArg List.length hbu
        unfold bkv at this
        rw [List.length_map, List.length_map, List.length_map, List.length_take] at this
        trivial
      refine ⟨z.1, _, rfl, SqT.of (sm _ _ he.1), rfl, _, _, rfl, _, _, rfl, rfl, ?_⟩
      refine trueT ?_
      refine ⟨_, rfl, _, rfl, (by show 1 ≤ sizeLine; decide), fun l1 hl1 => ?_⟩
      have u2 := same_new hl1 (.lst [V.int 1])
      have e2 : upd H' l1 (.lst [V.int 1]) l1 = some (lsI [1]) := upd_same
      generalize upd H' l1 (.lst [V.int 1]) = H2' at u2 e2 ⊢
      refine ⟨z.2.2.1, l1, _, _, rfl, rfl, u2 _ _ (sm _ _ he.2), e2, fits (by rw [List.length_map]; show _ + 1 ≤ _; trivial), fun q hq => ?_⟩
      rw [lsI_app]
      have u3 := same_new hq (lsI (z.2.2.2 ++ [1]))
      have e3 : upd H2' q (lsI (z.2.2.2 ++ [1])) q = some (lsI (z.2.2.2 ++ [1])) := upd_same
      have nq : q ≠ D4 := (ne_of_none (u2 _ _ wr'.at_) hq).symm
      generalize upd H2' q (lsI (z.2.2.2 ++ [1])) = H3' at u3 e3 ⊢
      refine ⟨(by show 2 ≤ sizeLine; decide), fun t htf => ?_⟩
      have u4 := same_new htf (.tup [.int z.2.1, .ref q])
      have e4 : upd H3' t (.tup [.int z.2.1, .ref q]) t = some (.tup [.int z.2.1, .ref q]) := upd_same
      have e3' := u4 _ _ e3
      generalize upd H3' t (.tup [.int z.2.1, .ref q]) = H4' at u4 e4 e3' ⊢
      have u24 := u2.trans (u3.trans u4)
      have wr4 := wr'.same u24
      refine ⟨D4, _, _, rfl, rfl, wr4.at_, fits_lt (by rw [List.length_map]; trivial), ?_⟩
      refine CW.next hlt ⟨_, _, us ++ [(t, z.2.1, q, z.2.2.2 ++ [1])], rfl, wr4.app (fun b hb => hg' b hb) e4 e3' nq, ?_, fun b hb => ?_, same_upd (sm.trans u24) _ hD4⟩
      · unfold bkv at hbu ⊢
        rw [List.map_append, hbu, take_at hz, List.map_append, List.map_append]; rfl
      · rcases List.mem_append.mp hb with hb | hb
        · exact hg' b hb
        · rw [List.mem_singleton.mp hb]
          exact nq
    rintro σ' Hh ⟨x0, y0, us, rfl, wru, hbu, hgu, sh⟩
    rw [List.length_map, List.take_length] at hbu
    have dP := (wrg.same sh).deep (K := K)
    have dU := wru.deep (K := K)
    change Deep K Hh (.ref P) (wrD (bkv ws2)) at dP
    change Deep K Hh (.ref D4) (wrD (bkv us)) at dU
    rw [hbk2] at dP
    rw [hbu] at dU
    refine ⟨_, _, dP, dU, ht_wrD _, _, rfl, ?_⟩
    rw [eqD_refl]
    refine iteF ?_
    have hfh := sh _ _ hfg
    have hPh := (wrg.same sh).at_
    refine ⟨_, rfl, f, _, _, _, rfl, rfl, SqT.of hfh, rfl, .inl ⟨rfl, _, SqL.of hPh⟩, (by show 0 ≤ sizeLine; decide), fun l5 hl5 => ?_⟩
    have ui := same_new hl5 (.lst [])
    generalize upd Hh l5 (.lst []) = Hi at ui ⊢
    refine ⟨(by show 2 ≤ sizeLine; decide), fun t5 ht5 => ?_⟩
    have uj := same_new ht5 (.tup [.int 0, .ref l5])
    generalize upd Hi t5 (.tup [.int 0, .ref l5]) = Hj at uj ⊢
    have uhj := ui.trans uj
    refine ⟨P, _, _, rfl, rfl, uhj _ _ hPh, fits_lt (by rw [List.length_map, hws2, List.length_map]; trivial), ?_⟩
    have s6k := same_upd ((s6g.trans sh).trans uhj) (.lst ((ws2.map fun w => V.ref w.1) ++ [V.ref t5])) nw.pn
    generalize upd Hj P (.lst ((ws2.map fun w => V.ref w.1) ++ [V.ref t5])) = Hk at s6k ⊢
    have hBk := s6k _ _ hB6
    have hKk := s6k _ _ e6
    have t3k := t36.trans s6k
    refine ⟨_, rfl, _, rfl, B, Kp, _, _, rfl, rfl, SqL.of hBk, SqL.of hKk, _, rfl, ?_⟩
    refine iteNS rfl ?_
    refine ⟨_, rfl, B, cb, rfl, hBk, hbits, by trivial, (fun hno => by rw [hrd] at hno; cases hno), fun sz2 tot2 vs2 hr2 f2 P2 wt Hl sl hf2 nw2 hbk3 => ?_⟩
    obtain ⟨q1, q2⟩ := Prod.mk.inj (Option.some.inj (hrd.symm.trans hr2))
    obtain ⟨q2, q3⟩ := Prod.mk.inj q2
    subst q1 q2 q3
    have dF2 := deep_con (K := K) hf2 nw2.bk
    rw [hbk3] at dF2
    have t3l := t3k.trans sl
    refine ⟨_, rfl, _, _, dF2, dC _ t3l, ht_con _ _ _, _, rfl, ?_⟩
    rw [eqD_refl]
    refine iteF ?_
    have hBl := sl _ _ hBk
    have hKl := sl _ _ hKk
    refine ⟨_, rfl, .inl ⟨rfl, _, SqL.of hBl⟩, B, _, _, rfl, rfl, hBl, fits_lt (by rw [List.length_map]; trivial), ?_⟩
    rw [lsI_app1]
    have t3m := same_upd t3l (lsI (cb ++ [1])) hBn
    have hKm : upd Hl B (lsI (cb ++ [1])) Kp = some (lsI cb) := by rw [upd_ne nKB]; exact hKl
    generalize upd Hl B (lsI (cb ++ [1])) = Hm at t3m hKm ⊢
    refine ⟨_, rfl, _, rfl, _, _, dH _ t3m, dC _ t3m, ht_con _ _ _, _, rfl, ?_⟩
    rw [eqD_refl]
    refine iteF ?_
    refine ⟨_, rfl, hA, P0, sz, tot, hs, rfl, ch3.same t3m, fun B2 Hn sn hB2n hB2 => ?_⟩
    rw [hbkh, hcb] at hB2
    refine ⟨_, rfl, B2, Kp, _, _, rfl, rfl, SqL.of hB2, SqL.of (sn _ _ hKm), _, rfl, ?_⟩
    refine iteNS rfl ?_
    have hKn := sn _ _ hKm
    refine ⟨_, rfl, a, ns, 1, rfl, (t3.trans (t3m.trans sn)).seq hS, by trivial, fun d Ho hdn so sd => ?_⟩
    have hKo := so _ _ hKn
    have nKd : Kp ≠ d := sd.neL hKo
    try dsimp -proj only
    refine ⟨4, rfl, by decide, by decide, ?_⟩
    refine for_range (n := 4) (fun j σ H' => ∃ (v9 : Option V), σ = [some (.ref a), some (.ref c), some (.ref hA), some (.ref B), some (.ref Kp), some (.ref f), v6, v7, some (.ref d), v9] ∧ SD (100 + 200 * (j : Int)) d H' ∧ Kb d Ho H')
      ⟨none, rfl, sd.mono (by trivial), Kb.refl _ _⟩ ?_ ?_
    · rintro j σ H' hj ⟨v9, rfl, sd', kb'⟩
      refine ⟨_, rfl, _, rfl, Kp, d, _, cb, rfl, kb' _ _ nKd hKo, hbits, by trivial, sd', by trivial, fun L rs Hp kbp sdp hL nL hrb hrl => ?_⟩
      refine ⟨L, rs, rfl, hL, hrb, by trivial, fun Hq sq => ⟨_, rfl, ?_⟩⟩
      refine iteF ?_
      exact ⟨_, rfl, (sdp.same sq).mono (by trivial), kb'.trans (kbp.trans (Kb.of sq))⟩
    · rintro σ H' ⟨v9, rfl, sd', kb'⟩
      exact qEnd H'
end
end K63
set_option Elab.async false
set_option linter.all false
set_option maxRecDepth 100000
set_option maxHeartbeats 4000000
namespace K63
open PySem L2 PySem.W PH
theorem len_1 {α : Type} : ∀ {us : List α}, us.length = 1 → ∃ x0, us = [x0]
  | [x0], _ => ⟨x0, rfl⟩
theorem len_2 {α : Type} : ∀ {us : List α}, us.length = 2 → ∃ x0 x1, us = [x0, x1]
  | [x0, x1], _ => ⟨x0, x1, rfl⟩
theorem len_3 {α : Type} : ∀ {us : List α}, us.length = 3 → ∃ x0 x1 x2, us = [x0, x1, x2]
  | [x0, x1, x2], _ => ⟨x0, x1, x2, rfl⟩
section
theorem all_mk {l : PySem.W.OpenLaw} {w : World} {K : PySem.W.Frag} {h : Heap} {mg : Str → Option Value} {fa f1 f2 f3 f4 f5 f6 f7 f8 f9 f10 f11 f12 f13 f14 f15 f16 f17 f18 f19 f20 f21 f22 f23 f24 f25 f26 f27 f28 f29 f30 f31 f32 f33 f34 c_PackError c_Broken c_NoCode c_NoName c_NoNumber c_NoPlace c_NoRow c_NoText : Addr} (X : K.In h) (G : h.Ns mainGlobals mg) (hfa : mg "law" = some (.ref fa))
    {od1 an1 od2 an2 od3 an3 od4 an4 od5 an5 od6 an6 od7 an7 od8 an8 od9 an9 od10 an10 od11 an11 od12 an12 od13 an13 od14 an14 od15 an15 od16 an16 od17 an17 od18 an18 od19 an19 od20 an20 od21 an21 od22 an22 od23 an23 od24 an24 od25 an25 od26 an26 od27 an27 od28 an28 od29 an29 od30 an30 od31 an31 od32 an32 od33 an33 od34 an34 : Option Addr} {sl1 sl2 sl3 sl4 sl5 sl6 sl7 sl8 sl9 sl10 sl11 sl12 sl13 sl14 sl15 sl16 sl17 sl18 sl19 sl20 sl21 sl22 sl23 sl24 sl25 sl26 sl27 sl28 sl29 sl30 sl31 sl32 sl33 sl34 : Array (Option Value)} {oc1 kV1 dc1 pm1 cd1 ct1 oc2 kV2 dc2 pm2 cd2 ct2 oc3 kV3 dc3 pm3 cd3 ct3 oc4 kV4 dc4 pm4 cd4 ct4 oc5 kV5 dc5 pm5 cd5 ct5 oc6 kV6 dc6 pm6 cd6 ct6 oc7 kV7 dc7 pm7 cd7 ct7 oc8 kV8 dc8 pm8 cd8 ct8 oc9 kV9 dc9 pm9 cd9 ct9 oc10 kV10 dc10 pm10 cd10 ct10 oc11 kV11 dc11 pm11 cd11 ct11 oc12 kV12 dc12 pm12 cd12 ct12 oc13 kV13 dc13 pm13 cd13 ct13 oc14 kV14 dc14 pm14 cd14 ct14 oc15 kV15 dc15 pm15 cd15 ct15 oc16 kV16 dc16 pm16 cd16 ct16 oc17 kV17 dc17 pm17 cd17 ct17 oc18 kV18 dc18 pm18 cd18 ct18 oc19 kV19 dc19 pm19 cd19 ct19 oc20 kV20 dc20 pm20 cd20 ct20 oc21 kV21 dc21 pm21 cd21 ct21 oc22 kV22 dc22 pm22 cd22 ct22 oc23 kV23 dc23 pm23 cd23 ct23 oc24 kV24 dc24 pm24 cd24 ct24 oc25 kV25 dc25 pm25 cd25 ct25 oc26 kV26 dc26 pm26 cd26 ct26 oc27 kV27 dc27 pm27 cd27 ct27 oc28 kV28 dc28 pm28 cd28 ct28 oc29 kV29 dc29 pm29 cd29 ct29 oc30 kV30 dc30 pm30 cd30 ct30 oc31 kV31 dc31 pm31 cd31 ct31 oc32 kV32 dc32 pm32 cd32 ct32 oc33 kV33 dc33 pm33 cd33 ct33 oc34 kV34 dc34 pm34 cd34 ct34 : Value}
    {tk_MOST_SIGNS tk_GREATEST_SIZE : Tok}
    (a1 : PySem.W.nsIn K mainGlobals "low_bits" = some (some (.ref f1))) (l1 : K.lookup f1 = some ⟨oc1, od1, .func (PySem.W.fnOf "low_bits" "low_bits" (defArgs s_low) (defBody s_low) (defScope s_low) .none kV1 dc1 pm1 an1 cd1 ct1), sl1⟩) (cc1 : PySem.W.codeIn K cd1 "low_bits" = true) (k1 : PySem.W.keepIn K (.ref f1) = true)
    (a2 : PySem.W.nsIn K mainGlobals "number_of" = some (some (.ref f2))) (l2 : K.lookup f2 = some ⟨oc2, od2, .func (PySem.W.fnOf "number_of" "number_of" (defArgs s_num) (defBody s_num) (defScope s_num) .none kV2 dc2 pm2 an2 cd2 ct2), sl2⟩) (cc2 : PySem.W.codeIn K cd2 "number_of" = true) (k2 : PySem.W.keepIn K (.ref f2) = true)
    (a3 : PySem.W.nsIn K mainGlobals "ending_bits" = some (some (.ref f3))) (l3 : K.lookup f3 = some ⟨oc3, od3, .func (PySem.W.fnOf "ending_bits" "ending_bits" (defArgs s_end) (defBody s_end) (defScope s_end) .none kV3 dc3 pm3 an3 cd3 ct3), sl3⟩) (cc3 : PySem.W.codeIn K cd3 "ending_bits" = true) (k3 : PySem.W.keepIn K (.ref f3) = true)
    (a4 : PySem.W.nsIn K mainGlobals "first_one" = some (some (.ref f4))) (l4 : K.lookup f4 = some ⟨oc4, od4, .func (PySem.W.fnOf "first_one" "first_one" (defArgs s_first) (defBody s_first) (defScope s_first) .none kV4 dc4 pm4 an4 cd4 ct4), sl4⟩) (cc4 : PySem.W.codeIn K cd4 "first_one" = true) (k4 : PySem.W.keepIn K (.ref f4) = true)
    (a5 : PySem.W.nsIn K mainGlobals "read_ending" = some (some (.ref f5))) (l5 : K.lookup f5 = some ⟨oc5, od5, .func (PySem.W.fnOf "read_ending" "read_ending" (defArgs s_read) (defBody s_read) (defScope s_read) .none kV5 dc5 pm5 an5 cd5 ct5), sl5⟩) (cc5 : PySem.W.codeIn K cd5 "read_ending" = true) (k5 : PySem.W.keepIn K (.ref f5) = true)
    (a6 : PySem.W.nsIn K mainGlobals "row_bits" = some (some (.ref f6))) (l6 : K.lookup f6 = some ⟨oc6, od6, .func (PySem.W.fnOf "row_bits" "row_bits" (defArgs s_row) (defBody s_row) (defScope s_row) .none kV6 dc6 pm6 an6 cd6 ct6), sl6⟩) (cc6 : PySem.W.codeIn K cd6 "row_bits" = true) (k6 : PySem.W.keepIn K (.ref f6) = true)
    (a7 : PySem.W.nsIn K mainGlobals "read_row" = some (some (.ref f7))) (l7 : K.lookup f7 = some ⟨oc7, od7, .func (PySem.W.fnOf "read_row" "read_row" (defArgs s_rdrow) (defBody s_rdrow) (defScope s_rdrow) .none kV7 dc7 pm7 an7 cd7 ct7), sl7⟩) (cc7 : PySem.W.codeIn K cd7 "read_row" = true) (k7 : PySem.W.keepIn K (.ref f7) = true)
    (a8 : PySem.W.nsIn K mainGlobals "is_whole" = some (some (.ref f8))) (l8 : K.lookup f8 = some ⟨oc8, od8, .func (PySem.W.fnOf "is_whole" "is_whole" (defArgs s_whole) (defBody s_whole) (defScope s_whole) .none kV8 dc8 pm8 an8 cd8 ct8), sl8⟩) (cc8 : PySem.W.codeIn K cd8 "is_whole" = true) (k8 : PySem.W.keepIn K (.ref f8) = true)
    (a9 : PySem.W.nsIn K mainGlobals "unpaired" = some (some (.ref f9))) (l9 : K.lookup f9 = some ⟨oc9, od9, .func (PySem.W.fnOf "unpaired" "unpaired" (defArgs s_unp) (defBody s_unp) (defScope s_unp) .none kV9 dc9 pm9 an9 cd9 ct9), sl9⟩) (cc9 : PySem.W.codeIn K cd9 "unpaired" = true) (k9 : PySem.W.keepIn K (.ref f9) = true)
    (a10 : PySem.W.nsIn K mainGlobals "paired" = some (some (.ref f10))) (l10 : K.lookup f10 = some ⟨oc10, od10, .func (PySem.W.fnOf "paired" "paired" (defArgs s_prd) (defBody s_prd) (defScope s_prd) .none kV10 dc10 pm10 an10 cd10 ct10), sl10⟩) (cc10 : PySem.W.codeIn K cd10 "paired" = true) (k10 : PySem.W.keepIn K (.ref f10) = true)
    (a11 : PySem.W.nsIn K mainGlobals "is_size" = some (some (.ref f11))) (l11 : K.lookup f11 = some ⟨oc11, od11, .func (PySem.W.fnOf "is_size" "is_size" (defArgs s_size) (defBody s_size) (defScope s_size) .none kV11 dc11 pm11 an11 cd11 ct11), sl11⟩) (cc11 : PySem.W.codeIn K cd11 "is_size" = true) (k11 : PySem.W.keepIn K (.ref f11) = true)
    (a12 : PySem.W.nsIn K mainGlobals "is_total" = some (some (.ref f12))) (l12 : K.lookup f12 = some ⟨oc12, od12, .func (PySem.W.fnOf "is_total" "is_total" (defArgs s_total) (defBody s_total) (defScope s_total) .none kV12 dc12 pm12 an12 cd12 ct12), sl12⟩) (cc12 : PySem.W.codeIn K cd12 "is_total" = true) (k12 : PySem.W.keepIn K (.ref f12) = true)
    (a13 : PySem.W.nsIn K mainGlobals "is_block" = some (some (.ref f13))) (l13 : K.lookup f13 = some ⟨oc13, od13, .func (PySem.W.fnOf "is_block" "is_block" (defArgs s_isbk) (defBody s_isbk) (defScope s_isbk) .none kV13 dc13 pm13 an13 cd13 ct13), sl13⟩) (cc13 : PySem.W.codeIn K cd13 "is_block" = true) (k13 : PySem.W.keepIn K (.ref f13) = true)
    (a14 : PySem.W.nsIn K mainGlobals "are_blocks" = some (some (.ref f14))) (l14 : K.lookup f14 = some ⟨oc14, od14, .func (PySem.W.fnOf "are_blocks" "are_blocks" (defArgs s_arebk) (defBody s_arebk) (defScope s_arebk) .none kV14 dc14 pm14 an14 cd14 ct14), sl14⟩) (cc14 : PySem.W.codeIn K cd14 "are_blocks" = true) (k14 : PySem.W.keepIn K (.ref f14) = true)
    (a15 : PySem.W.nsIn K mainGlobals "blocks_needed" = some (some (.ref f15))) (l15 : K.lookup f15 = some ⟨oc15, od15, .func (PySem.W.fnOf "blocks_needed" "blocks_needed" (defArgs s_need) (defBody s_need) (defScope s_need) .none kV15 dc15 pm15 an15 cd15 ct15), sl15⟩) (cc15 : PySem.W.codeIn K cd15 "blocks_needed" = true) (k15 : PySem.W.keepIn K (.ref f15) = true)
    (a16 : PySem.W.nsIn K mainGlobals "is_container" = some (some (.ref f16))) (l16 : K.lookup f16 = some ⟨oc16, od16, .func (PySem.W.fnOf "is_container" "is_container" (defArgs s_iscon) (defBody s_iscon) (defScope s_iscon) .none kV16 dc16 pm16 an16 cd16 ct16), sl16⟩) (cc16 : PySem.W.codeIn K cd16 "is_container" = true) (k16 : PySem.W.keepIn K (.ref f16) = true)
    (a17 : PySem.W.nsIn K mainGlobals "refuse_no_container" = some (some (.ref f17))) (l17 : K.lookup f17 = some ⟨oc17, od17, .func (PySem.W.fnOf "refuse_no_container" "refuse_no_container" (defArgs s_nocon) (defBody s_nocon) (defScope s_nocon) .none kV17 dc17 pm17 an17 cd17 ct17), sl17⟩) (cc17 : PySem.W.codeIn K cd17 "refuse_no_container" = true) (k17 : PySem.W.keepIn K (.ref f17) = true)
    (a18 : PySem.W.nsIn K mainGlobals "container_bits" = some (some (.ref f18))) (l18 : K.lookup f18 = some ⟨oc18, od18, .func (PySem.W.fnOf "container_bits" "container_bits" (defArgs s_cbits) (defBody s_cbits) (defScope s_cbits) .none kV18 dc18 pm18 an18 cd18 ct18), sl18⟩) (cc18 : PySem.W.codeIn K cd18 "container_bits" = true) (k18 : PySem.W.keepIn K (.ref f18) = true)
    (a19 : PySem.W.nsIn K mainGlobals "blocks_by" = some (some (.ref f19))) (l19 : K.lookup f19 = some ⟨oc19, od19, .func (PySem.W.fnOf "blocks_by" "blocks_by" (defArgs s_blks) (defBody s_blks) (defScope s_blks) .none kV19 dc19 pm19 an19 cd19 ct19), sl19⟩) (cc19 : PySem.W.codeIn K cd19 "blocks_by" = true) (k19 : PySem.W.keepIn K (.ref f19) = true)
    (a20 : PySem.W.nsIn K mainGlobals "read_container" = some (some (.ref f20))) (l20 : K.lookup f20 = some ⟨oc20, od20, .func (PySem.W.fnOf "read_container" "read_container" (defArgs s_rdc) (defBody s_rdc) (defScope s_rdc) .none kV20 dc20 pm20 an20 cd20 ct20), sl20⟩) (cc20 : PySem.W.codeIn K cd20 "read_container" = true) (k20 : PySem.W.keepIn K (.ref f20) = true)
    (a21 : PySem.W.nsIn K mainGlobals "_law_state" = some (some (.ref f21))) (l21 : K.lookup f21 = some ⟨oc21, od21, .func (PySem.W.fnOf "_law_state" "_law_state" (defArgs s_state) (defBody s_state) (defScope s_state) .none kV21 dc21 pm21 an21 cd21 ct21), sl21⟩) (cc21 : PySem.W.codeIn K cd21 "_law_state" = true) (k21 : PySem.W.keepIn K (.ref f21) = true)
    (a22 : PySem.W.nsIn K mainGlobals "_law_draw" = some (some (.ref f22))) (l22 : K.lookup f22 = some ⟨oc22, od22, .func (PySem.W.fnOf "_law_draw" "_law_draw" (defArgs s_draw) (defBody s_draw) (defScope s_draw) .none kV22 dc22 pm22 an22 cd22 ct22), sl22⟩) (cc22 : PySem.W.codeIn K cd22 "_law_draw" = true) (k22 : PySem.W.keepIn K (.ref f22) = true)
    (a23 : PySem.W.nsIn K mainGlobals "_law_first" = some (some (.ref f23))) (l23 : K.lookup f23 = some ⟨oc23, od23, .func (PySem.W.fnOf "_law_first" "_law_first" (defArgs s_lfirst) (defBody s_lfirst) (defScope s_lfirst) .none kV23 dc23 pm23 an23 cd23 ct23), sl23⟩) (cc23 : PySem.W.codeIn K cd23 "_law_first" = true) (k23 : PySem.W.keepIn K (.ref f23) = true)
    (a24 : PySem.W.nsIn K mainGlobals "_law_ending" = some (some (.ref f24))) (l24 : K.lookup f24 = some ⟨oc24, od24, .func (PySem.W.fnOf "_law_ending" "_law_ending" (defArgs s_lend) (defBody s_lend) (defScope s_lend) .none kV24 dc24 pm24 an24 cd24 ct24), sl24⟩) (cc24 : PySem.W.codeIn K cd24 "_law_ending" = true) (k24 : PySem.W.keepIn K (.ref f24) = true)
    (a25 : PySem.W.nsIn K mainGlobals "_law_row" = some (some (.ref f25))) (l25 : K.lookup f25 = some ⟨oc25, od25, .func (PySem.W.fnOf "_law_row" "_law_row" (defArgs s_lroww) (defBody s_lroww) (defScope s_lroww) .none kV25 dc25 pm25 an25 cd25 ct25), sl25⟩) (cc25 : PySem.W.codeIn K cd25 "_law_row" = true) (k25 : PySem.W.keepIn K (.ref f25) = true)
    (a26 : PySem.W.nsIn K mainGlobals "_law_read_ending" = some (some (.ref f26))) (l26 : K.lookup f26 = some ⟨oc26, od26, .func (PySem.W.fnOf "_law_read_ending" "_law_read_ending" (defArgs s_lnum) (defBody s_lnum) (defScope s_lnum) .none kV26 dc26 pm26 an26 cd26 ct26), sl26⟩) (cc26 : PySem.W.codeIn K cd26 "_law_read_ending" = true) (k26 : PySem.W.keepIn K (.ref f26) = true)
    (a27 : PySem.W.nsIn K mainGlobals "_law_read_row" = some (some (.ref f27))) (l27 : K.lookup f27 = some ⟨oc27, od27, .func (PySem.W.fnOf "_law_read_row" "_law_read_row" (defArgs s_lrow) (defBody s_lrow) (defScope s_lrow) .none kV27 dc27 pm27 an27 cd27 ct27), sl27⟩) (cc27 : PySem.W.codeIn K cd27 "_law_read_row" = true) (k27 : PySem.W.keepIn K (.ref f27) = true)
    (a28 : PySem.W.nsIn K mainGlobals "_law_block" = some (some (.ref f28))) (l28 : K.lookup f28 = some ⟨oc28, od28, .func (PySem.W.fnOf "_law_block" "_law_block" (defArgs s_blk) (defBody s_blk) (defScope s_blk) .none kV28 dc28 pm28 an28 cd28 ct28), sl28⟩) (cc28 : PySem.W.codeIn K cd28 "_law_block" = true) (k28 : PySem.W.keepIn K (.ref f28) = true)
    (a29 : PySem.W.nsIn K mainGlobals "_law_container" = some (some (.ref f29))) (l29 : K.lookup f29 = some ⟨oc29, od29, .func (PySem.W.fnOf "_law_container" "_law_container" (defArgs s_cont) (defBody s_cont) (defScope s_cont) .none kV29 dc29 pm29 an29 cd29 ct29), sl29⟩) (cc29 : PySem.W.codeIn K cd29 "_law_container" = true) (k29 : PySem.W.keepIn K (.ref f29) = true)
    (a30 : PySem.W.nsIn K mainGlobals "_law_written" = some (some (.ref f30))) (l30 : K.lookup f30 = some ⟨oc30, od30, .func (PySem.W.fnOf "_law_written" "_law_written" (defArgs s_wrt) (defBody s_wrt) (defScope s_wrt) .none kV30 dc30 pm30 an30 cd30 ct30), sl30⟩) (cc30 : PySem.W.codeIn K cd30 "_law_written" = true) (k30 : PySem.W.keepIn K (.ref f30) = true)
    (a31 : PySem.W.nsIn K mainGlobals "_law_due" = some (some (.ref f31))) (l31 : K.lookup f31 = some ⟨oc31, od31, .func (PySem.W.fnOf "_law_due" "_law_due" (defArgs s_due) (defBody s_due) (defScope s_due) .none kV31 dc31 pm31 an31 cd31 ct31), sl31⟩) (cc31 : PySem.W.codeIn K cd31 "_law_due" = true) (k31 : PySem.W.keepIn K (.ref f31) = true)
    (a32 : PySem.W.nsIn K mainGlobals "_law_spoilt" = some (some (.ref f32))) (l32 : K.lookup f32 = some ⟨oc32, od32, .func (PySem.W.fnOf "_law_spoilt" "_law_spoilt" (defArgs s_spo) (defBody s_spo) (defScope s_spo) .none kV32 dc32 pm32 an32 cd32 ct32), sl32⟩) (cc32 : PySem.W.codeIn K cd32 "_law_spoilt" = true) (k32 : PySem.W.keepIn K (.ref f32) = true)
    (a33 : PySem.W.nsIn K mainGlobals "_law_read" = some (some (.ref f33))) (l33 : K.lookup f33 = some ⟨oc33, od33, .func (PySem.W.fnOf "_law_read" "_law_read" (defArgs s_lrd) (defBody s_lrd) (defScope s_lrd) .none kV33 dc33 pm33 an33 cd33 ct33), sl33⟩) (cc33 : PySem.W.codeIn K cd33 "_law_read" = true) (k33 : PySem.W.keepIn K (.ref f33) = true)
    (a34 : PySem.W.nsIn K mainGlobals "law" = some (some (.ref f34))) (l34 : K.lookup f34 = some ⟨oc34, od34, .func (PySem.W.fnOf "law" "law" (defArgs s_law) (defBody s_law) (defScope s_law) .none kV34 dc34 pm34 an34 cd34 ct34), sl34⟩) (cc34 : PySem.W.codeIn K cd34 "law" = true) (k34 : PySem.W.keepIn K (.ref f34) = true)
    (z_isinstance : PySem.W.nsIn K mainGlobals "isinstance" = some none)
    (z_list : PySem.W.nsIn K mainGlobals "list" = some none)
    (z_int : PySem.W.nsIn K mainGlobals "int" = some none)
    (z_bool : PySem.W.nsIn K mainGlobals "bool" = some none)
    (z_len : PySem.W.nsIn K mainGlobals "len" = some none)
    (z_range : PySem.W.nsIn K mainGlobals "range" = some none)
    (z_max : PySem.W.nsIn K mainGlobals "max" = some none)
    (z_ValueError : PySem.W.nsIn K mainGlobals "ValueError" = some none)
    (z_tuple : PySem.W.nsIn K mainGlobals "tuple" = some none)
    (z_min : PySem.W.nsIn K mainGlobals "min" = some none)
    (z_sorted : PySem.W.nsIn K mainGlobals "sorted" = some none)
    (z_all : PySem.W.nsIn K mainGlobals "all" = some none)
    (z_dict : PySem.W.nsIn K mainGlobals "dict" = some none)
    (e_PackError : PySem.W.nsIn K mainGlobals "PackError" = some (some (.ref c_PackError)))
    (x0_PackError : PySem.W.excIn K c_PackError bmV "ValueError.__new__" = true) (x1_PackError : PySem.W.findIn K (.ref c_PackError) "__getattribute__" = some (some (.builtin "BaseException.__getattribute__"))) (x2_PackError : PySem.W.findIn K (.ref c_PackError) "__getattr__" = some none) (x3_PackError : PySem.W.findIn K (.ref c_PackError) "__class__" = some (some (.builtin "object.__class__"))) (x4_PackError : PySem.W.mroIn K c_PackError (.type "object") = some true) (x5_PackError : PySem.W.mroIn K c_PackError (.type "BaseException") = some true) (x6_PackError : PySem.W.typeIn K (.ref c_PackError) = some (.type "type"))
    (e_Broken : PySem.W.nsIn K mainGlobals "Broken" = some (some (.ref c_Broken)))
    (x0_Broken : PySem.W.excIn K c_Broken bmV "ValueError.__new__" = true) (x1_Broken : PySem.W.findIn K (.ref c_Broken) "__getattribute__" = some (some (.builtin "BaseException.__getattribute__"))) (x2_Broken : PySem.W.findIn K (.ref c_Broken) "__getattr__" = some none) (x3_Broken : PySem.W.findIn K (.ref c_Broken) "__class__" = some (some (.builtin "object.__class__"))) (x4_Broken : PySem.W.mroIn K c_Broken (.type "object") = some true) (x5_Broken : PySem.W.mroIn K c_Broken (.type "BaseException") = some true) (x6_Broken : PySem.W.typeIn K (.ref c_Broken) = some (.type "type"))
    (e_NoCode : PySem.W.nsIn K mainGlobals "NoCode" = some (some (.ref c_NoCode)))
    (e_NoName : PySem.W.nsIn K mainGlobals "NoName" = some (some (.ref c_NoName)))
    (e_NoNumber : PySem.W.nsIn K mainGlobals "NoNumber" = some (some (.ref c_NoNumber)))
    (x0_NoNumber : PySem.W.excIn K c_NoNumber bmV "ValueError.__new__" = true) (x1_NoNumber : PySem.W.findIn K (.ref c_NoNumber) "__getattribute__" = some (some (.builtin "BaseException.__getattribute__"))) (x2_NoNumber : PySem.W.findIn K (.ref c_NoNumber) "__getattr__" = some none) (x3_NoNumber : PySem.W.findIn K (.ref c_NoNumber) "__class__" = some (some (.builtin "object.__class__"))) (x4_NoNumber : PySem.W.mroIn K c_NoNumber (.type "object") = some true) (x5_NoNumber : PySem.W.mroIn K c_NoNumber (.type "BaseException") = some true) (x6_NoNumber : PySem.W.typeIn K (.ref c_NoNumber) = some (.type "type"))
    (e_NoPlace : PySem.W.nsIn K mainGlobals "NoPlace" = some (some (.ref c_NoPlace)))
    (e_NoRow : PySem.W.nsIn K mainGlobals "NoRow" = some (some (.ref c_NoRow)))
    (e_NoText : PySem.W.nsIn K mainGlobals "NoText" = some (some (.ref c_NoText)))
    (xm_Broken : PySem.W.mroIn K c_Broken (.ref c_PackError) = some true)
    (xv_Broken : PySem.W.kitOne K (.ref c_Broken) (.type "ValueError") = some true)
    (xo_Broken : PySem.W.kitAny K (.ref c_Broken) [.ref c_NoCode, .ref c_NoName, .ref c_NoNumber, .ref c_NoPlace, .ref c_NoRow, .ref c_NoText] = some false)
    (xk_Broken_NoNumber : PySem.W.kitOne K (.ref c_Broken) (.ref c_NoNumber) = some false)
    (xk_Broken_NoPlace : PySem.W.kitOne K (.ref c_Broken) (.ref c_NoPlace) = some false)
    (xk_Broken_NoCode : PySem.W.kitOne K (.ref c_Broken) (.ref c_NoCode) = some false)
    (xk_Broken_NoName : PySem.W.kitOne K (.ref c_Broken) (.ref c_NoName) = some false)
    (xk_Broken_NoRow : PySem.W.kitOne K (.ref c_Broken) (.ref c_NoRow) = some false)
    (xk_Broken_NoText : PySem.W.kitOne K (.ref c_Broken) (.ref c_NoText) = some false)
    (g_MOST_SIGNS : PySem.W.nsIn K mainGlobals "MOST_SIGNS" = some (some (.int 400 tk_MOST_SIGNS)))
    (g_GREATEST_SIZE : PySem.W.nsIn K mainGlobals "GREATEST_SIZE" = some (some (.int 64 tk_GREATEST_SIZE)))
    : ∃ fd : FuncData, (∀ (s : Shared) (v : Value), BindsTo s fd ⟨[v], []⟩ [("script", v)]) ∧ ∀ base : Heap, K.In base → base.Ns mainGlobals mg → FnOk l.prog w K mg base (CXW l.prog w) 8 fa fd ["script"] (spLaw K) := by
  have e := hfa.symm.trans (PySem.W.mg_of X G a34)
  cases e
  have F1 := fun_mk (st := s_low) l1 cc1 k1
  have b1 := F1.binds (ps := ["n", "k"]) fun _ _ _ _ _ _ us hl => by obtain ⟨x0, x1, rfl⟩ := len_2 hl; rfl
  have m1 := PySem.W.mg_of X G a1
  have F2 := fun_mk (st := s_num) l2 cc2 k2
  have b2 := F2.binds (ps := ["bits"]) fun _ _ _ _ _ _ us hl => by obtain ⟨x0, rfl⟩ := len_1 hl; rfl
  have m2 := PySem.W.mg_of X G a2
  have F3 := fun_mk (st := s_end) l3 cc3 k3
  have b3 := F3.binds (ps := ["n"]) fun _ _ _ _ _ _ us hl => by obtain ⟨x0, rfl⟩ := len_1 hl; rfl
  have m3 := PySem.W.mg_of X G a3
  have F4 := fun_mk (st := s_first) l4 cc4 k4
  have b4 := F4.binds (ps := ["bits", "at"]) fun _ _ _ _ _ _ us hl => by obtain ⟨x0, x1, rfl⟩ := len_2 hl; rfl
  have m4 := PySem.W.mg_of X G a4
  have F5 := fun_mk (st := s_read) l5 cc5 k5
  have b5 := F5.binds (ps := ["bits", "at"]) fun _ _ _ _ _ _ us hl => by obtain ⟨x0, x1, rfl⟩ := len_2 hl; rfl
  have m5 := PySem.W.mg_of X G a5
  have F6 := fun_mk (st := s_row) l6 cc6 k6
  have b6 := F6.binds (ps := ["numbers"]) fun _ _ _ _ _ _ us hl => by obtain ⟨x0, rfl⟩ := len_1 hl; rfl
  have m6 := PySem.W.mg_of X G a6
  have F7 := fun_mk (st := s_rdrow) l7 cc7 k7
  have b7 := F7.binds (ps := ["bits", "at"]) fun _ _ _ _ _ _ us hl => by obtain ⟨x0, x1, rfl⟩ := len_2 hl; rfl
  have m7 := PySem.W.mg_of X G a7
  have F8 := fun_mk (st := s_whole) l8 cc8 k8
  have b8 := F8.binds (ps := ["thing"]) fun _ _ _ _ _ _ us hl => by obtain ⟨x0, rfl⟩ := len_1 hl; rfl
  have m8 := PySem.W.mg_of X G a8
  have F9 := fun_mk (st := s_unp) l9 cc9 k9
  have b9 := F9.binds (ps := ["pairs"]) fun _ _ _ _ _ _ us hl => by obtain ⟨x0, rfl⟩ := len_1 hl; rfl
  have m9 := PySem.W.mg_of X G a9
  have F10 := fun_mk (st := s_prd) l10 cc10 k10
  have b10 := F10.binds (ps := ["numbers"]) fun _ _ _ _ _ _ us hl => by obtain ⟨x0, rfl⟩ := len_1 hl; rfl
  have m10 := PySem.W.mg_of X G a10
  have F11 := fun_mk (st := s_size) l11 cc11 k11
  have b11 := F11.binds (ps := ["thing"]) fun _ _ _ _ _ _ us hl => by obtain ⟨x0, rfl⟩ := len_1 hl; rfl
  have m11 := PySem.W.mg_of X G a11
  have F12 := fun_mk (st := s_total) l12 cc12 k12
  have b12 := F12.binds (ps := ["thing"]) fun _ _ _ _ _ _ us hl => by obtain ⟨x0, rfl⟩ := len_1 hl; rfl
  have m12 := PySem.W.mg_of X G a12
  have F13 := fun_mk (st := s_isbk) l13 cc13 k13
  have b13 := F13.binds (ps := ["thing"]) fun _ _ _ _ _ _ us hl => by obtain ⟨x0, rfl⟩ := len_1 hl; rfl
  have m13 := PySem.W.mg_of X G a13
  have F14 := fun_mk (st := s_arebk) l14 cc14 k14
  have b14 := F14.binds (ps := ["things", "many"]) fun _ _ _ _ _ _ us hl => by obtain ⟨x0, x1, rfl⟩ := len_2 hl; rfl
  have m14 := PySem.W.mg_of X G a14
  have F15 := fun_mk (st := s_need) l15 cc15 k15
  have b15 := F15.binds (ps := ["size", "total"]) fun _ _ _ _ _ _ us hl => by obtain ⟨x0, x1, rfl⟩ := len_2 hl; rfl
  have m15 := PySem.W.mg_of X G a15
  have F16 := fun_mk (st := s_iscon) l16 cc16 k16
  have b16 := F16.binds (ps := ["thing"]) fun _ _ _ _ _ _ us hl => by obtain ⟨x0, rfl⟩ := len_1 hl; rfl
  have m16 := PySem.W.mg_of X G a16
  have F17 := fun_mk (st := s_nocon) l17 cc17 k17
  have b17 := F17.binds (ps := ["thing"]) fun _ _ _ _ _ _ us hl => by obtain ⟨x0, rfl⟩ := len_1 hl; rfl
  have m17 := PySem.W.mg_of X G a17
  have F18 := fun_mk (st := s_cbits) l18 cc18 k18
  have b18 := F18.binds (ps := ["container"]) fun _ _ _ _ _ _ us hl => by obtain ⟨x0, rfl⟩ := len_1 hl; rfl
  have m18 := PySem.W.mg_of X G a18
  have F19 := fun_mk (st := s_blks) l19 cc19 k19
  have b19 := F19.binds (ps := ["bits", "at", "heads"]) fun _ _ _ _ _ _ us hl => by obtain ⟨x0, x1, x2, rfl⟩ := len_3 hl; rfl
  have m19 := PySem.W.mg_of X G a19
  have F20 := fun_mk (st := s_rdc) l20 cc20 k20
  have b20 := F20.binds (ps := ["bits"]) fun _ _ _ _ _ _ us hl => by obtain ⟨x0, rfl⟩ := len_1 hl; rfl
  have m20 := PySem.W.mg_of X G a20
  have F21 := fun_mk (st := s_state) l21 cc21 k21
  have b21 := F21.binds (ps := ["script", "k"]) fun _ _ _ _ _ _ us hl => by obtain ⟨x0, x1, rfl⟩ := len_2 hl; rfl
  have m21 := PySem.W.mg_of X G a21
  have F22 := fun_mk (st := s_draw) l22 cc22 k22
  have b22 := F22.binds (ps := ["state", "many"]) fun _ _ _ _ _ _ us hl => by obtain ⟨x0, x1, rfl⟩ := len_2 hl; rfl
  have m22 := PySem.W.mg_of X G a22
  have F23 := fun_mk (st := s_lfirst) l23 cc23 k23
  have b23 := F23.binds (ps := ["script"]) fun _ _ _ _ _ _ us hl => by obtain ⟨x0, rfl⟩ := len_1 hl; rfl
  have m23 := PySem.W.mg_of X G a23
  have F24 := fun_mk (st := s_lend) l24 cc24 k24
  have b24 := F24.binds (ps := ["number"]) fun _ _ _ _ _ _ us hl => by obtain ⟨x0, rfl⟩ := len_1 hl; rfl
  have m24 := PySem.W.mg_of X G a24
  have F25 := fun_mk (st := s_lroww) l25 cc25 k25
  have b25 := F25.binds (ps := ["numbers"]) fun _ _ _ _ _ _ us hl => by obtain ⟨x0, rfl⟩ := len_1 hl; rfl
  have m25 := PySem.W.mg_of X G a25
  have F26 := fun_mk (st := s_lnum) l26 cc26 k26
  have b26 := F26.binds (ps := ["bits", "at"]) fun _ _ _ _ _ _ us hl => by obtain ⟨x0, x1, rfl⟩ := len_2 hl; rfl
  have m26 := PySem.W.mg_of X G a26
  have F27 := fun_mk (st := s_lrow) l27 cc27 k27
  have b27 := F27.binds (ps := ["bits", "at"]) fun _ _ _ _ _ _ us hl => by obtain ⟨x0, x1, rfl⟩ := len_2 hl; rfl
  have m27 := PySem.W.mg_of X G a27
  have F28 := fun_mk (st := s_blk) l28 cc28 k28
  have b28 := F28.binds (ps := ["state"]) fun _ _ _ _ _ _ us hl => by obtain ⟨x0, rfl⟩ := len_1 hl; rfl
  have m28 := PySem.W.mg_of X G a28
  have F29 := fun_mk (st := s_cont) l29 cc29 k29
  have b29 := F29.binds (ps := ["script"]) fun _ _ _ _ _ _ us hl => by obtain ⟨x0, rfl⟩ := len_1 hl; rfl
  have m29 := PySem.W.mg_of X G a29
  have F30 := fun_mk (st := s_wrt) l30 cc30 k30
  have b30 := F30.binds (ps := ["container"]) fun _ _ _ _ _ _ us hl => by obtain ⟨x0, rfl⟩ := len_1 hl; rfl
  have m30 := PySem.W.mg_of X G a30
  have F31 := fun_mk (st := s_due) l31 cc31 k31
  have b31 := F31.binds (ps := ["bits"]) fun _ _ _ _ _ _ us hl => by obtain ⟨x0, rfl⟩ := len_1 hl; rfl
  have m31 := PySem.W.mg_of X G a31
  have F32 := fun_mk (st := s_spo) l32 cc32 k32
  have b32 := F32.binds (ps := ["bits", "state"]) fun _ _ _ _ _ _ us hl => by obtain ⟨x0, x1, rfl⟩ := len_2 hl; rfl
  have m32 := PySem.W.mg_of X G a32
  have F33 := fun_mk (st := s_lrd) l33 cc33 k33
  have b33 := F33.binds (ps := ["bits"]) fun _ _ _ _ _ _ us hl => by obtain ⟨x0, rfl⟩ := len_1 hl; rfl
  have m33 := PySem.W.mg_of X G a33
  have F34 := fun_mk (st := s_law) l34 cc34 k34
  have n_isinstance := PySem.W.mg_none_of X G z_isinstance
  have n_list := PySem.W.mg_none_of X G z_list
  have n_int := PySem.W.mg_none_of X G z_int
  have n_bool := PySem.W.mg_none_of X G z_bool
  have n_len := PySem.W.mg_none_of X G z_len
  have n_range := PySem.W.mg_none_of X G z_range
  have n_max := PySem.W.mg_none_of X G z_max
  have n_ValueError := PySem.W.mg_none_of X G z_ValueError
  have n_tuple := PySem.W.mg_none_of X G z_tuple
  have n_min := PySem.W.mg_none_of X G z_min
  have n_sorted := PySem.W.mg_none_of X G z_sorted
  have n_all := PySem.W.mg_none_of X G z_all
  have n_dict := PySem.W.mg_none_of X G z_dict
  have m_PackError := PySem.W.mg_of X G e_PackError
  have X_PackError : Ex K mg "PackError" c_PackError := ⟨m_PackError, x0_PackError, ⟨x1_PackError, x2_PackError, x3_PackError, x4_PackError, x5_PackError, x6_PackError⟩⟩
  have m_Broken := PySem.W.mg_of X G e_Broken
  have X_Broken : Ex K mg "Broken" c_Broken := ⟨m_Broken, x0_Broken, ⟨x1_Broken, x2_Broken, x3_Broken, x4_Broken, x5_Broken, x6_Broken⟩⟩
  have m_NoCode := PySem.W.mg_of X G e_NoCode
  have m_NoName := PySem.W.mg_of X G e_NoName
  have m_NoNumber := PySem.W.mg_of X G e_NoNumber
  have X_NoNumber : Ex K mg "NoNumber" c_NoNumber := ⟨m_NoNumber, x0_NoNumber, ⟨x1_NoNumber, x2_NoNumber, x3_NoNumber, x4_NoNumber, x5_NoNumber, x6_NoNumber⟩⟩
  have m_NoPlace := PySem.W.mg_of X G e_NoPlace
  have m_NoRow := PySem.W.mg_of X G e_NoRow
  have m_NoText := PySem.W.mg_of X G e_NoText
  refine ⟨PySem.W.fnOf "law" "law" (defArgs s_law) (defBody s_law) (defScope s_law) .none kV34 dc34 pm34 an34 cd34 ct34, fun s v => .of_eq rfl, fun base _ _ => ?_⟩
  have m_GS : GSg mg := ⟨_, PySem.W.mg_of X G g_GREATEST_SIZE, ⟨_, rfl⟩⟩
  have m_MS : MSg mg := ⟨_, PySem.W.mg_of X G g_MOST_SIGNS, ⟨_, rfl⟩⟩
  have B : Bls mg := ⟨n_isinstance, n_list, n_int, n_bool, n_len, n_range, n_max, n_ValueError, n_tuple, n_min, n_sorted, n_all, n_dict⟩
  have r_Broken : ExR K c_PackError c_Broken c_NoCode c_NoName c_NoNumber c_NoPlace c_NoRow c_NoText := ⟨xm_Broken, xv_Broken, xo_Broken⟩
  have k_Broken : ExK K c_Broken c_NoNumber c_NoPlace c_NoCode c_NoName c_NoRow c_NoText := ⟨xk_Broken_NoNumber, xk_Broken_NoPlace, xk_Broken_NoCode, xk_Broken_NoName, xk_Broken_NoRow, xk_Broken_NoText⟩
  have G_low := ok_low (P := l.prog) (w := w) (mg := mg) (base := base) F1 X_NoNumber n_len
  have G_num := ok_num (P := l.prog) (w := w) (mg := mg) (base := base) F2 
  have G_end := ok_end (P := l.prog) (w := w) (mg := mg) (base := base) F3 X_NoNumber G_low b1 k1 m1
  have G_first := ok_first (P := l.prog) (w := w) (mg := mg) (base := base) F4 X_Broken B.bl
  have G_read := ok_read (P := l.prog) (w := w) (mg := mg) (base := base) F5 X_Broken B.bl G_first b4 k4 m4 G_num b2 k2 m2
  have G_row := ok_row (P := l.prog) (w := w) (mg := mg) (base := base) F6 B G_end b3 k3 m3
  have G_rdrow := ok_rdrow (P := l.prog) (w := w) (mg := mg) (base := base) F7 B G_read b5 k5 m5
  have G_whole := ok_whole (P := l.prog) (w := w) (mg := mg) (base := base) F8 B
  have G_unp := ok_unp (P := l.prog) (w := w) (mg := mg) (base := base) F9 B
  have G_prd := ok_prd (P := l.prog) (w := w) (mg := mg) (base := base) F10 B X_Broken m_Broken
  have G_size := ok_size (P := l.prog) (w := w) (mg := mg) (base := base) F11 B m_GS G_whole b8 k8 m8
  have G_total := ok_total (P := l.prog) (w := w) (mg := mg) (base := base) F12 B m_MS G_whole b8 k8 m8
  have G_isbk := ok_isbk (P := l.prog) (w := w) (mg := mg) (base := base) F13 B G_whole b8 k8 m8
  have G_arebk := ok_arebk (P := l.prog) (w := w) (mg := mg) (base := base) F14 B G_isbk b13 k13 m13
  have G_need := ok_need (P := l.prog) (w := w) (mg := mg) (base := base) F15 B
  have G_iscon := ok_iscon (P := l.prog) (w := w) (mg := mg) (base := base) F16 B G_size b11 k11 m11 G_total b12 k12 m12 G_arebk b14 k14 m14 G_need b15 k15 m15
  have G_nocon := ok_nocon (P := l.prog) (w := w) (mg := mg) (base := base) F17 B X_Broken m_Broken G_iscon b16 k16 m16
  have G_cbits := ok_cbits (P := l.prog) (w := w) (mg := mg) (base := base) F18 B G_row b6 k6 m6 G_unp b9 k9 m9 G_nocon b17 k17 m17
  have G_blks := ok_blks (P := l.prog) (w := w) (mg := mg) (base := base) F19 B X_Broken m_Broken
  have G_rdc := ok_rdc (P := l.prog) (w := w) (mg := mg) (base := base) F20 B X_Broken m_Broken G_rdrow b7 k7 m7 G_prd b10 k10 m10 G_nocon b17 k17 m17 G_blks b19 k19 m19
  have G_state := ok_state (P := l.prog) (w := w) (mg := mg) (base := base) F21 B
  have G_draw := ok_draw (P := l.prog) (w := w) (mg := mg) (base := base) F22 B
  have G_lfirst := ok_lfirst (P := l.prog) (w := w) (mg := mg) (base := base) F23 B
  have G_lend := ok_lend (P := l.prog) (w := w) (mg := mg) (base := base) F24 B
  have G_lroww := ok_lroww (P := l.prog) (w := w) (mg := mg) (base := base) F25 B G_lend b24 k24 m24
  have G_lnum := ok_lnum (P := l.prog) (w := w) (mg := mg) (base := base) F26 B
  have G_lrow := ok_lrow (P := l.prog) (w := w) (mg := mg) (base := base) F27 B G_lnum b26 k26 m26
  have G_blk := ok_blk (P := l.prog) (w := w) (mg := mg) (base := base) F28 B G_draw b22 k22 m22
  have G_cont := ok_cont (P := l.prog) (w := w) (mg := mg) (base := base) F29 B G_state b21 k21 m21 G_lfirst b23 k23 m23 G_blk b28 k28 m28
  have G_wrt := ok_wrt (P := l.prog) (w := w) (mg := mg) (base := base) F30 B G_lroww b25 k25 m25
  have G_due := ok_due (P := l.prog) (w := w) (mg := mg) (base := base) F31 B G_lrow b27 k27 m27
  have G_spo := ok_spo (P := l.prog) (w := w) (mg := mg) (base := base) F32 B G_draw b22 k22 m22
  have G_lrd := ok_lrd (P := l.prog) (w := w) (mg := mg) (base := base) F33 B X_Broken X_PackError m_Broken m_NoCode m_NoName m_NoNumber m_NoPlace m_NoRow m_NoText m_PackError r_Broken k_Broken G_rdc b20 k20 m20 G_due b31 k31 m31
  exact ok_law (P := l.prog) (w := w) (mg := mg) (base := base) F34 B G_cbits b18 k18 m18 G_rdc b20 k20 m20 G_state b21 k21 m21 G_cont b29 k29 m29 G_wrt b30 k30 m30 G_spo b32 k32 m32 G_lrd b33 k33 m33
theorem walk {l : PySem.W.OpenLaw} {q : Program} {loose : List Str} {XP : (Str → Option Value) → Heap → Prop} {YP : World → Heap → Prop} {d : DefRec} {K : Params → PySem.W.Frag} (hn : l.most = some 63) (hdf : d.params.defaults = [])
    (hY : ∀ (w : World) (h : Heap), YP w h → (K w.params).In h)
    (F : ∀ (w : World) (mg : Str → Option Value) (fa : Addr) (h : Heap), (K w.params).In h → h.Ns mainGlobals mg → mg d.name = some (.ref fa) →
      ∃ fd : FuncData, (∀ (s : Shared) (u : Value), BindsTo s fd ⟨[u], []⟩ [("script", u)]) ∧ ∀ base : Heap, (K w.params).In base → base.Ns mainGlobals mg → FnOk l.prog w (K w.params) mg base (CXW l.prog w) 8 fa fd ["script"] (spLaw (K w.params))) :
    PySem.W.WalkO q loose XP YP l.row.toRowW d [] (fun f vs => PySem.call f vs) :=
  L2.walk_of (n := 63) (k := 8) (x := "script") (CX := fun w => CXW l.prog w) (sp := fun w => spLaw (K w.params)) hn (by decide) hdf ⟨rfl, by decide, by decide⟩ hY F (fun _ _ a ns hl _ hS => ⟨a, ns, rfl, hS, hl, fun _ => rfl⟩) fun _ _ _ _ _ z => by
    obtain ⟨_, _, _, _, _, _, _, _, _, _, _, _, _, hE⟩ := z
    exact hE
end
end K63
theorem PySem.W.Fast.tw13626259792804535176:True:=trivial
theorem PySem.W.Fast.tw9270007568220561303:True:=trivial
theorem PySem.W.Fast.tw4378423957655273776:True:=trivial
theorem PySem.W.Fast.tw10025245471417315632:True:=trivial
theorem PySem.W.Fast.tw3374904050399671058:True:=trivial
theorem PySem.W.Fast.tw10519467279060017746:True:=trivial
theorem PySem.W.Fast.tw6825716838949215116:True:=trivial
theorem PySem.W.Fast.tw3657305988254704614:True:=trivial
theorem PySem.W.Fast.tw9310248127201796849:True:=trivial
theorem PySem.W.Fast.tw590580933468185025:True:=trivial
theorem PySem.W.Fast.tw2105952803222850860:True:=trivial
theorem PySem.W.Fast.tw7771533306765937784:True:=trivial
theorem PySem.W.Fast.tw18258610333976568033:True:=trivial
theorem PySem.W.Fast.tw9230307758899341969:True:=trivial
theorem PySem.W.Fast.tw10066148940522048816:True:=trivial
theorem PySem.W.Fast.tw2461909689798640851:True:=trivial
theorem PySem.W.Fast.tw6434235382269910190:True:=trivial
theorem PySem.W.Fast.tw6731414767843981668:True:=trivial
theorem PySem.W.Fast.tw12709960062359380316:True:=trivial
theorem PySem.W.Fast.tw14286547622223957552:True:=trivial
theorem PySem.W.Fast.tw3187555763836624415:True:=trivial
theorem PySem.W.Fast.tw18287800919883873725:True:=trivial
theorem PySem.W.Fast.tw9095379345755866239:True:=trivial
theorem PySem.W.Fast.tw891902035267643507:True:=trivial
theorem PySem.W.Fast.tw17807726789794675110:True:=trivial
theorem PySem.W.Fast.tw5786098414039559615:True:=trivial
theorem PySem.W.Fast.tw14111544891119313852:True:=trivial
theorem PySem.W.Fast.tw9190805194541279337:True:=trivial
theorem PySem.W.Fast.tw6684519696838779787:True:=trivial
theorem PySem.W.Fast.tw1772909514920311192:True:=trivial
theorem PySem.W.Fast.tw2492117135354829305:True:=trivial
theorem PySem.W.Fast.tw13295814430918701228:True:=trivial
theorem PySem.W.Fast.tw14934363375859110789:True:=trivial
theorem PySem.W.Fast.tw8241804785303113339:True:=trivial
theorem PySem.W.Fast.tw11900348675071530488:True:=trivial
theorem PySem.W.Fast.tw710554981989819681:True:=trivial
open PySem PySem.W PyProof.Rows
set_option maxRecDepth 100000 in
set_option maxHeartbeats 0 in
theorem PySem.Challenge.cw_packhall_k63_bits_of_containers_holds : PySem.Challenge.rw_packhall_k63_bits_of_containers.Holds := by
  w_on; o_law; k_head; (case hw => w_witness2)
  k_fill
  refine K63.walk (l := PySem.Challenge.rw_packhall_k63_bits_of_containers) rfl rfl (fun w h Y => PySem.W.kIn_of Y) ?F
  case F =>
    intro w mg fa h KX G hmg
    refine' K63.all_mk KX G hmg ?a1 ?l1 ?cc1 ?k1 ?a2 ?l2 ?cc2 ?k2 ?a3 ?l3 ?cc3 ?k3 ?a4 ?l4 ?cc4 ?k4 ?a5 ?l5 ?cc5 ?k5 ?a6 ?l6 ?cc6 ?k6 ?a7 ?l7 ?cc7 ?k7 ?a8 ?l8 ?cc8 ?k8 ?a9 ?l9 ?cc9 ?k9 ?a10 ?l10 ?cc10 ?k10 ?a11 ?l11 ?cc11 ?k11 ?a12 ?l12 ?cc12 ?k12 ?a13 ?l13 ?cc13 ?k13 ?a14 ?l14 ?cc14 ?k14 ?a15 ?l15 ?cc15 ?k15 ?a16 ?l16 ?cc16 ?k16 ?a17 ?l17 ?cc17 ?k17 ?a18 ?l18 ?cc18 ?k18 ?a19 ?l19 ?cc19 ?k19 ?a20 ?l20 ?cc20 ?k20 ?a21 ?l21 ?cc21 ?k21 ?a22 ?l22 ?cc22 ?k22 ?a23 ?l23 ?cc23 ?k23 ?a24 ?l24 ?cc24 ?k24 ?a25 ?l25 ?cc25 ?k25 ?a26 ?l26 ?cc26 ?k26 ?a27 ?l27 ?cc27 ?k27 ?a28 ?l28 ?cc28 ?k28 ?a29 ?l29 ?cc29 ?k29 ?a30 ?l30 ?cc30 ?k30 ?a31 ?l31 ?cc31 ?k31 ?a32 ?l32 ?cc32 ?k32 ?a33 ?l33 ?cc33 ?k33 ?a34 ?l34 ?cc34 ?k34 ?z_isinstance ?z_list ?z_int ?z_bool ?z_len ?z_range ?z_max ?z_ValueError ?z_tuple ?z_min ?z_sorted ?z_all ?z_dict ?e_PackError ?x0_PackError ?x1_PackError ?x2_PackError ?x3_PackError ?x4_PackError ?x5_PackError ?x6_PackError ?e_Broken ?x0_Broken ?x1_Broken ?x2_Broken ?x3_Broken ?x4_Broken ?x5_Broken ?x6_Broken ?e_NoCode ?e_NoName ?e_NoNumber ?x0_NoNumber ?x1_NoNumber ?x2_NoNumber ?x3_NoNumber ?x4_NoNumber ?x5_NoNumber ?x6_NoNumber ?e_NoPlace ?e_NoRow ?e_NoText ?xm_Broken ?xv_Broken ?xo_Broken ?xk_Broken_NoNumber ?xk_Broken_NoPlace ?xk_Broken_NoCode ?xk_Broken_NoName ?xk_Broken_NoRow ?xk_Broken_NoText ?g_MOST_SIGNS ?g_GREATEST_SIZE
    (case a1 => k_is)
    (case l1 => k_is)
    (case cc1 => k_is)
    (case k1 => k_is)
    (case a2 => k_is)
    (case l2 => k_is)
    (case cc2 => k_is)
    (case k2 => k_is)
    (case a3 => k_is)
    (case l3 => k_is)
    (case cc3 => k_is)
    (case k3 => k_is)
    (case a4 => k_is)
    (case l4 => k_is)
    (case cc4 => k_is)
    (case k4 => k_is)
    (case a5 => k_is)
    (case l5 => k_is)
    (case cc5 => k_is)
    (case k5 => k_is)
    (case a6 => k_is)
    (case l6 => k_is)
    (case cc6 => k_is)
    (case k6 => k_is)
    (case a7 => k_is)
    (case l7 => k_is)
    (case cc7 => k_is)
    (case k7 => k_is)
    (case a8 => k_is)
    (case l8 => k_is)
    (case cc8 => k_is)
    (case k8 => k_is)
    (case a9 => k_is)
    (case l9 => k_is)
    (case cc9 => k_is)
    (case k9 => k_is)
    (case a10 => k_is)
    (case l10 => k_is)
    (case cc10 => k_is)
    (case k10 => k_is)
    (case a11 => k_is)
    (case l11 => k_is)
    (case cc11 => k_is)
    (case k11 => k_is)
    (case a12 => k_is)
    (case l12 => k_is)
    (case cc12 => k_is)
    (case k12 => k_is)
    (case a13 => k_is)
    (case l13 => k_is)
    (case cc13 => k_is)
    (case k13 => k_is)
    (case a14 => k_is)
    (case l14 => k_is)
    (case cc14 => k_is)
    (case k14 => k_is)
    (case a15 => k_is)
    (case l15 => k_is)
    (case cc15 => k_is)
    (case k15 => k_is)
    (case a16 => k_is)
    (case l16 => k_is)
    (case cc16 => k_is)
    (case k16 => k_is)
    (case a17 => k_is)
    (case l17 => k_is)
    (case cc17 => k_is)
    (case k17 => k_is)
    (case a18 => k_is)
    (case l18 => k_is)
    (case cc18 => k_is)
    (case k18 => k_is)
    (case a19 => k_is)
    (case l19 => k_is)
    (case cc19 => k_is)
    (case k19 => k_is)
    (case a20 => k_is)
    (case l20 => k_is)
    (case cc20 => k_is)
    (case k20 => k_is)
    (case a21 => k_is)
    (case l21 => k_is)
    (case cc21 => k_is)
    (case k21 => k_is)
    (case a22 => k_is)
    (case l22 => k_is)
    (case cc22 => k_is)
    (case k22 => k_is)
    (case a23 => k_is)
    (case l23 => k_is)
    (case cc23 => k_is)
    (case k23 => k_is)
    (case a24 => k_is)
    (case l24 => k_is)
    (case cc24 => k_is)
    (case k24 => k_is)
    (case a25 => k_is)
    (case l25 => k_is)
    (case cc25 => k_is)
    (case k25 => k_is)
    (case a26 => k_is)
    (case l26 => k_is)
    (case cc26 => k_is)
    (case k26 => k_is)
    (case a27 => k_is)
    (case l27 => k_is)
    (case cc27 => k_is)
    (case k27 => k_is)
    (case a28 => k_is)
    (case l28 => k_is)
    (case cc28 => k_is)
    (case k28 => k_is)
    (case a29 => k_is)
    (case l29 => k_is)
    (case cc29 => k_is)
    (case k29 => k_is)
    (case a30 => k_is)
    (case l30 => k_is)
    (case cc30 => k_is)
    (case k30 => k_is)
    (case a31 => k_is)
    (case l31 => k_is)
    (case cc31 => k_is)
    (case k31 => k_is)
    (case a32 => k_is)
    (case l32 => k_is)
    (case cc32 => k_is)
    (case k32 => k_is)
    (case a33 => k_is)
    (case l33 => k_is)
    (case cc33 => k_is)
    (case k33 => k_is)
    (case a34 => k_is)
    (case l34 => k_is)
    (case cc34 => k_is)
    (case k34 => k_is)
    (case z_isinstance => k_is)
    (case z_list => k_is)
    (case z_int => k_is)
    (case z_bool => k_is)
    (case z_len => k_is)
    (case z_range => k_is)
    (case z_max => k_is)
    (case z_ValueError => k_is)
    (case z_tuple => k_is)
    (case z_min => k_is)
    (case z_sorted => k_is)
    (case z_all => k_is)
    (case z_dict => k_is)
    (case e_PackError => k_is)
    (case x0_PackError => k_exc)
    (case x1_PackError => k_is)
    (case x2_PackError => k_is)
    (case x3_PackError => k_is)
    (case x4_PackError => k_is)
    (case x5_PackError => k_is)
    (case x6_PackError => k_is)
    (case e_Broken => k_is)
    (case x0_Broken => k_exc)
    (case x1_Broken => k_is)
    (case x2_Broken => k_is)
    (case x3_Broken => k_is)
    (case x4_Broken => k_is)
    (case x5_Broken => k_is)
    (case x6_Broken => k_is)
    (case e_NoCode => k_is)
    (case e_NoName => k_is)
    (case e_NoNumber => k_is)
    (case x0_NoNumber => k_exc)
    (case x1_NoNumber => k_is)
    (case x2_NoNumber => k_is)
    (case x3_NoNumber => k_is)
    (case x4_NoNumber => k_is)
    (case x5_NoNumber => k_is)
    (case x6_NoNumber => k_is)
    (case e_NoPlace => k_is)
    (case e_NoRow => k_is)
    (case e_NoText => k_is)
    (case xm_Broken => k_is)
    (case xv_Broken => kit_is)
    (case xo_Broken => kit_is)
    (case xk_Broken_NoNumber => kit_is)
    (case xk_Broken_NoPlace => kit_is)
    (case xk_Broken_NoCode => kit_is)
    (case xk_Broken_NoName => kit_is)
    (case xk_Broken_NoRow => kit_is)
    (case xk_Broken_NoText => kit_is)
    (case g_MOST_SIGNS => k_is)
    (case g_GREATEST_SIZE => k_is)

